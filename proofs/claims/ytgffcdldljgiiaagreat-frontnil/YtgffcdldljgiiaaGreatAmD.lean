/- How many lines, how many bytes. -/
import Derived.Test.YtgffcdldljgiiaaGreatAmC
import Derived.Test.YtgffcdldljgiiaaGreatRfX
namespace Go.Proofs.YtgffcdldljgiiaaGreat
open Go.RowKit
attribute [local go_sem] Oper.semAt_some
theorem callFnA {f : FuncId} {fn : Func} (hf : Tryz.prog.funcs[f]? = some fn) (hn : (fn.name == "runtime.NumGoroutine") = false) (hb : fn.body.isNone = false) (args : Array Value) (w : World) : (callFunc f args).run Tryz.prog w = .ok (.enter f args) w := by
  have h1 : fn.name ≠ "runtime.NumGoroutine" := by simpa using hn
  have h2 : fn.body ≠ none := by intro e; rw [e] at hb; cases hb
  simp [callFunc, hf, h1, h2]
def stAt (L : List Stp) (i : Nat) : Stp := L[i]?.getD ⟨0, 0, 1, 1⟩
theorem stAt_some {L : List Stp} {i : Nat} (h : i < L.length) : L[i]? = some (stAt L i) := by unfold stAt; rw [List.getElem?_eq_getElem h]; rfl
def psE (L : List Stp) (W H : Int) (i : Nat) : Array Value := #[.int .i64 ((i : Int) + 1), PsV (stAt L i) (wid (stAt L i) W H) (hig (stAt L i) W H)]
def psN (L : List Stp) (W H : Int) : Nat := if picN W H then L.length else 0
theorem passes_iter (s sb : Nat) (W H : Int) (L : List Stp) (hL : ∀ p ∈ L, p.ok) (hl : L.length ≤ 7) : IxIter Tryz.prog 125 #[.pointer (some ⟨s, 0, none⟩), .pointer (some ⟨s + 1, 0, none⟩), .pointer (some ⟨s + 2, 0, none⟩)] (psE L W H) (fun w => Bx w s W H sb L) (psN L W H) := by
  intro l J Dn W0 hJ hJb h0 hY
  refine (passes1_any s sb l W H L J Dn W0 hL hl hJ hJb h0 ?_).mono ?_
  · intro i p W1 hp hi hj
    have hlt : i < L.length := by
      by_cases h : i < L.length
      · exact h
      · rw [List.getElem?_eq_none (by omega)] at hi; cases hi
    have e := stAt_some hlt
    rw [hi] at e
    simp only [Option.some.injEq] at e
    subst e
    exact hY i W1 (by unfold psN; rw [if_pos hp]; exact hlt) hj
  · exact fun e W' h => h
/-- The sum of numbers of the first passes. -/
def sumF (f : Nat → Int) : Nat → Int
  | 0 => 0
  | n + 1 => sumF f n + f n
theorem sumF_bd {f : Nat → Int} {B : Int} (h : ∀ i, 0 ≤ f i ∧ f i ≤ B) : ∀ n : Nat, 0 ≤ sumF f n ∧ sumF f n ≤ n * B
  | 0 => by simp [sumF]
  | n + 1 => by
    have := sumF_bd h n
    have := h n
    rw [sumF, show ((n + 1 : Nat) : Int) * B = n * B + B by rw [Int.natCast_add, Int.add_mul]; simp]
    omega
theorem stAt_ok {L : List Stp} (hL : ∀ p ∈ L, p.ok) (i : Nat) : (stAt L i).ok := by
  by_cases h : i < L.length
  · exact hL _ (List.mem_of_getElem? (stAt_some h))
  · unfold stAt; rw [List.getElem?_eq_none (by omega)]; decide
def higAt (L : List Stp) (W H : Int) (i : Nat) : Int := hig (stAt L i) W H
def widAt (L : List Stp) (W H : Int) (i : Nat) : Int := wid (stAt L i) W H
/-- Between two rounds: the boxes, the number so far. -/
structure CtI (w : World) (s sb nb : Nat) (W H : Int) (L : List Stp) (f : Nat → Int) (k : Nat) (wr : World) : Prop where
  bx : Bx wr s W H sb L
  cn : wr.heap[nb]? = some (.cells #[.int .i64 (sumF f k)] 3 (0, 0))
  be : Below w.heap.size w wr
  ne : nb < sb ∧ nb < s ∧ w.heap.size ≤ nb
theorem CtI.ig {w : World} {s sb nb : Nat} {W H : Int} {L : List Stp} {f : Nat → Int} {k l D : Nat} {wr w' : World} (h : CtI w s sb nb W H L f k wr) (hi : Ig l D wr w') (hl : w.heap.size ≤ l) (hD : w.heap.size ≤ D) : CtI w s sb nb W H L f k w' := by
  refine ⟨h.bx.same fun k o hk ho => ?_, hi.cells h.cn, hi.below h.be hl hD (Nat.le_refl _), h.ne⟩
  obtain ⟨c, t, f, rfl, -⟩ := ho
  exact hi.cells hk
theorem CtI.old {w : World} {s sb nb : Nat} {W H : Int} {L : List Stp} {f : Nat → Int} {k : Nat} {wr w' : World} (h : CtI w s sb nb W H L f k wr) (hb : Below wr.heap.size wr w') : CtI w s sb nb W H L f k w' :=
  ⟨h.bx.old hb, (hb.block _ (lt_of_block h.cn)).trans h.cn, h.be.trans (hb.mono h.be.size), h.ne⟩
theorem CtI.step {w : World} {s sb nb : Nat} {W H : Int} {L : List Stp} {f : Nat → Int} {k : Nat} {wr : World} {v : Int} (h : CtI w s sb nb W H L f k wr) (hv : v = sumF f k + f k) : CtI w s sb nb W H L f (k + 1) (wr.setCell ⟨nb, 0, none⟩ (.int .i64 v)) := by
  have hn := h.ne
  have oth : ∀ k, k ≠ nb → (wr.setCell ⟨nb, 0, none⟩ (.int .i64 v)).heap[k]? = wr.heap[k]? := fun k hk => Below.heap_setCell _ _ _ _ hk
  refine ⟨⟨(oth _ (by omega)).trans h.bx.b0, (oth _ (by omega)).trans h.bx.b1, (oth _ (by omega)).trans h.bx.b2, (oth _ (by omega)).trans h.bx.st⟩, ?_, h.be.setCell (p := ⟨nb, 0, none⟩) hn.2.2 _, hn⟩
  rw [heap_setCell_same wr nb 0 _ _ _ h.cn, hv]; rfl
theorem one_cellA {w : World} {b : Nat} {v : Value} {t : TypeId} (h : w.heap[b]? = some (.cells #[v] t (0, 0))) : w.cell? ⟨b, 0, none⟩ = some v ∧ w.frozen? ⟨b, 0, none⟩ = false := by
  constructor <;> simp [World.cell?, World.frozen?, h]
set_option maxHeartbeats 1600000 in
set_option maxRecDepth 20000 in
theorem count_any (W H : Int) (b : Bool) (w : World) : Calls Tryz.prog 271 #[.int .i64 W, .int .i64 H, .bool b] w fun e w' => e = .returned (.int .i64 (sumF (higAt (pngOf b) W H) (psN (pngOf b) W H))) ∧ Below w.heap.size w w' := by
  obtain ⟨L, hL⟩ : ∃ L, pngOf b = L := ⟨_, rfl⟩
  have HL : Hid ((∀ p ∈ L, p.ok) ∧ L.length ≤ 7) := by rw [← hL]; exact ⟨pngOf_ok b, by cases b <;> decide⟩
  rw [hL]
  refine calls_of_wp_marks Tryz.func271 rfl ?_
  simp only [Tryz.ntmps271, List.size_toArray, List.length_cons, List.length_nil, Nat.reduceAdd, Nat.reduceSub, Array.replicate_succ, Array.replicate_zero, List.push_toArray, List.append_toArray, List.nil_append, List.cons_append]
  have hL' : Hid (pngOf b = L) := hL
  clear hL
  go_wp2_with fail
  have hL := hL'.out
  clear hL'
  obtain ⟨wn, hwn⟩ : ∃ wn, w.alloc (.cells #[.int .i64 0] 3) = wn := ⟨_, rfl⟩
  have HN : Hid (wn.heap[w.heap.size]? = some (.cells #[.int .i64 0] 3 (0, 0)) ∧ Below w.heap.size w wn) := ⟨by rw [← hwn]; exact World.alloc_heap_new w _, by rw [← hwn]; exact (Below.refl _ w).alloc (Nat.le_refl _) _⟩
  have CS := pngSteps_any b wn
  rw [hL] at CS
  have CP : ∀ w1, Calls Tryz.prog 103 #[.int .i64 W, .int .i64 H, .slice (some ⟨wn.heap.size, 0, none⟩) L.length L.length] w1 _ := fun w1 => passes_any W H _ _ _ w1
  clear hL
  rw [hwn]
  refine CS.mono ?_
  clear CS
  rintro e w1 ⟨rfl, hw1⟩
  have H1 : Hid (StRow w1 wn.heap.size L ∧ Below wn.heap.size wn w1) := by rw [hw1]; exact ⟨StRow.new wn L, (Below.refl _ wn).alloc (Nat.le_refl _) _⟩
  clear hw1 hwn
  go_wp2_with fail
  refine (CP w1).mono ?_
  clear CP
  rintro e w2 ⟨rfl, hw2⟩
  have H2 : Hid (CtI w w1.heap.size wn.heap.size w.heap.size W H L (higAt L W H) 0 w2) := by
    have hb : Below w1.heap.size w1 w2 := by rw [hw2]; exact below_boxW ..
    refine ⟨by rw [hw2]; exact Bx.new H1.out.1, (hb.block _ (Nat.lt_of_lt_of_le (lt_of_block HN.out.1) H1.out.2.size)).trans ((H1.out.2.block _ (lt_of_block HN.out.1)).trans HN.out.1), ?_, ?_⟩
    · exact (HN.out.2.trans (H1.out.2.mono HN.out.2.size)).trans (hb.mono (Nat.le_trans HN.out.2.size H1.out.2.size))
    · have := lt_of_block HN.out.1; have := H1.out.2.size; exact ⟨by omega, by omega, Nat.le_refl _⟩
  clear hw2 HN H1
  unfold boxF
  generalize w1.heap.size = s at *
  generalize wn.heap.size = sb at *
  go_wp2
  have hsz := H2.out.be.size
  refine wp_range_ix (gf := 125) rfl (callFnA Tryz.func125 (by kernel_rfl) (by kernel_rfl)) (passes_iter s sb W H L HL.out.1 HL.out.2) (fun _ => rfl) (CtI w s sb w.heap.size W H L (higAt L W H)) (fun _ _ => False) (fun i Wa Wb h hi => h.ig hi (by omega) hsz) (fun _ _ _ h _ => h) (fun i Wa h => h.bx) H2.out ?body ?done (fun _ _ h _ _ => h.elim)
  case body =>
    intro i Wa hi HI hlp hdf
    unfold psE PsV
    simp only [List.zip_toArray, List.zip_cons_cons, List.zip_nil_right, List.foldl_toArray, List.foldl_cons, List.foldl_nil, List.setIfInBounds_toArray, List.set_cons_succ, List.set_cons_zero]
    have hbd := hig_bd (stAt_ok HL.out.1 i) (w := W) (h := H)
    have hs0 : 0 ≤ sumF (higAt L W H) i ∧ sumF (higAt L W H) i ≤ 7 * 2048 := by
      have hp : picN W H := by by_cases hp : picN W H; exact hp; (unfold psN at hi; rw [if_neg hp] at hi; omega)
      have h1 := sumF_bd (f := higAt L W H) (B := 2048) (fun j => hig_bd (stAt_ok HL.out.1 j) hp.2.2.2.1) i
      have h2 : i ≤ 7 := by unfold psN at hi; rw [if_pos hp] at hi; have := HL.out.2; omega
      omega
    have hh0 : 0 ≤ higAt L W H i ∧ higAt L W H i ≤ 2048 := by
      have hp : picN W H := by by_cases hp : picN W H; exact hp; (unfold psN at hi; rw [if_neg hp] at hi; omega)
      exact hig_bd (stAt_ok HL.out.1 i) hp.2.2.2.1
    have he : hig (stAt L i) W H = higAt L W H i := rfl
    rw [he]
    generalize wid (stAt L i) W H = A
    generalize stAt L i = p
    have HII : Hid (CtI w s sb w.heap.size W H L (higAt L W H) i Wa) := HI
    obtain ⟨r1, hr1⟩ := hlp
    obtain ⟨r2, hr2⟩ := hdf
    have hlt1 := lt_of_block hr1
    have HR : Hid (Wa.heap[w2.heap.size + 1]? = some (.loop r1) ∧ Wa.heap[w2.heap.size]? = some (.deferred r2)) := ⟨hr1, hr2⟩
    clear HI hr1 hr2 he hbd
    obtain ⟨S, hS⟩ : ∃ S, sumF (higAt L W H) i = S := ⟨_, rfl⟩
    obtain ⟨B, hB⟩ : ∃ B, higAt L W H i = B := ⟨_, rfl⟩
    rw [hS] at hs0
    rw [hB] at hh0 ⊢
    have HSB : Hid (sumF (higAt L W H) i = S ∧ higAt L W H i = B) := ⟨hS, hB⟩
    clear hS hB
    gi_wp2
    obtain ⟨Wb, hWb⟩ : ∃ Wb, Wa.alloc (.cells #[.int .i64 p.x, .int .i64 p.y, .int .i64 p.dx, .int .i64 p.dy, .int .i64 A, .int .i64 B] 198) = Wb := ⟨_, rfl⟩
    have hbel : Below Wa.heap.size Wa Wb := by rw [← hWb]; exact (Below.refl _ Wa).alloc (Nat.le_refl _) _
    have hbox : Wb.heap[Wa.heap.size]? = some (.cells #[.int .i64 p.x, .int .i64 p.y, .int .i64 p.dx, .int .i64 p.dy, .int .i64 A, .int .i64 B] 198 (0, 0)) := by rw [← hWb]; exact World.alloc_heap_new Wa _
    rw [hWb]
    refine ⟨hbel.block _ (lt_of_block HR.out.1), hbel.block _ (lt_of_block HR.out.2), ?_⟩
    intro o hig ho hdf ho2
    have HC : Hid (CtI w s sb w.heap.size W H L (higAt L W H) i (Wb.putObj (w2.heap.size + 1) o)) := (HII.out.old hbel).ig hig (by omega) hsz
    have hbx2 := hig.cells hbox
    generalize Wb.putObj (w2.heap.size + 1) o = Wc at *
    have k0 : Wc.cell? ⟨Wa.heap.size, 5, none⟩ = some (.int .i64 B) := by simp [World.cell?, hbx2]
    obtain ⟨k1, f1⟩ := one_cellA HC.out.cn
    rw [HSB.out.1] at k1
    have HE : Hid (CtI w s sb w.heap.size W H L (higAt L W H) (i + 1) (Wc.setCell ⟨w.heap.size, 0, none⟩ (.int .i64 (S + B)))) := HC.out.step (by rw [HSB.out.1, HSB.out.2])
    have HE2 : Hid ((Wc.setCell ⟨w.heap.size, 0, none⟩ (.int .i64 (S + B))).heap[w2.heap.size + 1]? = Wc.heap[w2.heap.size + 1]? ∧ (Wc.setCell ⟨w.heap.size, 0, none⟩ (.int .i64 (S + B))).heap[w2.heap.size]? = Wc.heap[w2.heap.size]?) := by
      have := HC.out.ne
      have hw2 : w.heap.size < w2.heap.size := Nat.lt_of_lt_of_le (lt_of_block H2.out.cn) (Nat.le_refl _)
      exact ⟨Below.heap_setCell _ _ _ _ (by show w2.heap.size + 1 ≠ w.heap.size; omega), Below.heap_setCell _ _ _ _ (by show w2.heap.size ≠ w.heap.size; omega)⟩
    clear hbel hbox hWb hig ho hdf ho2 hbx2 HII HR
    gi_wp2
    exact ⟨HE2.out.1, HE2.out.2, HE.out⟩
  case done =>
    intro Wa HI hD hlp
    have k1 := (one_cellA HI.cn).1
    have HP : Hid (Below w.heap.size w (Wa.putObj w2.heap.size (.deferred none))) := ⟨HI.be.os, HI.be.tape, HI.be.output, by rw [World.putObj_size]; exact HI.be.size, fun k hk => by rw [World.putObj_heap_other (by omega)]; exact HI.be.block k hk⟩
    have HDD : Hid (Wa.heap[w2.heap.size]? = some (.deferred (some []))) := hD
    clear HI hlp hD H2
    go_wp2
    refine ⟨by simp, .inl ⟨_, _, rfl, run_takeDeferred HDD.out, ?_⟩⟩
    refine ⟨_, results_tmp rfl _ _ _, ?_⟩
    simp only [Array.getD_eq_getD_getElem?, List.getElem?_toArray, List.getElem?_cons_succ, List.getElem?_cons_zero, Option.getD_some]
    exact ⟨trivial, HP.out⟩
end Go.Proofs.YtgffcdldljgiiaaGreat
