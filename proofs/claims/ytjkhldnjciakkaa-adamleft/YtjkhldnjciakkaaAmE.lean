/- How many bytes. -/
import Derived.Test.YtjkhldnjciakkaaAmD
namespace Go.Proofs.Ytjkhldnjciakkaa
open Go.RowKit
attribute [local go_sem] Oper.semAt_some
def HeV (W H C D : Int) (L : Bool) : Value := .agg #[.int .i64 W, .int .i64 H, .int .i64 C, .int .i64 D, .bool L]
/-- The bytes of a pass. -/
def bytAt (L : List Stp) (W H sa D : Int) (i : Nat) : Int := higAt L W H i * (1 + (widAt L W H i * sa * D + 7) / 8)
set_option maxHeartbeats 800000 in
theorem bytes_no (W H C D : Int) (b : Bool) (sa : Int) (w : World) (h : ¬ (1 ≤ sa ∧ sa ≤ 4 ∧ 1 ≤ D ∧ D ≤ 16)) : Calls Try.prog 17 #[HeV W H C D b, .int .i64 sa] w fun e w' => e = .returned (.int .i64 0) ∧ Below w.heap.size w w' := by
  have HP : Hid (Below w.heap.size w ((w.alloc (.cells #[.int .i64 W, .int .i64 H, .int .i64 C, .int .i64 D, .bool b] 33)).alloc (.cells #[.int .i64 sa] 3))) := ((Below.refl _ w).alloc (Nat.le_refl _) _).alloc (by simp) _
  unfold HeV
  rcases (show sa < 1 ∨ (1 ≤ sa ∧ 4 < sa) ∨ (1 ≤ sa ∧ sa ≤ 4 ∧ D < 1) ∨ (1 ≤ sa ∧ sa ≤ 4 ∧ 1 ≤ D ∧ 16 < D) by omega) with h | h | h | h
  all_goals
    refine calls_of_wp_marks Try.func17 rfl ?_
    simp only [Try.ntmps17, List.size_toArray, List.length_cons, List.length_nil, Nat.reduceAdd, Nat.reduceSub, Array.replicate_succ, Array.replicate_zero, List.push_toArray, List.append_toArray, List.nil_append, List.cons_append]
    go_wp2
    refine ⟨_, results_tmp rfl _ _ _, ?_⟩
    simp only [Array.getD_eq_getD_getElem?, List.getElem?_toArray, List.getElem?_cons_succ, List.getElem?_cons_zero, Option.getD_some]
    exact ⟨trivial, HP.out⟩
/-- Between two rounds of Bytes. -/
structure ByI (w : World) (s sb nb : Nat) (W H C D : Int) (b : Bool) (sa : Int) (L : List Stp) (f : Nat → Int) (k : Nat) (wr : World) : Prop where
  ct : CtI w s sb nb W H L f k wr
  hb : wr.heap[w.heap.size]? = some (.cells #[.int .i64 W, .int .i64 H, .int .i64 C, .int .i64 D, .bool b] 33 (0, 0))
  sb : wr.heap[w.heap.size + 1]? = some (.cells #[.int .i64 sa] 3 (0, 0))
  nw : w.heap.size + 2 ≤ nb
theorem ByI.ig {w : World} {s sb nb : Nat} {W H C D : Int} {b : Bool} {sa : Int} {L : List Stp} {f : Nat → Int} {k l D' : Nat} {wr w' : World} (h : ByI w s sb nb W H C D b sa L f k wr) (hi : Ig l D' wr w') (hl : w.heap.size ≤ l) (hD : w.heap.size ≤ D') : ByI w s sb nb W H C D b sa L f k w' :=
  ⟨h.ct.ig hi hl hD, hi.cells h.hb, hi.cells h.sb, h.nw⟩
theorem ByI.old {w : World} {s sb nb : Nat} {W H C D : Int} {b : Bool} {sa : Int} {L : List Stp} {f : Nat → Int} {k : Nat} {wr w' : World} (h : ByI w s sb nb W H C D b sa L f k wr) (hb : Below wr.heap.size wr w') : ByI w s sb nb W H C D b sa L f k w' :=
  ⟨h.ct.old hb, (hb.block _ (lt_of_block h.hb)).trans h.hb, (hb.block _ (lt_of_block h.sb)).trans h.sb, h.nw⟩
theorem ByI.step {w : World} {s sb nb : Nat} {W H C D : Int} {b : Bool} {sa : Int} {L : List Stp} {f : Nat → Int} {k : Nat} {wr : World} {v : Int} (h : ByI w s sb nb W H C D b sa L f k wr) (hv : v = sumF f k + f k) : ByI w s sb nb W H C D b sa L f (k + 1) (wr.setCell ⟨nb, 0, none⟩ (.int .i64 v)) := by
  have hn := h.nw
  have oth : ∀ k, k ≠ nb → (wr.setCell ⟨nb, 0, none⟩ (.int .i64 v)).heap[k]? = wr.heap[k]? := fun k hk => Below.heap_setCell _ _ _ _ hk
  exact ⟨h.ct.step hv, (oth _ (by omega)).trans h.hb, (oth _ (by omega)).trans h.sb, hn⟩
theorem five_cells {w : World} {b : Nat} {v0 v1 v2 v3 v4 : Value} {t : TypeId} (h : w.heap[b]? = some (.cells #[v0, v1, v2, v3, v4] t (0, 0))) : w.cell? ⟨b, 0, none⟩ = some v0 ∧ w.cell? ⟨b, 1, none⟩ = some v1 ∧ w.cell? ⟨b, 3, none⟩ = some v3 ∧ w.cell? ⟨b, 4, none⟩ = some v4 := by
  refine ⟨?_, ?_, ?_, ?_⟩ <;> simp [World.cell?, h]
theorem byt_bd {L : List Stp} (hL : ∀ p ∈ L, p.ok) {W H sa D : Int} (hp : picN W H) (h1 : 1 ≤ sa) (h2 : sa ≤ 4) (h3 : 1 ≤ D) (h4 : D ≤ 16) (i : Nat) :
    (0 ≤ widAt L W H i * sa ∧ widAt L W H i * sa ≤ 8192) ∧ (0 ≤ widAt L W H i * sa * D ∧ widAt L W H i * sa * D ≤ 131072) ∧ (0 ≤ bytAt L W H sa D i ∧ bytAt L W H sa D i ≤ 40000000) := by
  have a := wid_bd (stAt_ok hL i) (w := W) (h := H) hp.2.1
  have b := hig_bd (stAt_ok hL i) (w := W) (h := H) hp.2.2.2.1
  unfold bytAt widAt higAt at *
  generalize wid (stAt L i) W H = A at *
  generalize hig (stAt L i) W H = B at *
  have c0 : 0 ≤ A * sa := Int.mul_nonneg a.1 (by omega)
  have c1 : A * sa ≤ 2048 * 4 := Int.mul_le_mul a.2 h2 (by omega) (by omega)
  generalize A * sa = P at *
  have d0 : 0 ≤ P * D := Int.mul_nonneg c0 (by omega)
  have d1 : P * D ≤ 8192 * 16 := Int.mul_le_mul c1 h4 (by omega) (by omega)
  generalize P * D = R at *
  have e0 : 0 ≤ B * (1 + (R + 7) / 8) := Int.mul_nonneg b.1 (by omega)
  have e1 : B * (1 + (R + 7) / 8) ≤ 2048 * 16386 := Int.mul_le_mul b.2 (by omega) (by omega) (by omega)
  omega
set_option maxHeartbeats 3200000 in
set_option maxRecDepth 20000 in
theorem bytes_yes (W H C D : Int) (b : Bool) (sa : Int) (w : World) (h1 : 1 ≤ sa) (h2 : sa ≤ 4) (h3 : 1 ≤ D) (h4 : D ≤ 16) : Calls Try.prog 17 #[HeV W H C D b, .int .i64 sa] w fun e w' => e = .returned (.int .i64 (sumF (bytAt (pngOf b) W H sa D) (psN (pngOf b) W H))) ∧ Below w.heap.size w w' := by
  obtain ⟨L, hL⟩ : ∃ L, pngOf b = L := ⟨_, rfl⟩
  have HL : Hid ((∀ p ∈ L, p.ok) ∧ L.length ≤ 7) := by rw [← hL]; exact ⟨pngOf_ok b, by cases b <;> decide⟩
  rw [hL]
  unfold HeV
  have hL' : Hid (pngOf b = L) := hL
  clear hL
  refine calls_of_wp_marks Try.func17 rfl ?_
  simp only [Try.ntmps17, List.size_toArray, List.length_cons, List.length_nil, Nat.reduceAdd, Nat.reduceSub, Array.replicate_succ, Array.replicate_zero, List.push_toArray, List.append_toArray, List.nil_append, List.cons_append]
  go_upto_region 4 with fail
  obtain ⟨wn, hwn⟩ : ∃ wn, ((w.alloc (.cells #[.int .i64 W, .int .i64 H, .int .i64 C, .int .i64 D, .bool b] 33)).alloc (.cells #[.int .i64 sa] 3)).alloc (.cells #[.int .i64 0] 3) = wn := ⟨_, rfl⟩
  have HN : Hid (wn.heap[w.heap.size + 2]? = some (.cells #[.int .i64 0] 3 (0, 0)) ∧ wn.heap[w.heap.size]? = some (.cells #[.int .i64 W, .int .i64 H, .int .i64 C, .int .i64 D, .bool b] 33 (0, 0)) ∧ wn.heap[w.heap.size + 1]? = some (.cells #[.int .i64 sa] 3 (0, 0)) ∧ Below w.heap.size w wn ∧ wn.heap.size = w.heap.size + 3) := by
    rw [← hwn]
    refine ⟨?_, ?_, ?_, (((Below.refl _ w).alloc (Nat.le_refl _) _).alloc (by simp) _).alloc (by simp; omega) _, by simp⟩
    · have := World.alloc_heap_new ((w.alloc (.cells #[.int .i64 W, .int .i64 H, .int .i64 C, .int .i64 D, .bool b] 33)).alloc (.cells #[.int .i64 sa] 3)) (.cells #[.int .i64 0] 3); rwa [World.size_alloc, World.size_alloc] at this
    · rw [Below.heap_alloc _ _ _ (by simp; omega), Below.heap_alloc _ _ _ (by simp)]; exact World.alloc_heap_new w _
    · rw [Below.heap_alloc _ _ _ (by simp)]; have := World.alloc_heap_new (w.alloc (.cells #[.int .i64 W, .int .i64 H, .int .i64 C, .int .i64 D, .bool b] 33)) (.cells #[.int .i64 sa] 3); rwa [World.size_alloc] at this
  rw [hwn]
  clear hwn
  have five : ∀ u, Below wn.heap.size wn u → u.cell? ⟨w.heap.size, 0, none⟩ = some (.int .i64 W) ∧ u.cell? ⟨w.heap.size, 1, none⟩ = some (.int .i64 H) ∧ u.cell? ⟨w.heap.size, 4, none⟩ = some (.bool b) := fun u hu => by
    have := five_cells ((hu.block _ (lt_of_block HN.out.2.1)).trans HN.out.2.1)
    exact ⟨this.1, this.2.1, this.2.2.2⟩
  have hwd : Below wn.heap.size wn wn.drew := ⟨rfl, rfl, rfl, Nat.le_refl _, fun _ _ => rfl⟩
  obtain ⟨d0, d1, d2⟩ := five _ hwd
  have HCS : Hid (Calls Try.prog 22 #[.bool b] wn.drew fun e w1 => e = .returned (.slice (some ⟨wn.heap.size, 0, none⟩) L.length L.length) ∧ Hid (StRow w1 wn.heap.size L ∧ Below wn.heap.size wn w1) ∧ w1.cell? ⟨w.heap.size, 0, none⟩ = some (.int .i64 W) ∧ w1.cell? ⟨w.heap.size, 1, none⟩ = some (.int .i64 H) ∧ w1.cell? ⟨w.heap.size, 4, none⟩ = some (.bool b)) := by
    have CS := pngSteps_any b wn.drew
    rw [hL'.out] at CS
    refine CS.mono ?_
    rintro e w1 ⟨rfl, rfl⟩
    have hb1 : Below wn.heap.size wn (wn.drew.alloc (.cells (stA L) 24)) := hwd.alloc (Nat.le_refl _) _
    exact ⟨rfl, ⟨StRow.new wn.drew L, hb1⟩, five _ hb1⟩
  have HCP : Hid (∀ w1, StRow w1 wn.heap.size L ∧ Below wn.heap.size wn w1 → Calls Try.prog 28 #[.int .i64 W, .int .i64 H, .slice (some ⟨wn.heap.size, 0, none⟩) L.length L.length] w1 fun e w2 => e = .returned (.func (.func 33) #[] #[.pointer (some ⟨w1.heap.size, 0, none⟩), .pointer (some ⟨w1.heap.size + 1, 0, none⟩), .pointer (some ⟨w1.heap.size + 2, 0, none⟩)]) ∧ Hid (ByI w w1.heap.size wn.heap.size (w.heap.size + 2) W H C D b sa L (bytAt L W H sa D) 0 w2) ∧ w2.cell? ⟨w.heap.size, 0, none⟩ = some (.int .i64 W) ∧ w2.cell? ⟨w.heap.size, 1, none⟩ = some (.int .i64 H) ∧ w2.cell? ⟨w.heap.size, 4, none⟩ = some (.bool b)) := fun w1 h => by
    refine (passes_any W H _ _ _ w1).mono ?_
    rintro e w2 ⟨rfl, rfl⟩
    have hb := below_boxW w1 W H (.slice (some ⟨wn.heap.size, 0, none⟩) L.length L.length)
    have hb2 : Below wn.heap.size wn (boxW w1 W H (.slice (some ⟨wn.heap.size, 0, none⟩) L.length L.length)) := h.2.trans (hb.mono h.2.size)
    have k := HN.out
    refine ⟨rfl, ⟨⟨Bx.new h.1, (hb2.block _ (by omega)).trans k.1, k.2.2.2.1.trans (hb2.mono (by omega)), ⟨by omega, by have := h.2.size; omega, by omega⟩⟩, (hb2.block _ (by omega)).trans k.2.1, (hb2.block _ (by omega)).trans k.2.2.1, Nat.le_refl _⟩, five _ hb2⟩
  clear five hwd hL' HN
  go_region_held3 (fun u => u.cell? ⟨w.heap.size, 0, none⟩ = some (.int .i64 W) ∧ u.cell? ⟨w.heap.size, 1, none⟩ = some (.int .i64 H) ∧ u.cell? ⟨w.heap.size, 4, none⟩ = some (.bool b)) (first | exact ⟨by assumption, by assumption, by assumption⟩ | go_keep) (first
      | (go_at_call 22; refine Calls.mono HCS.out ?_; rintro e w1 ⟨rfl, hj1, r1, r2, r3⟩)
      | (go_at_call 28; refine Calls.mono (HCP.out _ hj1.out) ?_; rintro e w2 ⟨rfl, H2, r4, r5, r6⟩)
      | fail)
  clear d0 d1 d2 HCS HCP r1 r2 r3 r4 r5 r6 hj1
  generalize w1.heap.size = s at *
  generalize wn.heap.size = sb at *
  go_wp2
  have hsz := H2.out.ct.be.size
  refine wp_range_ix (gf := 33) rfl (callFnA Try.func33 (by kernel_rfl) (by kernel_rfl)) (passes_iter s sb W H L HL.out.1 HL.out.2) (fun _ => rfl) (ByI w s sb (w.heap.size + 2) W H C D b sa L (bytAt L W H sa D)) (fun _ _ => False) (fun i Wa Wb h hi => h.ig hi (by omega) hsz) (fun _ _ _ h _ => h) (fun i Wa h => h.ct.bx) H2.out ?body ?done (fun _ _ h _ _ => h.elim)
  case body =>
    intro i Wa hi HI hlp hdf
    unfold psE PsV
    simp only [List.zip_toArray, List.zip_cons_cons, List.zip_nil_right, List.foldl_toArray, List.foldl_cons, List.foldl_nil, List.setIfInBounds_toArray, List.set_cons_succ, List.set_cons_zero]
    have hp : picN W H := by by_cases hp : picN W H; exact hp; (unfold psN at hi; rw [if_neg hp] at hi; omega)
    have h7 : i ≤ 7 := by unfold psN at hi; rw [if_pos hp] at hi; have := HL.out.2; omega
    have hs0 : 0 ≤ sumF (bytAt L W H sa D) i ∧ sumF (bytAt L W H sa D) i ≤ 7 * 40000000 := by
      have g1 := sumF_bd (f := bytAt L W H sa D) (B := 40000000) (fun j => (byt_bd HL.out.1 hp h1 h2 h3 h4 j).2.2) i
      omega
    obtain ⟨⟨a0, a1⟩, ⟨b0, b1⟩, ⟨c0, c1⟩⟩ := byt_bd HL.out.1 hp h1 h2 h3 h4 i
    have e1 : hig (stAt L i) W H = higAt L W H i := rfl
    have e2 : wid (stAt L i) W H = widAt L W H i := rfl
    rw [e1, e2]
    clear e1 e2
    generalize stAt L i = p
    obtain ⟨S, hS⟩ : ∃ S, sumF (bytAt L W H sa D) i = S := ⟨_, rfl⟩
    have hF : bytAt L W H sa D i = higAt L W H i * (1 + (widAt L W H i * sa * D + 7) / 8) := rfl
    obtain ⟨B, hB⟩ : ∃ B, higAt L W H i = B := ⟨_, rfl⟩
    obtain ⟨A, hA⟩ : ∃ A, widAt L W H i = A := ⟨_, rfl⟩
    obtain ⟨F, hF2⟩ : ∃ F, bytAt L W H sa D i = F := ⟨_, rfl⟩
    rw [hS] at hs0
    rw [hA] at a0 a1 b0 b1
    rw [hF2] at c0 c1
    rw [hA, hB, hF2] at hF
    rw [hA, hB]
    have HSB : Hid (sumF (bytAt L W H sa D) i = S ∧ bytAt L W H sa D i = F) := ⟨hS, hF2⟩
    clear hS hB hA hF2
    obtain ⟨P1, hP1⟩ : ∃ P1, A * sa = P1 := ⟨_, rfl⟩
    rw [hP1] at a0 a1 b0 b1 hF
    obtain ⟨P2, hP2⟩ : ∃ P2, P1 * D = P2 := ⟨_, rfl⟩
    rw [hP2] at b0 b1 hF
    have hQ : (P2 + 7).tdiv 8 = (P2 + 7) / 8 := Int.tdiv_eq_ediv_of_nonneg (by omega)
    have hP3 : P2 + 8 - 1 = P2 + 7 := by omega
    obtain ⟨Q, hQ2⟩ : ∃ Q, (P2 + 7) / 8 = Q := ⟨_, rfl⟩
    rw [hQ2] at hQ hF
    have hQb : 0 ≤ Q ∧ Q ≤ 16386 := by omega
    have hF3 : B * (1 + Q) = F := hF.symm
    clear hF hQ2
    have HII : Hid (ByI w s sb (w.heap.size + 2) W H C D b sa L (bytAt L W H sa D) i Wa) := HI
    obtain ⟨r1, hr1⟩ := hlp
    obtain ⟨r2, hr2⟩ := hdf
    have hlt1 := lt_of_block hr1
    have HR : Hid (Wa.heap[w2.heap.size + 1]? = some (.loop r1) ∧ Wa.heap[w2.heap.size]? = some (.deferred r2)) := ⟨hr1, hr2⟩
    clear HI hr1 hr2
    gi_wp2
    obtain ⟨Wb, hWb⟩ : ∃ Wb, Wa.alloc (.cells #[.int .i64 p.x, .int .i64 p.y, .int .i64 p.dx, .int .i64 p.dy, .int .i64 A, .int .i64 B] 24) = Wb := ⟨_, rfl⟩
    have hbel : Below Wa.heap.size Wa Wb := by rw [← hWb]; exact (Below.refl _ Wa).alloc (Nat.le_refl _) _
    have hbox : Wb.heap[Wa.heap.size]? = some (.cells #[.int .i64 p.x, .int .i64 p.y, .int .i64 p.dx, .int .i64 p.dy, .int .i64 A, .int .i64 B] 24 (0, 0)) := by rw [← hWb]; exact World.alloc_heap_new Wa _
    rw [hWb]
    refine ⟨hbel.block _ (lt_of_block HR.out.1), hbel.block _ (lt_of_block HR.out.2), ?_⟩
    intro o hig ho hdf ho2
    have HC : Hid (ByI w s sb (w.heap.size + 2) W H C D b sa L (bytAt L W H sa D) i (Wb.putObj (w2.heap.size + 1) o)) := (HII.out.old hbel).ig hig (by omega) hsz
    have hbx2 := hig.cells hbox
    generalize Wb.putObj (w2.heap.size + 1) o = Wc at *
    have k0 : Wc.cell? ⟨Wa.heap.size, 5, none⟩ = some (.int .i64 B) := by simp [World.cell?, hbx2]
    have k4 : Wc.cell? ⟨Wa.heap.size, 4, none⟩ = some (.int .i64 A) := by simp [World.cell?, hbx2]
    obtain ⟨k1, f1⟩ := one_cellA HC.out.ct.cn
    obtain ⟨k2, -⟩ := one_cellA HC.out.sb
    obtain ⟨-, -, k3, -⟩ := five_cells HC.out.hb
    rw [HSB.out.1] at k1
    have HE : Hid (ByI w s sb (w.heap.size + 2) W H C D b sa L (bytAt L W H sa D) (i + 1) (Wc.setCell ⟨w.heap.size + 2, 0, none⟩ (.int .i64 (S + F)))) := HC.out.step (by rw [HSB.out.1, HSB.out.2])
    have HE2 : Hid ((Wc.setCell ⟨w.heap.size + 2, 0, none⟩ (.int .i64 (S + F))).heap[w2.heap.size + 1]? = Wc.heap[w2.heap.size + 1]? ∧ (Wc.setCell ⟨w.heap.size + 2, 0, none⟩ (.int .i64 (S + F))).heap[w2.heap.size]? = Wc.heap[w2.heap.size]?) := by
      have hw2 : w.heap.size + 2 < w2.heap.size := lt_of_block H2.out.ct.cn
      exact ⟨Below.heap_setCell _ _ _ _ (by show w2.heap.size + 1 ≠ w.heap.size + 2; omega), Below.heap_setCell _ _ _ _ (by show w2.heap.size ≠ w.heap.size + 2; omega)⟩
    clear hbel hbox hWb hig ho hdf ho2 hbx2 HII HR
    gi_wp2
    exact ⟨HE2.out.1, HE2.out.2, HE.out⟩
  case done =>
    intro Wa HI hD hlp
    have k1 := (one_cellA HI.ct.cn).1
    have HP : Hid (Below w.heap.size w (Wa.putObj w2.heap.size (.deferred none))) := ⟨HI.ct.be.os, HI.ct.be.tape, HI.ct.be.output, by rw [World.putObj_size]; exact HI.ct.be.size, fun k hk => by rw [World.putObj_heap_other (by omega)]; exact HI.ct.be.block k hk⟩
    have HDD : Hid (Wa.heap[w2.heap.size]? = some (.deferred (some []))) := hD
    clear HI hlp hD H2
    go_wp2
    refine ⟨by simp, .inl ⟨_, _, rfl, run_takeDeferred HDD.out, ?_⟩⟩
    refine ⟨_, results_tmp rfl _ _ _, ?_⟩
    simp only [Array.getD_eq_getD_getElem?, List.getElem?_toArray, List.getElem?_cons_succ, List.getElem?_cons_zero, Option.getD_some]
    exact ⟨trivial, HP.out⟩
end Go.Proofs.Ytjkhldnjciakkaa
