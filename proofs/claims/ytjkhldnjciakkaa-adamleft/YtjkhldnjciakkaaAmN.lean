/- All lines that are told, gathered by the law. -/
import Derived.Test.YtjkhldnjciakkaaAmL
namespace Go.Proofs.Ytjkhldnjciakkaa
open Go.RowKit
attribute [local go_sem] Oper.semAt_some
structure LwI (w : World) (ob s sb : Nat) (W H : Int) (L : List Stp) (k : Nat) (wr : World) : Prop where
  ob : ∃ v es, wr.heap[ob]? = some (.cells #[v] 27 (0, 0)) ∧ LsM w.heap.size wr v es ∧ es.map Le.key = (lnsL L W H).take k
  bx : Bx wr s W H sb L
  be : Below w.heap.size w wr
theorem LwI.bk {w : World} {ob s sb : Nat} {W H : Int} {L : List Stp} {k B : Nat} {wr w' : World} (h : LwI w ob s sb W H L k wr) (hb : Bk B wr w') (hB : w.heap.size ≤ B) : LwI w ob s sb W H L k w' := by
  obtain ⟨v, es, h1, h2, h3⟩ := h.ob
  refine ⟨⟨v, es, hb.cells h1, h2.bk hb, h3⟩, h.bx.same fun k o hk ho => ?_, hb.below h.be hB (Nat.le_refl _)⟩
  obtain ⟨c, t, f, rfl, -⟩ := ho
  exact hb.cells hk
def GlPost (w : World) (ls : List (Int × List Int)) (e : Ending) (w' : World) : Prop := ∃ a c es, e = .returned (.slice a es.length c) ∧ LsM w.heap.size w' (.slice a es.length c) es ∧ es.map Le.key = ls ∧ Below w.heap.size w w'
theorem LwI.push {w : World} {s sb : Nat} {W H : Int} {L : List Stp} {k g l D : Nat} {wr w7 : World} {v v7 : Value} {es : List Le} {e : Le} {va : Array Value} {r1 : Loop} {r2 : Option (List Deferred)}
    (h1 : wr.heap[w.heap.size]? = some (.cells #[v] 27 (0, 0))) (h2 : LsM w.heap.size wr v es) (h3 : es.map Le.key = (lnsL L W H).take k) (hx : Bx wr s W H sb L) (hbe : Below w.heap.size w wr)
    (hk : (lnsL L W H)[k]? = some e.key) (he : SpIn w.heap.size wr e) (h7 : w7.ownsRow w.heap.size 43 2 v7 (es.length + 1) (leF es ++ e.enc)) (hg : (wr.alloc (.cells va 43)).grownBy w7 v.ownBlock) (hl : wr.heap[l]? = some (.loop r1)) (hD : wr.heap[D]? = some (.deferred r2)) :
    w7.cell? ⟨w.heap.size, 0, none⟩ = some v ∧ w7.frozen? ⟨w.heap.size, 0, none⟩ = false ∧ LwI w w.heap.size s sb W H L (k + 1) (w7.setCell ⟨w.heap.size, 0, none⟩ v7) ∧ (w7.setCell ⟨w.heap.size, 0, none⟩ v7).heap[l]? = wr.heap[l]? ∧ (w7.setCell ⟨w.heap.size, 0, none⟩ v7).heap[D]? = wr.heap[D]? ∧ KpO kpL g wr (w7.setCell ⟨w.heap.size, 0, none⟩ v7) := by
  have hba : Below wr.heap.size wr (wr.alloc (.cells va 43)) := (Below.refl _ wr).alloc (Nat.le_refl _) _
  have h2a := h2.old hba
  have kk : ∀ (j : Nat) (o : Obj), wr.heap[j]? = some o → (∀ c f, o ≠ .cells c 43 f) → w7.heap[j]? = some o := fun j o hj ho => by
    have ha := (hba.block j (lt_of_block hj)).trans hj
    refine (hg.block j (lt_of_block ha) (fun hb => ?_)).trans ha
    obtain ⟨-, c2, e2⟩ := h2a.tag hb.symm
    rw [ha] at e2
    simp only [Option.some.injEq] at e2
    exact ho _ _ e2
  have k1 := kk _ _ h1 (fun c f h => by cases h)
  have hc := one_cellA k1
  have oth : ∀ j, j ≠ w.heap.size → (w7.setCell ⟨w.heap.size, 0, none⟩ v7).heap[j]? = w7.heap[j]? := fun j hj => Below.heap_setCell _ _ _ _ hj
  have hp := h2a.push h7 hg (he.same fun g cur _ hq => (hba.block g (lt_of_block hq)).trans hq)
  have o2 : ∀ (j : Nat) (o : Obj), wr.heap[j]? = some o → (∀ c f, o ≠ .cells c 43 f) → (∀ c f, o ≠ .cells c 27 f) → (w7.setCell ⟨w.heap.size, 0, none⟩ v7).heap[j]? = some o := fun j o hj ho ho2 => by
    rw [oth j (fun e => by subst e; rw [h1] at hj; simp only [Option.some.injEq] at hj; exact ho2 _ _ hj.symm)]
    exact kk j o hj ho
  refine ⟨hc.1, hc.2, ⟨⟨v7, es ++ [e], ?_, ?_, ?_⟩, ?_, ?_⟩, ?_, ?_, ?_⟩
  · rw [heap_setCell_same w7 w.heap.size 0 _ _ _ k1]; rfl
  · exact hp.same fun j c t f _ hj ht => by
      rw [oth j (fun e => by subst e; rw [k1] at hj; simp only [Option.some.injEq, Obj.cells.injEq] at hj; obtain ⟨-, rfl, -⟩ := hj; rcases ht with h | h <;> exact absurd h (by decide))]
      exact hj
  · rw [List.map_append, h3, take_more hk]; rfl
  · exact ⟨o2 _ _ hx.b0 (fun c f h => by cases h) (fun c f h => by cases h), o2 _ _ hx.b1 (fun c f h => by cases h) (fun c f h => by cases h), o2 _ _ hx.b2 (fun c f h => by cases h) (fun c f h => by cases h), o2 _ _ (show wr.heap[sb]? = some (.cells (stA L) 24 (0, 0)) from hx.st) (fun c f h => by cases h) (fun c f h => by cases h)⟩
  · have b1 := hbe.trans (hba.mono hbe.size)
    have b2 := b1.grown hg b1.size (fun j hj => (h2a.tag hj).1)
    exact b2.setCell (p := ⟨w.heap.size, 0, none⟩) (Nat.le_refl _) _
  · rw [hl]; exact o2 _ _ hl (fun c f h => by cases h) (fun c f h => by cases h)
  · rw [hD]; exact o2 _ _ hD (fun c f h => by cases h) (fun c f h => by cases h)
  · refine ⟨?_, fun j o _ hj ho => o2 j o hj (fun c f e => by subst e; exact ho.2.1 rfl) (fun c f e => by subst e; exact ho.1 rfl)⟩
    have hs := hg.size
    simp [World.setCell] at hs ⊢
    omega
theorem lnN_bd {L : List Stp} (hL : ∀ p ∈ L, p.ok) (hl : L.length ≤ 7) (W H : Int) : lnN L W H ≤ 20000 := by
  unfold lnN psN
  by_cases hp : picN W H
  · rw [if_pos hp]
    have : ∀ n : Nat, bsN (hNt L W H) n ≤ n * 2048 := by
      intro n
      induction n with
      | zero => simp [bsN]
      | succ n ih =>
        have := hig_bd (stAt_ok hL n) (w := W) (h := H) hp.2.2.2.1
        rw [bsN]
        have : hNt L W H n ≤ 2048 := by unfold hNt higAt; omega
        omega
    have := this L.length
    omega
  · rw [if_neg hp]; simp [bsN]
set_option maxHeartbeats 3200000 in
set_option maxRecDepth 20000 in
theorem glines_any (W H : Int) (b : Bool) (w : World) : Calls Try.prog 13 #[.int .i64 W, .int .i64 H, .bool b] w fun e w' => GlPost w (lnsL (pngOf b) W H) e w' := by
  have CL := fun w => aLines_any W H b w
  obtain ⟨L, hL⟩ : ∃ L, pngOf b = L := ⟨_, rfl⟩
  have HL : Hid ((∀ p ∈ L, p.ok) ∧ L.length ≤ 7) := by rw [← hL]; exact ⟨pngOf_ok b, by cases b <;> decide⟩
  rw [hL] at CL ⊢
  clear hL
  obtain ⟨i0, hi0, hz0, hz1, hz2⟩ := info_parts Try.infoLn
  have HW : Hid (Below w.heap.size w (w.alloc (.cells #[.slice none 0 0] 27)) ∧ (w.alloc (.cells #[.slice none 0 0] 27)).heap[w.heap.size]? = some (.cells #[.slice none 0 0] 27 (0, 0))) := ⟨(Below.refl _ w).alloc (Nat.le_refl _) _, World.alloc_heap_new w _⟩
  refine calls_of_wp_marks Try.func13 rfl ?_
  simp only [Try.ntmps13, List.size_toArray, List.length_cons, List.length_nil, Nat.reduceAdd, Nat.reduceSub, Array.replicate_succ, Array.replicate_zero, List.push_toArray, List.append_toArray, List.nil_append, List.cons_append]
  go_wp2_with fail
  generalize w.alloc (.cells #[.slice none 0 0] 27) = wa at *
  refine (CL wa).mono ?_
  clear CL
  rintro e w2 ⟨s, sb, rfl, hbx, hsb, hsb2, hb2⟩
  have H2 : Hid (LwI w w.heap.size s sb W H L 0 w2) := ⟨⟨.slice none 0 0, [], (hb2.block _ (lt_of_block HW.out.2)).trans HW.out.2, LsM.nil _ _, by simp⟩, hbx, HW.out.1.trans (hb2.mono HW.out.1.size)⟩
  have HSZ : Hid (w.heap.size < w2.heap.size) := Nat.lt_of_lt_of_le (lt_of_block HW.out.2) hb2.size
  clear hbx hsb hsb2 hb2 HW
  go_wp2
  refine wp_range_ixG (gf := 35) rfl (callFnA Try.func35 (by kernel_rfl) (by kernel_rfl)) (lines1_iter s sb W H L HL.out.1 HL.out.2) (fun _ _ _ _ e => by obtain ⟨_, _, _, _, _, _, _, rfl, _⟩ := e; rfl)
    (LwI w w.heap.size s sb W H L) (fun _ _ => False) (fun i Wa Wb h hk => h.bk hk (by have := HSZ.out; omega)) (fun _ _ _ h _ => h) (fun i Wa h => h.bx) H2.out ?body ?done (fun _ _ h _ _ => h.elim)
  case body =>
    rintro k Wp Wa args hk HI hbp hen hlp hdf
    obtain ⟨i, r, g, cur, hi, hr, rfl, rfl, hg1, hg2, hg3⟩ := hen
    simp only [List.zip_toArray, List.zip_cons_cons, List.zip_nil_right, List.foldl_toArray, List.foldl_cons, List.foldl_nil, List.setIfInBounds_toArray, List.set_cons_succ, List.set_cons_zero]
    obtain ⟨r1, hr1⟩ := hlp
    obtain ⟨r2, hr2⟩ := hdf
    have hp : picN W H := by by_cases hp : picN W H; exact hp; (unfold psN at hi; rw [if_neg hp] at hi; omega)
    have hwb := wid_bd (stAt_ok HL.out.1 i) (w := W) (h := H) hp.2.1
    have hn2 : wNt L W H i ≤ 2048 := by unfold wNt widAt; omega
    have HEN : Hid ((lnsL L W H)[bsN (hNt L W H) i + r]? = some (((i : Int) + 1), lnS L W H i r)) := lnsI_at L W H hi hr
    have HI2 : Hid (LwI w w.heap.size s sb W H L (bsN (hNt L W H) i + r) Wa ∧ Wa.heap[w2.heap.size + 1]? = some (.loop r1) ∧ Wa.heap[w2.heap.size]? = some (.deferred r2) ∧ SpIn w.heap.size Wa ⟨(i : Int) + 1, some ⟨g, 0, none⟩, wNt L W H i, wNt L W H i, lnS L W H i r⟩) :=
      ⟨HI.bk (Bk.of_below _ hbp) (Nat.le_refl _), hr1, hr2, spL_len .., Nat.le_refl _, hn2, .inr ⟨g, cur, rfl, Nat.le_trans HI.be.size hg3, hg1, hg2⟩⟩
    have HLN : Hid (bsN (hNt L W H) i + r < 20000) := Nat.lt_of_lt_of_le hk (lnN_bd HL.out.1 HL.out.2 W H)
    clear hk HI hbp hg1 hg2 hg3 hr1 hr2 hwb hp hn2 Wp cur
    obtain ⟨k, hk⟩ : ∃ k, bsN (hNt L W H) i + r = k := ⟨_, rfl⟩
    rw [hk] at HEN HI2 HLN ⊢
    generalize lnS L W H i r = S at *
    generalize wNt L W H i = M at *
    clear hk hr hi
    gi_wp2
    refine ⟨trivial, trivial, KpO.refl _ _ _, ?_⟩
    intro o hbk ho hdf ho2
    obtain ⟨rb, rfl⟩ := ho2
    obtain ⟨rd, hrd⟩ := hdf
    have HC : Hid (LwI w w.heap.size s sb W H L k (Wa.putObj (w2.heap.size + 1) (.loop rb)) ∧ SpIn w.heap.size (Wa.putObj (w2.heap.size + 1) (.loop rb)) ⟨(i : Int) + 1, some ⟨g, 0, none⟩, M, M, S⟩ ∧ (Wa.putObj (w2.heap.size + 1) (.loop rb)).heap[w2.heap.size + 1]? = some (.loop rb) ∧ (Wa.putObj (w2.heap.size + 1) (.loop rb)).heap[w2.heap.size]? = some (.deferred rd)) :=
      ⟨HI2.out.1.bk hbk (by have := HSZ.out; omega), HI2.out.2.2.2.same fun g cur _ hq => hbk.cells hq, ho, hrd⟩
    generalize Wa.putObj (w2.heap.size + 1) (.loop rb) = Wc at *
    clear hbk ho hrd HI2
    obtain ⟨v, es, h1, h2, h3⟩ := HC.out.1.ob
    obtain ⟨av, cv, hv, hc1, hc2, hc3⟩ := h2.shape
    subst hv
    have hes : es.length ≤ 20000 := by
      have e := congrArg List.length h3
      rw [List.length_map, List.length_take] at e
      have := HLN.out; omega
    have HV : Hid (LsM w.heap.size Wc (.slice av es.length cv) es) := h2
    have HP : Hid (∀ v7 w7, w7.ownsRow w.heap.size 43 2 v7 (es.length + 1) (leF es ++ [.int .i64 ((i : Int) + 1), .slice (some ⟨g, 0, none⟩) M M]) → (Wc.alloc (.cells #[.int .i64 ((i : Int) + 1), .slice (some ⟨g, 0, none⟩) M M] 43)).grownBy w7 (Value.ownBlock (.slice av es.length cv)) →
        w7.cell? ⟨w.heap.size, 0, none⟩ = some (.slice av es.length cv) ∧ w7.frozen? ⟨w.heap.size, 0, none⟩ = false ∧ LwI w w.heap.size s sb W H L (k + 1) (w7.setCell ⟨w.heap.size, 0, none⟩ v7) ∧ (w7.setCell ⟨w.heap.size, 0, none⟩ v7).heap[w2.heap.size + 1]? = Wc.heap[w2.heap.size + 1]? ∧ (w7.setCell ⟨w.heap.size, 0, none⟩ v7).heap[w2.heap.size]? = Wc.heap[w2.heap.size]? ∧ KpO kpL (w2.heap.size + 1) Wc (w7.setCell ⟨w.heap.size, 0, none⟩ v7)) := fun v7 w7 g1 g2 =>
      LwI.push (e := ⟨(i : Int) + 1, some ⟨g, 0, none⟩, M, M, S⟩) h1 h2 h3 HC.out.1.bx HC.out.1.be HEN.out HC.out.2.1 g1 g2 HC.out.2.2.1 HC.out.2.2.2
    have k1 := (one_cellA h1).1
    have HB : Hid (w.heap.size ≤ Wc.heap.size) := HC.out.1.be.size
    obtain ⟨EL, hEL⟩ : ∃ EL, es.length = EL := ⟨_, rfl⟩
    rw [hEL] at k1 hc1 hes
    have HEL : Hid (es.length = EL) := hEL
    clear h1 h2 h3 hc2 hc3 HC hEL
    gi_wp2_with (gi_at_builtin; refine wpListIn_append_own _ rfl _ _ 27 rfl w.heap.size 43 i0 (.agg #[.int .i64 0, .slice none 0 0]) 2 32 Try.underlying27 hi0 hz0 hz1 hz2 rfl (by decide) (.slice av EL cv) EL (leF es) rfl ?c0 ⟨Wc.heap.size, 0, none⟩ 1 1 [.int .i64 ((i : Int) + 1), .slice (some ⟨g, 0, none⟩) M M] rfl rfl ?c1 ?c2 ?c3 ?c4 ?c5 ?_)
    case c0 => have := HV.out.own.alloc (.cells #[.int .i64 ((i : Int) + 1), .slice (some ⟨g, 0, none⟩) M M] 43); rw [HEL.out] at this; exact this
    case c1 =>
      intro j u hj
      match j, hj with
      | 0, hj => simp at hj; subst hj; exact World.cell?_alloc_mark ..
      | 1, hj => simp at hj; subst hj; exact World.cell?_alloc_mark ..
    case c2 => intro u hu; simp at hu; rcases hu with rfl | rfl <;> rfl
    case c3 => unfold maxLen; omega
    case c4 => omega
    case c5 => have := HB.out; simp; omega
    intro v7 w7 g1 g2 _
    rw [← HEL.out] at g1 g2
    obtain ⟨y1, y2, y3, y4, y5, y6⟩ := HP.out v7 w7 g1 g2
    rw [HEL.out] at y1
    obtain ⟨a7, c7, hv7⟩ : ∃ a7 c7, v7 = .slice a7 (es.length + 1) c7 := by
      rcases g1.2 with ⟨rfl, hn⟩ | ⟨g, cap, cur, rfl, _⟩
      · omega
      · exact ⟨_, _, rfl⟩
    rw [HEL.out] at hv7
    subst hv7
    clear g1 g2 HP HV k1
    gi_wp2
    exact ⟨y4, y5, y6, y3⟩
  case done =>
    intro Wa HI hD hlp
    obtain ⟨v, es, h1, h2, h3⟩ := HI.ob
    obtain ⟨av, cv, hv, hc1, hc2, hc3⟩ := h2.shape
    subst hv
    have k1 := (one_cellA h1).1
    have hbk : Bk w.heap.size Wa (Wa.putObj w2.heap.size (.deferred none)) := Bk.of_put _ (by have := HSZ.out; omega) (no_cells_def hD)
    have HP : Hid (GlPost w (lnsL L W H) (.returned (.slice av es.length cv)) (Wa.putObj w2.heap.size (.deferred none))) :=
      ⟨av, cv, es, rfl, h2.bk hbk, by rw [h3, ← lnsL_len, List.take_length], hbk.below HI.be (Nat.le_refl _) (Nat.le_refl _)⟩
    have HDD : Hid (Wa.heap[w2.heap.size]? = some (.deferred (some []))) := hD
    clear HI hlp hD H2 h1 h2 h3 hc1 hc2 hc3 hbk
    generalize es.length = EL at *
    go_wp2
    refine ⟨by simp, .inl ⟨_, _, rfl, run_takeDeferred HDD.out, ?_⟩⟩
    refine ⟨_, results_tmp rfl _ _ _, ?_⟩
    simp only [Array.getD_eq_getD_getElem?, List.getElem?_toArray, List.getElem?_cons_succ, List.getElem?_cons_zero, Option.getD_some]
    exact HP.out
end Go.Proofs.Ytjkhldnjciakkaa
