/- Parcels put together, two by two. -/
import Derived.Test.YtjellgkojmgmjaaHgF
import Derived.Deep.RegionHeld3
namespace Go.Proofs.Ytjellgkojmgmjaa
open Go.RowKit

def PairPost (w : World) (ps : List Pc) (e : Ending) (w' : World) : Prop :=
  ∃ v ys, e = .returned v ∧ PRow w' w.heap.size v ys ∧ PS w' ys (prs ps) ∧ (∀ x ∈ ys, w.heap.size ≤ x.b) ∧ Below w.heap.size w w'
theorem two_news_a (w : World) (o p : Obj) : ((w.alloc o).alloc p).drew.heap[w.heap.size]? = some o :=
  (((Below.refl (w.alloc o).heap.size (w.alloc o)).alloc (Nat.le_refl _) p).block _ (by simp)).trans (heap_alloc_new _ _)
theorem two_news_b (w : World) (o p : Obj) : ((w.alloc o).alloc p).drew.heap[w.heap.size + 1]? = some p := by
  have := heap_alloc_new (w.alloc o) p
  rw [show (w.alloc o).heap.size = w.heap.size + 1 by simp] at this
  exact this
def Pd2 (w wr w2 : World) (A B : Nat) : Prop := Below wr.heap.size wr w2 ∧ w.heap.size ≤ A ∧ w.heap.size ≤ B ∧ wr.heap.size ≤ A ∧ wr.heap.size ≤ B
theorem two_news_below {w wr : World} (h : Below w.heap.size w wr) {o p : Obj} : Pd2 w wr ((wr.alloc o).alloc p).drew wr.heap.size (wr.heap.size + 1) := by
  have h1 : Below wr.heap.size wr ((wr.alloc o).alloc p) := ((Below.refl _ _).alloc (Nat.le_refl _) _).alloc (by simp) _
  have := h.size
  exact ⟨⟨h1.os, h1.tape, h1.output, h1.size, h1.block⟩, by omega, by omega, by omega, by omega⟩
theorem two_news_below' {w wr : World} (h : Below w.heap.size w wr) {o p : Obj} : Pd2 w wr ((wr.alloc o).alloc p).drew (wr.heap.size + 1) wr.heap.size := by
  have h1 := two_news_below h (o := o) (p := p)
  exact ⟨h1.1, h1.2.2.1, h1.2.1, h1.2.2.2.2, h1.2.2.2.1⟩
def PdRel (w : World) (ps : List Pc) (v rv : Value) (n : Nat) (wr : World) : Prop :=
  ∃ ys qs rest rps ap cp, PRow wr w.heap.size v ys ∧ PS wr ys qs ∧ rv = .slice ap rest.length cp ∧ rest.length ≤ cp ∧ cp ≤ maxLen ∧ RV w ap rest ∧ PS w rest rps ∧ qs ++ prs rps = prs ps ∧ (∀ p ∈ rps, 0 ≤ p.1 ∧ p.1 ≤ 70368744177664 ∧ p.2.length ≤ 100000) ∧ ys.length + rest.length ≤ 10000 ∧ n = rest.length ∧ (∀ x ∈ ys, w.heap.size ≤ x.b) ∧ Below w.heap.size w wr
set_option maxHeartbeats 1600000 in
set_option maxRecDepth 20000 in
theorem paired_any (a : Option Addr) (n c : Nat) (xs : List Pv) (ps : List Pc) (w : World) (hx : xs.length = n) (hs : n ≤ 10000) (hl : n ≤ c) (hm : c ≤ maxLen) (r1 : RV w a xs) (hp : PS w xs ps) (hb : ∀ p ∈ ps, 0 ≤ p.1 ∧ p.1 ≤ 70368744177664 ∧ p.2.length ≤ 100000) :
    Calls Try.prog 43 #[.slice a n c] w fun e w' => PairPost w ps e w' := by
  have HS : Hid (PdRel w ps (.slice none 0 0) (.slice a n c) n w) := ⟨[], [], xs, ps, a, c, World.ownsRow_nil _ _ _ _, .nil, by rw [hx], by omega, hm, r1, hp, rfl, hb, by simp; omega, hx.symm, (by intro x hx; cases hx), Below.refl _ _⟩
  clear hx r1 hp hb hl hm
  go_enter Try.func43, Try.ntmps43
  go_wp2
  go_loopg [3, 0] n (fun gn v rv wr => PdRel w ps v rv gn wr)
  case atStart => exact HS.out
  case round =>
    clear HS
    obtain ⟨ys, qs, rest, rps, ap, cp, hp, hps, rfl, hrl, hcp, hrv, hrp, hpr, hbd, hln, hgn, hxb, hbel⟩ := hrel
    have HXB : Hid (∀ x ∈ ys, w.heap.size ≤ x.b) := hxb
    clear hxb
    obtain ⟨V, hV⟩ : ∃ V, V = u3 := ⟨_, rfl⟩
    subst hV
    match rest, rps, hrp with
    | [], _, All2.nil =>
      have HP : Hid (PairPost w ps (.returned V) wr) := ⟨V, ys, rfl, hp, by rw [← hpr]; simpa [prs] using hps, HXB.out, hbel⟩
      clear hp hps hrv hpr hbd hbel
      simp only [List.length_nil] at *
      go_wp2
      go_ret
      exact HP.out
    | [x], [p], All2.cons h1 All2.nil =>
      have HP : Hid (PairPost w ps (.returned V) wr) := ⟨V, ys, rfl, hp, by rw [← hpr]; simpa [prs] using hps, HXB.out, hbel⟩
      clear hp hps hrv hpr hbd hbel h1
      simp only [List.length_cons, List.length_nil, Nat.zero_add] at *
      go_wp2
      go_ret
      exact HP.out
    | x :: y :: r, p :: q :: rr, All2.cons h1 (All2.cons h2 h3) =>
      obtain ⟨b, off, rfl, q0, q1⟩ := hrv.at 0 (by simp)
      obtain ⟨b', off', e, q2, q3⟩ := hrv.at 1 (by simp)
      simp only [Option.some.injEq, Addr.mk.injEq] at e
      obtain ⟨rfl, rfl, _⟩ := e
      simp only [List.getElem?_cons_zero, List.getElem?_cons_succ, Option.getD_some, Nat.zero_mul, Nat.add_zero, Nat.one_mul] at q0 q1 q2 q3
      have c0 := (hbel.cell (p := ⟨b, off, none⟩) (cell_lt q0)).trans q0
      have c1 := (hbel.cell (p := ⟨b, off + 1, none⟩) (cell_lt q1)).trans q1
      have c2 := (hbel.cell (p := ⟨b, off + 2, none⟩) (cell_lt q2)).trans q2
      have c3 := (hbel.cell (p := ⟨b, off + 2 + 1, none⟩) (cell_lt q3)).trans q3
      obtain ⟨xw, xb, xn, xc⟩ := x
      obtain ⟨yw, yb, yn, yc⟩ := y
      simp only at c0 c1 c2 c3
      have hlen : (1 : Int) < ((r.length : Int) + 1) + 1 := by omega
      have hlen0 : (0 : Int) < ((r.length : Int) + 1) + 1 := by omega
      have hbw : b < wr.heap.size := cell_lt c0
      clear q0 q1 q2 q3
      simp only [List.length_cons] at *
      have HK : Hid (PRow wr w.heap.size V ys ∧ PS wr ys qs ∧ RV w (some ⟨b, off, none⟩) (⟨xw, xb, xn, xc⟩ :: ⟨yw, yb, yn, yc⟩ :: r) ∧ qs ++ prs (p :: q :: rr) = prs ps ∧ Below w.heap.size w wr) := ⟨hp, hps, hrv, hpr, hbel⟩
      have HH : Hid (Rp w ⟨xw, xb, xn, xc⟩ p ∧ Rp w ⟨yw, yb, yn, yc⟩ q ∧ PS w r rr) := ⟨h1, h2, h3⟩
      have hx0 : 0 ≤ xw ∧ xw ≤ 70368744177664 ∧ p.2.length ≤ 100000 := by have := hbd p (by simp); rw [← h1.1] at this; exact this
      have hy0 : 0 ≤ yw ∧ yw ≤ 70368744177664 ∧ q.2.length ≤ 100000 := by have := hbd q (by simp); rw [← h2.1] at this; exact this
      obtain ⟨hx1, hx2, hx3⟩ := hx0
      obtain ⟨hy1, hy2, hy3⟩ := hy0
      have HBD : Hid (∀ p ∈ rr, 0 ≤ p.1 ∧ p.1 ≤ 70368744177664 ∧ p.2.length ≤ 100000) := fun p hp => hbd p (by simp [hp])
      have hwr : IntKind.i64.wrap (xw + yw) = xw + yw := by rw [IntKind.wrap_i64]; omega
      obtain ⟨L, hL⟩ : ∃ L, p.2 ++ q.2 = L := ⟨_, rfl⟩
      have HL : Hid (p.2 ++ q.2 = L) := hL
      clear hp hps hrv hpr hbel h1 h2 h3 hbd hL
      go_wp2
      go_region_held3 (fun W => W.cell? ⟨b, off, none⟩ = some (.int .i64 xw) ∧ W.cell? ⟨b, off + 1, none⟩ = some (.slice (some ⟨xb, 0, none⟩) xn xc) ∧ W.cell? ⟨b, off + 2, none⟩ = some (.int .i64 yw) ∧ W.cell? ⟨b, off + 2 + 1, none⟩ = some (.slice (some ⟨yb, 0, none⟩) yn yc)) (go_keep) (fail)
      all_goals
        first
          | (obtain ⟨w2, hw2, HW⟩ : ∃ w2, ((wr.alloc (.cells #[.int .i64 xw, .slice (some ⟨xb, 0, none⟩) xn xc] 86)).alloc (.cells #[.int .i64 yw, .slice (some ⟨yb, 0, none⟩) yn yc] 86)).drew = w2 ∧ Hid (w2.heap[wr.heap.size]? = some (.cells #[.int .i64 xw, .slice (some ⟨xb, 0, none⟩) xn xc] 86 (0, 0)) ∧ w2.heap[(wr.heap.size + 1)]? = some (.cells #[.int .i64 yw, .slice (some ⟨yb, 0, none⟩) yn yc] 86 (0, 0)) ∧ Pd2 w wr w2 wr.heap.size (wr.heap.size + 1)) := ⟨_, rfl, two_news_a _ _ _, two_news_b _ _ _, two_news_below HK.out.2.2.2.2⟩
             rw [hw2]
             clear hw2
             generalize wr.heap.size + 1 = A5 at HW ⊢
             generalize wr.heap.size = A4 at HW ⊢)
          | (obtain ⟨w2, hw2, HW⟩ : ∃ w2, ((wr.alloc (.cells #[.int .i64 yw, .slice (some ⟨yb, 0, none⟩) yn yc] 86)).alloc (.cells #[.int .i64 xw, .slice (some ⟨xb, 0, none⟩) xn xc] 86)).drew = w2 ∧ Hid (w2.heap[(wr.heap.size + 1)]? = some (.cells #[.int .i64 xw, .slice (some ⟨xb, 0, none⟩) xn xc] 86 (0, 0)) ∧ w2.heap[wr.heap.size]? = some (.cells #[.int .i64 yw, .slice (some ⟨yb, 0, none⟩) yn yc] 86 (0, 0)) ∧ Pd2 w wr w2 (wr.heap.size + 1) wr.heap.size) := ⟨_, rfl, two_news_b _ _ _, two_news_a _ _ _, two_news_below' HK.out.2.2.2.2⟩
             rw [hw2]
             clear hw2
             generalize wr.heap.size + 1 = A4 at HW ⊢
             generalize wr.heap.size = A5 at HW ⊢)
        clear c0 c1 c2 c3 hbw
        obtain ⟨a0, a1, _, _⟩ := two_cells HW.out.1
        obtain ⟨b0, b1, _, _⟩ := two_cells HW.out.2.1
        have HVL : Hid (∀ k, V.ownBlock = some k → k < A4 ∧ k < A5) := fun k hk => by
          rcases HK.out.1.2 with ⟨h, _⟩ | ⟨g, cap, cur, h, _, hh, _⟩
          · rw [h] at hk; cases hk
          · rw [h] at hk; cases hk
            have h3 := lt_of_block hh
            obtain ⟨_, _, _, h4, h5⟩ := HW.out.2.2
            exact ⟨Nat.lt_of_lt_of_le h3 h4, Nat.lt_of_lt_of_le h3 h5⟩
        have HN4 : Hid (some A4 ≠ V.ownBlock) := fun e => by have := HVL.out A4 e.symm; omega
        have HN5 : Hid (some A5 ≠ V.ownBlock) := fun e => by have := HVL.out A5 e.symm; omega
        have HB2 : Hid (Below w.heap.size w w2) := HK.out.2.2.2.2.trans (HW.out.2.2.1.mono HK.out.2.2.2.2.size)
        have HP2 : Hid (PRow w2 w.heap.size V ys ∧ PS w2 ys qs) := ⟨HK.out.1.kept HW.out.2.2.1, PS.old HK.out.2.1 HW.out.2.2.1⟩
        have hA4 : A4 < w2.heap.size := lt_of_block HW.out.1
        have hA5 : A5 < w2.heap.size := lt_of_block HW.out.2.1
        have HB3 : Hid (Below w2.heap.size w2 (w2.alloc (.cells #[.slice (some ⟨xb, 0, none⟩) xn xc, .slice (some ⟨yb, 0, none⟩) yn yc] 22)).drew) := ⟨rfl, rfl, rfl, by simp, fun k hk => ((Below.refl w2.heap.size w2).alloc (Nat.le_refl _) _).block k hk⟩
        have HCN : Hid (Calls Try.prog 50 #[.slice (some ⟨w2.heap.size, 0, none⟩) 2 2] (w2.alloc (.cells #[.slice (some ⟨xb, 0, none⟩) xn xc, .slice (some ⟨yb, 0, none⟩) yn yc] 22)).drew fun e w' => ConPost (w2.alloc (.cells #[.slice (some ⟨xb, 0, none⟩) xn xc, .slice (some ⟨yb, 0, none⟩) yn yc] 22)).drew L e w') := by
          have hb : Below w.heap.size w (w2.alloc (.cells #[.slice (some ⟨xb, 0, none⟩) xn xc, .slice (some ⟨yb, 0, none⟩) yn yc] 22)).drew := HB2.out.trans (HB3.out.mono HB2.out.size)
          rw [← HL.out]
          exact concat_any w2.heap.size ⟨xw, xb, xn, xc⟩ ⟨yw, yb, yn, yc⟩ p.2 q.2 _ (heap_alloc_new w2 _) (HH.out.1.2.old hb) (HH.out.2.1.2.old hb) (by omega)
        go_wp2
        go_region_held3 (fun W => W.cell? ⟨A4, 0, none⟩ = some (.int .i64 xw) ∧ W.cell? ⟨A4, 1, none⟩ = some (.slice (some ⟨xb, 0, none⟩) xn xc) ∧ W.cell? ⟨A5, 0, none⟩ = some (.int .i64 yw) ∧ W.cell? ⟨A5, 1, none⟩ = some (.slice (some ⟨yb, 0, none⟩) yn yc)) (go_keep) (first
          | (go_at_call 50; refine Calls.mono HCN.out ?_; rintro e w5 ⟨g5, c5, rfl, hsy5, hg5, hb5⟩; have hb52 : Below w2.heap.size w2 w5 := HB3.out.trans (hb5.mono HB3.out.size); have k0 := (hb52.cell (p := ⟨A4, 0, none⟩) hA4).trans a0; have k1 := (hb52.cell (p := ⟨A4, 1, none⟩) hA4).trans a1; have k2 := (hb52.cell (p := ⟨A5, 0, none⟩) hA5).trans b0; have k3 := (hb52.cell (p := ⟨A5, 1, none⟩) hA5).trans b1)
          | (refine step_push rfl _ _ rfl w.heap.size V ys [⟨xw + yw, g5, L.length, c5⟩] rfl (HP2.out.1.kept (hb52.alloc hb52.size _)) (some ⟨w5.heap.size, 0, none⟩) 1 1 rfl rfl ?_ (rv_new w5 ⟨xw + yw, g5, L.length, c5⟩) ?_ ?_ ?_; (intro h; cases h); omega; (exact Nat.le_trans HB2.out.size (Nat.le_trans hb52.size (by simp))); intro v7 w7 hp7 hg7; have j4 := (hg7.block A4 (Nat.lt_of_lt_of_le hA4 (Nat.le_trans hb52.size (by simp))) HN4.out).trans (((hb52.alloc hb52.size _).block A4 hA4).trans HW.out.1); have j5 := (hg7.block A5 (Nat.lt_of_lt_of_le hA5 (Nat.le_trans hb52.size (by simp))) HN5.out).trans (((hb52.alloc hb52.size _).block A5 hA5).trans HW.out.2.1); have m0 := (two_cells j4).1; have m1 := (two_cells j4).2.1; have m2 := (two_cells j5).1; have m3 := (two_cells j5).2.1)
          | fail)
        have R : Hid (∀ ap cp', cp' ≤ maxLen → r.length ≤ cp' → RV w ap r → PdRel w ps v7 (.slice ap r.length cp') r.length w7) := fun ap cp' hc1 hc2 hrv => by
          have ho := hb52.alloc hb52.size (.cells #[.int .i64 (xw + yw), .slice (some ⟨g5, 0, none⟩) L.length c5] 86)
          have hp5 := HP2.out.1.kept ho
          have hsy : Rp (w5.alloc (.cells #[.int .i64 (xw + yw), .slice (some ⟨g5, 0, none⟩) L.length c5] 86)) ⟨xw + yw, g5, L.length, c5⟩ (p.1 + q.1, L) := by
            refine ⟨?_, (hsy5 (xw + yw)).old ((Below.refl _ _).alloc (Nat.le_refl _) _)⟩
            rw [← HH.out.1.1, ← HH.out.2.1.1]
          have hbb := HB2.out.trans (ho.mono HB2.out.size)
          refine ⟨_, qs ++ [(p.1 + q.1, L)], r, rr, ap, cp', hp7, (PS.kept (PS.old HP2.out.2 ho) hp5 hg7).append (.cons (hsy.kept hp5 hg7) .nil), rfl, hc2, hc1, hrv, HH.out.2.2, ?_, HBD.out, ?_, rfl, ?_, Fr.below hbb (Fr.grown (r := w.heap.size) hg7) (Nat.le_refl _) (PRow.blk hp5) hbb.size⟩
          · rw [← HK.out.2.2.2.1, prs, HL.out, List.append_assoc]; rfl
          · rw [List.length_append]; simp only [List.length_cons, List.length_nil]; omega
          · intro x hx
            rcases List.mem_append.1 hx with hx | hx
            · exact HXB.out x hx
            · simp only [List.mem_cons, List.not_mem_nil, or_false] at hx
              rw [hx]; exact Nat.le_trans HB2.out.size (Nat.le_trans HB3.out.size hg5)
        have HRV : Hid (RV w (some ⟨b, off, none⟩) (⟨xw, xb, xn, xc⟩ :: ⟨yw, yb, yn, yc⟩ :: r)) := HK.out.2.2.1
        clear hp7 hg7 hsy5 hg5 hb5 hb52 k0 k1 k2 k3 j4 j5 m0 m1 m2 m3 a0 a1 b0 b1 HCN HP2 HK HW
        unfold maxLen at hcp
        by_cases hc2 : cp = 2
        · subst hc2
          have hr0 : r = [] := List.length_eq_zero_iff.1 (by omega)
          have R2 := R.out (some ⟨b, off, none⟩) 0 (Nat.zero_le _) (by omega) (.inl hr0)
          have HR2 : Hid (PdRel w ps v7 (.slice (some ⟨b, off, none⟩) r.length 0) r.length w7) := R2
          clear R R2 hr0
          go_wp2
          go_roundg r.length
          case rel =>
            have e : r.length = 0 := by omega
            have h := HR2.out
            rw [e] at h ⊢
            exact h
          case measure => omega
        · have R2 := R.out (some ⟨b, off + 4, none⟩) (cp - 2) (by unfold maxLen; omega) (by omega) (HRV.out.drop 2 (by simp))
          have HR2 : Hid (PdRel w ps v7 (.slice (some ⟨b, off + 4, none⟩) r.length (cp - 2)) r.length w7) := R2
          clear R R2
          go_wp2
          go_roundg r.length
          case rel => exact HR2.out
          case measure => omega
end Go.Proofs.Ytjellgkojmgmjaa
