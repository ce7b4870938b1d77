/- SegmentBack: the walk. -/
import Derived.Test.YtaibojmaghmfnaaMhB
import Derived.Test.YtaibojmaghmfnaaMhO
namespace Go.Proofs.Ytaibojmaghmfnaa
open Go.RowKit
set_option maxHeartbeats 12800000 in
theorem back_walk (m : Ms) (G : List (Int × Int)) (D : List Int) (w : World) (hk : (Lit.int .i64 m.k).wf = true) (hm : MsM w m G D) : Calls Try.prog 6 #[m.V] w fun e w' => e = .returned (.bool true) ∧ Below w.heap.size w w' := by
  have HQ : Hid (QM w m.c12 _) := QM.box w m.c12
  obtain ⟨ok, hok⟩ : ∃ ok, mayW m G = ok := ⟨_, rfl⟩
  obtain ⟨LN, hLN⟩ : ∃ LN, lnM m = LN := ⟨_, rfl⟩
  obtain ⟨A, hAe⟩ : ∃ A, txM m G D = A := ⟨_, rfl⟩
  have HW2 : Hid (∀ u, QM w m.c12 u → Calls Try.prog 9 #[m.V] u fun e w' => (ok = false → e = .returned (.tuple #[.slice none 0 0, .int .i64 1]) ∧ Below u.heap.size u w') ∧ (ok = true → WrP u (9 + LN) (sealM A) e w')) := fun u h => (write_all m G D u hk (hm.old h.1)).mono fun e w' q => by
    unfold WaP at q
    rw [hok, hLN, hAe] at q
    exact q
  have HOk : Hid (ok = true → rdOk (sealM A) = true ∧ mnT (txT (sealM A)) = m.mn G D ∧ LN ≤ 1029) := fun h => by
    rw [← hok] at h
    unfold mayW at h
    simp only [Bool.and_eq_true] at h
    have hb := back_all m G D h.1 h.2 hm.gn hm.d.1 hm.su hm.bo
    rw [seal_tx, ← hAe, ← hLN]
    exact ⟨seal_ok _ (tx_len m G D) hb.1, hb.2, lnM_le m G h.2⟩
  have HSm : Hid (∀ (u : World) (ra' : Option Addr) (rc' : Nat) (da' : Option Addr) (dc' : Nat), Below w.heap.size w u → RgR u ra' G → Row u da' D → Calls Try.prog 12 #[((m.mn G D).ms ra' rc' da' dc').V, m.V] u fun e w' => e = .returned (.bool true) ∧ Below u.heap.size u w') := fun u ra' rc' da' dc' hu h1 h2 =>
    rsame_yes ((m.mn G D).ms ra' rc' da' dc') m G D u ⟨rfl, rfl, rfl, rfl, rfl, rfl, rfl, rfl, rfl, rfl, hm.gn, hm.d.1⟩ rfl rfl (by show G.length ≤ _; rw [hm.gn]; exact hm.rb) h1 (hm.g.old hu) h2 (hm.d.2.2.2.2.2.old hu)
  have HGD : Hid (G.length = m.rn ∧ D.length = m.dn) := ⟨hm.gn, hm.d.1⟩
  clear hk hm hLN hAe hok
  obtain ⟨k, bo, fi, su, si, ap, bd, ix, pa, co, ra, rn, rc, da, dn, dc⟩ := m
  unfold Ms.mn Mn.ms Ms.V at *
  unfold Ms.c12 at *
  simp only at *
  have hG := HGD.out.1
  have hD := HGD.out.2
  rw [hG, hD] at HSm
  clear hG hD
  go_enter Try.func6, Try.ntmps6
  go_wp2_with fail
  refine (fixed_any _).mono ?_
  rintro e w1 ⟨rfl, b1⟩
  have HQ1 : Hid (QM w #[.int .i64 k, .int .u32 bo, .int .i64 fi, .int .u32 su, .int .i64 si, .int .i64 ap, .int .i64 bd, .int .i64 ix, .int .i64 pa, .int .i64 co, .slice ra rn rc, .slice da dn dc] w1) := HQ.out.old b1
  obtain ⟨m0, m1, m2, m3, m4, m5, m6, m7, m8, m9, m10, m11⟩ := twelve_cells HQ1.out.2
  clear b1 HQ
  go_wp2_with fail
  refine Calls.mono (HW2.out _ HQ1.out) ?_
  rintro e w2 ⟨hf, ht⟩
  cases ok
  · obtain ⟨rfl, b2⟩ := hf rfl
    have HB : Hid (Below w.heap.size w w2) := HQ1.out.1.trans (b2.mono HQ1.out.1.size)
    clear hf ht b2
    go_wp2
    go_ret
    exact ⟨rfl, HB.out⟩
  · obtain ⟨a, c, g, rfl, sl, hl, hb, fr, b2⟩ := ht rfl
    have hOk := HOk.out rfl
    obtain ⟨a', c', e, q1, q2, q3⟩ := sl.shape
    simp at e
    obtain ⟨rfl, -, rfl⟩ := e
    rw [vals_len, hl] at q1
    have HQ2 : Hid (QM w #[.int .i64 k, .int .u32 bo, .int .i64 fi, .int .u32 su, .int .i64 si, .int .i64 ap, .int .i64 bd, .int .i64 ix, .int .i64 pa, .int .i64 co, .slice ra rn rc, .slice da dn dc] w2) := HQ1.out.old b2
    have CR := read_any a (9 + LN) c (sealM A) w2 hl q3 (by have := hOk.2.2; omega) q1 q2 hb (sl.row rfl)
    have HCR : Hid (Calls Try.prog 13 #[.slice a (9 + LN) c] w2 fun e w' => MsP w2 (rdOk (sealM A)) (rdE (sealM A)) (mnT (txT (sealM A))) e w') := CR
    have HOk2 : Hid (rdOk (sealM A) = true ∧ mnT (txT (sealM A)) = ⟨k, bo, fi, su, si, ap, bd, ix, pa, co, G, D⟩) := ⟨hOk.1, hOk.2.1⟩
    obtain ⟨n0, n1, n2, n3, n4, n5, n6, n7, n8, n9, n10, n11⟩ := twelve_cells HQ2.out.2
    clear hf ht sl hl hb fr b2 hOk CR HW2 HOk q1 q2 q3
    go_wp2_with fail
    refine Calls.mono HCR.out ?_
    rintro e w3 ⟨b3, -, h3⟩
    obtain ⟨ra', rc', da', dc', rfl, hm3⟩ := h3 HOk2.out.1
    rw [HOk2.out.2] at hm3 ⊢
    unfold Mn.ms Ms.V Ms.c12
    simp only
    rw [HGD.out.1, HGD.out.2]
    have HQ3 : Hid (QM w #[.int .i64 k, .int .u32 bo, .int .i64 fi, .int .u32 su, .int .i64 si, .int .i64 ap, .int .i64 bd, .int .i64 ix, .int .i64 pa, .int .i64 co, .slice ra rn rc, .slice da dn dc] w3) := HQ2.out.old b3
    have HM3 : Hid (RgR w3 ra' G ∧ Row w3 da' D) := ⟨hm3.g, hm3.d.2.2.2.2.2⟩
    clear b3 h3 hm3 HCR
    have hA4 : Below w3.heap.size w3 (w3.alloc (.cells #[.int .i64 k, .int .u32 bo, .int .i64 fi, .int .u32 su, .int .i64 si, .int .i64 ap, .int .i64 bd, .int .i64 ix, .int .i64 pa, .int .i64 co, .slice ra' rn rc', .slice da' dn dc'] 26)) := (Below.refl _ _).alloc (Nat.le_refl _) _
    have HQ4 : Hid (QM w #[.int .i64 k, .int .u32 bo, .int .i64 fi, .int .u32 su, .int .i64 si, .int .i64 ap, .int .i64 bd, .int .i64 ix, .int .i64 pa, .int .i64 co, .slice ra rn rc, .slice da dn dc] (w3.alloc (.cells #[.int .i64 k, .int .u32 bo, .int .i64 fi, .int .u32 su, .int .i64 si, .int .i64 ap, .int .i64 bd, .int .i64 ix, .int .i64 pa, .int .i64 co, .slice ra' rn rc', .slice da' dn dc'] 26))) := HQ3.out.old hA4
    have CS := HSm.out (w3.alloc (.cells #[.int .i64 k, .int .u32 bo, .int .i64 fi, .int .u32 su, .int .i64 si, .int .i64 ap, .int .i64 bd, .int .i64 ix, .int .i64 pa, .int .i64 co, .slice ra' rn rc', .slice da' dn dc'] 26)) ra' rc' da' dc' HQ4.out.1 (HM3.out.1.old hA4) (HM3.out.2.old hA4)
    have HCS : Hid (Calls Try.prog 12 #[.agg #[.int .i64 k, .int .u32 bo, .int .i64 fi, .int .u32 su, .int .i64 si, .int .i64 ap, .int .i64 bd, .int .i64 ix, .int .i64 pa, .int .i64 co, .slice ra' rn rc', .slice da' dn dc'], .agg #[.int .i64 k, .int .u32 bo, .int .i64 fi, .int .u32 su, .int .i64 si, .int .i64 ap, .int .i64 bd, .int .i64 ix, .int .i64 pa, .int .i64 co, .slice ra rn rc, .slice da dn dc]] (w3.alloc (.cells #[.int .i64 k, .int .u32 bo, .int .i64 fi, .int .u32 su, .int .i64 si, .int .i64 ap, .int .i64 bd, .int .i64 ix, .int .i64 pa, .int .i64 co, .slice ra' rn rc', .slice da' dn dc'] 26)) fun e w' => e = .returned (.bool true) ∧ Below (w3.alloc (.cells #[.int .i64 k, .int .u32 bo, .int .i64 fi, .int .u32 su, .int .i64 si, .int .i64 ap, .int .i64 bd, .int .i64 ix, .int .i64 pa, .int .i64 co, .slice ra' rn rc', .slice da' dn dc'] 26)).heap.size (w3.alloc (.cells #[.int .i64 k, .int .u32 bo, .int .i64 fi, .int .u32 su, .int .i64 si, .int .i64 ap, .int .i64 bd, .int .i64 ix, .int .i64 pa, .int .i64 co, .slice ra' rn rc', .slice da' dn dc'] 26)) w') := CS
    obtain ⟨p0, p1, p2, p3, p4, p5, p6, p7, p8, p9, p10, p11⟩ := twelve_cells HQ3.out.2
    obtain ⟨q0, q1, q2, q3, q4, q5, q6, q7, q8, q9, q10, q11⟩ := twelve_cells HQ4.out.2
    clear hA4 CS HSm
    go_wp2_with (go_at_call 12; refine Calls.mono HCS.out ?_; rintro e w5 ⟨rfl, b5⟩; have HB5 : Hid (Below w.heap.size w w5) := HQ4.out.1.trans (b5.mono HQ4.out.1.size); clear b5)
    go_ret
    exact ⟨by simp, HB5.out⟩
end Go.Proofs.Ytaibojmaghmfnaa
