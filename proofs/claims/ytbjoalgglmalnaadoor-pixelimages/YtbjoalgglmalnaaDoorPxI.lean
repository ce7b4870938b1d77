/- Check of the document; a grey pixel's colour. -/
import Derived.Test.YtbjoalgglmalnaaDoorPxH
import Derived.Deep.DeepCutAuto
import Derived.Deep.CutBlock
namespace Go.Proofs.YtbjoalgglmalnaaDoor
open Go.RowKit
set_option maxHeartbeats 3200000 in
theorem rcheck_any (r : Rs) (A K S : List Int) (w : World) (hm : RsM w r A K S) : Calls Tryd.prog 18 #[r.V] w fun e w' => e = .returned (.int .i64 (chE r.W r.H r.C r.D r.tn A K S)) ∧ Below w.heap.size w w' := by
  have HQ : Hid (QR w r.c9 _) := QR.box w r.c9
  have CK := tables_any r A K S _ (hm.old HQ.out.1)
  have HM : Hid (RsM w r A K S) := hm
  unfold chE
  by_cases h0 : ckE r.W r.H r.C r.D r.tn A K = 0
  · rw [if_pos h0]
    rw [h0] at CK
    obtain ⟨f1, f2, f3⟩ := may_facts (ckE_may h0)
    have HS : Hid (∀ w1, QR w r.c9 w1 → Calls Tryd.prog 32 #[r.V, .slice r.sa r.sn r.sc, .int .i64 (r.W * r.H * spN r.C)] w1 fun e w' => e = .returned (.int .i64 (nmE r.C r.D r.tn S (r.W * r.H * spN r.C))) ∧ QR w r.c9 w') := fun w1 h =>
      (numbers_any r r.sa r.sn r.sc S _ w1 (HM.out.s.old h.1) HM.out.sn HM.out.bd.2.2.1 f1 HM.out.bd.2.2.2).mono fun e w' q => ⟨q.1, h.old q.2⟩
    generalize nmE r.C r.D r.tn S (r.W * r.H * spN r.C) = R at *
    have hwm : wrap64 (r.W * r.H) = r.W * r.H := by unfold wrap64; omega
    have hwm2 : IntKind.i64.wrap (r.W * r.H) = r.W * r.H := by rw [IntKind.wrap_i64]; omega
    have hmul : 0 ≤ r.W * r.H * spN r.C ∧ r.W * r.H * spN r.C ≤ 262144 := ⟨Int.mul_nonneg (by omega) (by omega), by have : r.W * r.H * spN r.C ≤ 65536 * 4 := Int.mul_le_mul f2.2 f3.2 (by omega) (by omega); omega⟩
    have hwm3 : IntKind.i64.wrap (r.W * r.H * spN r.C) = r.W * r.H * spN r.C := by rw [IntKind.wrap_i64]; omega
    have HSp : Hid (∀ w1, Calls Tryd.prog 33 #[.int .i64 r.C] w1 fun e w' => e = .returned (.int .i64 (spN r.C)) ∧ w' = w1) := fun w1 => rsamples_any r.C w1
    clear hm h0 f1 f2 f3
    obtain ⟨W, H, C, D, L, ta, tn, tc, aa, an, ac, ca, cn, cc, sa, sn, sc⟩ := r
    unfold Rs.V at *
    unfold Rs.c9 at *
    simp only at *
    go_enter Tryd.func18, Tryd.ntmps18
    go_wp2_with fail
    refine CK.mono ?_
    clear CK
    rintro e w1 ⟨rfl, hb1⟩
    have HQ1 : Hid (QR w #[.int .i64 W, .int .i64 H, .int .i64 C, .int .i64 D, .bool L, .slice ta tn tc, .slice aa an ac, .slice ca cn cc, .slice sa sn sc] w1.drew) := by
      have q := HQ.out.old hb1
      exact ⟨⟨q.1.os, q.1.tape, q.1.output, q.1.size, q.1.block⟩, q.2⟩
    obtain ⟨c0, c1, c2, c3, c4, c5, c6, c7, c8⟩ := nine_cells HQ1.out.2
    clear hb1 HQ
    generalize spN C = Q at *
    obtain ⟨M, hM⟩ : ∃ M, W * H = M := ⟨_, rfl⟩
    rw [hM] at hwm hwm2 hwm3 hmul HS
    obtain ⟨N, hN⟩ : ∃ N, M * Q = N := ⟨_, rfl⟩
    rw [hN] at hwm3 hmul HS
    go_upto_region 4 with fail
    go_region_held3 (fun u => u.cell? ⟨w.heap.size, 0, none⟩ = some (.int .i64 W) ∧ u.cell? ⟨w.heap.size, 1, none⟩ = some (.int .i64 H) ∧ u.cell? ⟨w.heap.size, 2, none⟩ = some (.int .i64 C) ∧ u.cell? ⟨w.heap.size, 3, none⟩ = some (.int .i64 D) ∧ u.cell? ⟨w.heap.size, 4, none⟩ = some (.bool L) ∧ u.cell? ⟨w.heap.size, 5, none⟩ = some (.slice ta tn tc) ∧ u.cell? ⟨w.heap.size, 6, none⟩ = some (.slice aa an ac) ∧ u.cell? ⟨w.heap.size, 7, none⟩ = some (.slice ca cn cc) ∧ u.cell? ⟨w.heap.size, 8, none⟩ = some (.slice sa sn sc))
      (first | exact ⟨by assumption, by assumption, by assumption, by assumption, by assumption, by assumption, by assumption, by assumption, by assumption⟩ | go_keep) (first
      | (go_at_call 33; refine Calls.mono (HSp.out _) ?_; rintro e w2 ⟨rfl, rfl⟩)
      | (go_at_call 32; refine Calls.mono (HS.out _ HQ1.out) ?_; rintro e w3 ⟨rfl, hq3⟩; obtain ⟨d0, d1, d2, d3, d4, d5, d6, d7, d8⟩ := nine_cells hq3.2)
      | fail)
    have HF : Hid (Below w.heap.size w w3) := hq3.1
    clear hq3 HQ1 c0 c1 c2 c3 c4 c5 c6 c7 c8 d0 d1 d2 d3 d4 d5 d6 d7 d8
    go_wp2
    go_ret
    exact ⟨rfl, HF.out⟩
  · rw [if_neg h0]
    have hne : (ckE r.W r.H r.C r.D r.tn A K != 0) = true := by simpa using h0
    generalize ckE r.W r.H r.C r.D r.tn A K = E at *
    clear hm h0
    obtain ⟨W, H, C, D, L, ta, tn, tc, aa, an, ac, ca, cn, cc, sa, sn, sc⟩ := r
    unfold Rs.V at *
    unfold Rs.c9 at *
    simp only at *
    go_enter Tryd.func18, Tryd.ntmps18
    go_wp2_with fail
    refine CK.mono ?_
    clear CK
    rintro e w1 ⟨rfl, hb1⟩
    have HF : Hid (Below w.heap.size w w1) := (HQ.out.old hb1).1
    clear hb1
    go_wp2
    go_ret
    exact ⟨rfl, HF.out⟩
end Go.Proofs.YtbjoalgglmalnaaDoor
