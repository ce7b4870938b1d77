/- PixelChecks: the walk. -/
import Derived.Test.YtbjoalgglmalnaaDoorPxM
import Derived.Test.YtbjoalgglmalnaaDoorPxI
import Derived.Deep.RegionWith
namespace Go.Proofs.YtbjoalgglmalnaaDoor
open Go.RowKit
/-- What is known of a raster that came in. -/
structure RsA (w : World) (r : Rs) (A K S : List Int) : Prop where
  a : IRow w r.aa A
  an : A.length = r.an
  k : IRow w r.ca K
  kn : K.length = r.cn
  s : IRow w r.sa S
  sn : S.length = r.sn
theorem RsA.few {w : World} {r : Rs} {A K S : List Int} (h : RsA w r A K S) (hf : r.sn ≤ 5000 ∧ r.tn ≤ 300 ∧ r.an ≤ 300 ∧ r.cn ≤ 10) : RsM w r A K S := ⟨h.a, h.an, h.k, h.kn, h.s, h.sn, by omega⟩
set_option maxHeartbeats 6400000 in
theorem pchecks_walk (r : Rs) (A K S : List Int) (w : World) (ht : Tab w) (hm : RsA w r A K S) : Calls Tryd.prog 6 #[r.V] w fun e w' => e = .returned (.bool true) ∧ Below w.heap.size w w' := by
  have HQ : Hid (QR w r.c9 _) := QR.box w r.c9
  have C0 := fixed_any _ (ht.old HQ.out.1)
  have HFe : Hid (∀ u, QR w r.c9 u → Calls Tryd.prog 16 #[r.V] u fun e w' => e = .returned (.bool (decide (r.sn ≤ 5000 ∧ r.tn ≤ 300 ∧ r.an ≤ 300 ∧ r.cn ≤ 10))) ∧ QR w r.c9 w') := fun u h => (few_any r u).mono fun e w' q => ⟨q.1, h.old q.2⟩
  have HCk : Hid (decide (r.sn ≤ 5000 ∧ r.tn ≤ 300 ∧ r.an ≤ 300 ∧ r.cn ≤ 10) = true → ∀ u, QR w r.c9 u → Calls Tryd.prog 17 #[r.V] u fun e w' => e = .returned (.int .i64 (chE r.W r.H r.C r.D r.tn A K S)) ∧ QR w r.c9 w') := fun hf u h => (check_any r A K S u (ht.old h.1) ((hm.few (of_decide_eq_true hf)).old h.1)).mono fun e w' q => ⟨q.1, h.old q.2⟩
  have HRk : Hid (decide (r.sn ≤ 5000 ∧ r.tn ≤ 300 ∧ r.an ≤ 300 ∧ r.cn ≤ 10) = true → ∀ u, QR w r.c9 u → Calls Tryd.prog 18 #[r.V] u fun e w' => e = .returned (.int .i64 (chE r.W r.H r.C r.D r.tn A K S)) ∧ QR w r.c9 w') := fun hf u h => (rcheck_any r A K S u ((hm.few (of_decide_eq_true hf)).old h.1)).mono fun e w' q => ⟨q.1, h.old q.2⟩
  generalize chE r.W r.H r.C r.D r.tn A K S = E at *
  obtain ⟨F, hF⟩ : ∃ F, decide (r.sn ≤ 5000 ∧ r.tn ≤ 300 ∧ r.an ≤ 300 ∧ r.cn ≤ 10) = F := ⟨_, rfl⟩
  rw [hF] at HFe HCk HRk
  clear hF ht hm
  obtain ⟨W, H, C, D, L, ta, tn, tc, aa, an, ac, ca, cn, cc, sa, sn, sc⟩ := r
  unfold Rs.V at *
  unfold Rs.c9 at *
  simp only at *
  go_enter Tryd.func6, Tryd.ntmps6
  go_wp2_with fail
  refine C0.mono ?_
  clear C0
  rintro e w1 ⟨rfl, hb1⟩
  have HQ1 : Hid (QR w #[.int .i64 W, .int .i64 H, .int .i64 C, .int .i64 D, .bool L, .slice ta tn tc, .slice aa an ac, .slice ca cn cc, .slice sa sn sc] w1.drew) := (HQ.out.old hb1).old ⟨rfl, rfl, rfl, Nat.le_refl _, fun _ _ => rfl⟩
  have hq1 := (HQ.out.old hb1).2
  clear hb1 HQ
  obtain ⟨c0, c1, c2, c3, c4, c5, c6, c7, c8⟩ := nine_cells hq1
  clear hq1
  obtain ⟨b0, b1, b2, b3, b4, b5, b6, b7, b8⟩ := nine_cells HQ1.out.2
  cases F
  · go_upto_region 3 with fail
    go_region_with (go_at_call 16; refine Calls.mono (HFe.out _ HQ1.out) ?_; rintro e w2 ⟨rfl, q2⟩; have HQ2 : Hid (QR w _ w2) := q2; clear q2)
    all_goals go_wp2
    all_goals go_ret
    all_goals exact ⟨rfl, HQ2.out.1⟩
  · have HCk2 : Hid _ := HCk.out rfl
    have HRk2 : Hid _ := HRk.out rfl
    clear HCk HRk
    go_upto_region 3 with fail
    go_region_held3 (fun u => u.cell? ⟨w.heap.size, 0, none⟩ = some (.int .i64 W) ∧ u.cell? ⟨w.heap.size, 1, none⟩ = some (.int .i64 H) ∧ u.cell? ⟨w.heap.size, 2, none⟩ = some (.int .i64 C) ∧ u.cell? ⟨w.heap.size, 3, none⟩ = some (.int .i64 D) ∧ u.cell? ⟨w.heap.size, 4, none⟩ = some (.bool L) ∧ u.cell? ⟨w.heap.size, 5, none⟩ = some (.slice ta tn tc) ∧ u.cell? ⟨w.heap.size, 6, none⟩ = some (.slice aa an ac) ∧ u.cell? ⟨w.heap.size, 7, none⟩ = some (.slice ca cn cc) ∧ u.cell? ⟨w.heap.size, 8, none⟩ = some (.slice sa sn sc))
      (first | (with_reducible exact ⟨by with_reducible assumption, by with_reducible assumption, by with_reducible assumption, by with_reducible assumption, by with_reducible assumption, by with_reducible assumption, by with_reducible assumption, by with_reducible assumption, by with_reducible assumption⟩) | go_keep) (first
      | (go_at_call 16; refine Calls.mono (HFe.out _ HQ1.out) ?_; rintro e w2 ⟨rfl, q2⟩; have HQ2 : Hid (QR w _ w2) := q2; obtain ⟨d0, d1, d2, d3, d4, d5, d6, d7, d8⟩ := nine_cells q2.2; clear q2)
      | (go_at_call 17; refine Calls.mono (HCk2.out _ HQ2.out) ?_; rintro e w3 ⟨rfl, q3⟩; have HQ3 : Hid (QR w _ w3) := q3; obtain ⟨e0, e1, e2, e3, e4, e5, e6, e7, e8⟩ := nine_cells q3.2; clear q3)
      | (go_at_call 18; refine Calls.mono (HRk2.out _ HQ3.out) ?_; rintro e w4 ⟨rfl, q4⟩; have HQ4 : Hid (QR w _ w4) := q4; obtain ⟨f0, f1, f2, f3, f4, f5, f6, f7, f8⟩ := nine_cells q4.2; clear q4)
      | fail)
    go_wp2
    go_ret
    exact ⟨by simp, HQ4.out.1⟩
end Go.Proofs.YtbjoalgglmalnaaDoor
