/- The document's Of, of a raster or samples that may not be. -/
import Derived.Test.YtbjoalgglmalnaaDoorPxP
import Derived.Test.YtbjoalgglmalnaaDoorPxI
namespace Go.Proofs.YtbjoalgglmalnaaDoor
open Go.RowKit
set_option maxHeartbeats 1600000 in
theorem rof_kind (r : Rs) (A K S : List Int) (la : Option Addr) (ln lc : Nat) (w : World) (hm : RsM w r A K S) (hk : ckE r.W r.H r.C r.D r.tn A K ≠ 0) :
    Calls Tryd.prog 20 #[r.V, .slice la ln lc] w fun e w' => e = .returned (.tuple #[.agg #[.int .u16 0, .int .u16 0, .int .u16 0, .int .u16 0], .int .i64 (ckE r.W r.H r.C r.D r.tn A K)]) ∧ Below w.heap.size w w' := by
  have HO : Hid (OfI w r.c9 _) := OfI.start w r.c9
  have CK := tables_any r A K S _ (hm.old HO.out.qr.1)
  have hne : (ckE r.W r.H r.C r.D r.tn A K != 0) = true := by simpa using hk
  generalize ckE r.W r.H r.C r.D r.tn A K = E at *
  clear hm hk
  obtain ⟨W, H, C, D, L, ta, tn, tc, aa, an, ac, ca, cn, cc, sa, sn, sc⟩ := r
  unfold Rs.V at *
  unfold Rs.c9 at *
  simp only at *
  go_enter Tryd.func20, Tryd.ntmps20
  go_wp2_with fail
  refine CK.mono ?_
  clear CK
  rintro e w1 ⟨rfl, hb1⟩
  obtain ⟨r0, r1, r2, r3, rf⟩ := (HO.out.old hb1).rcells
  have HB : Hid (Below w.heap.size w w1) := (HO.out.old hb1).qr.1
  clear hb1 HO
  go_wp2
  refine bodyPost_ret (v := .tuple #[.agg #[.int .u16 0, .int .u16 0, .int .u16 0, .int .u16 0], .int .i64 E]) ?_ rfl ⟨rfl, four_set HB.out⟩
  rw [results_cellP rfl]
  go_simp
set_option maxHeartbeats 3200000 in
theorem rof_num (r : Rs) (A K S : List Int) (la : Option Addr) (ln lc : Nat) (l : List Int) (w : World) (hm : RsM w r A K S) (hl : IRow w la l) (hln : l.length = ln) (hlb : ln ≤ 17592186044416) (hk : ckE r.W r.H r.C r.D r.tn A K = 0) (hs : smE r.C r.D r.tn l 1 ≠ 0) :
    Calls Tryd.prog 20 #[r.V, .slice la ln lc] w fun e w' => e = .returned (.tuple #[.agg #[.int .u16 0, .int .u16 0, .int .u16 0, .int .u16 0], .int .i64 (smE r.C r.D r.tn l 1)]) ∧ Below w.heap.size w w' := by
  have HO : Hid (OfI w r.c9 _) := OfI.start w r.c9
  obtain ⟨f1, f2, f3⟩ := may_facts (ckE_may hk)
  have CK := tables_any r A K S _ (hm.old HO.out.qr.1)
  rw [hk] at CK
  have hsE : smE r.C r.D r.tn l 1 = nmE r.C r.D r.tn l (spN r.C) := by rw [smE_nmE, Int.one_mul]
  rw [hsE] at hs ⊢
  have HS : Hid (∀ w1, OfI w r.c9 w1 → Calls Tryd.prog 32 #[r.V, .slice la ln lc, .int .i64 (spN r.C)] w1 fun e w' => e = .returned (.int .i64 (nmE r.C r.D r.tn l (spN r.C))) ∧ OfI w r.c9 w') := fun w1 h =>
    (numbers_any r la ln lc l _ w1 (hl.old h.qr.1) hln hlb f1 hm.bd.2.2.2).mono fun e w' q => ⟨q.1, h.old q.2⟩
  have HSp : Hid (∀ w1, Calls Tryd.prog 33 #[.int .i64 r.C] w1 fun e w' => e = .returned (.int .i64 (spN r.C)) ∧ w' = w1) := fun w1 => rsamples_any r.C w1
  have hne : (nmE r.C r.D r.tn l (spN r.C) != 0) = true := by simpa using hs
  generalize nmE r.C r.D r.tn l (spN r.C) = E at *
  clear hm hk hl hln hlb f1 f2 f3 hs hsE
  obtain ⟨W, H, C, D, L, ta, tn, tc, aa, an, ac, ca, cn, cc, sa, sn, sc⟩ := r
  unfold Rs.V at *
  unfold Rs.c9 at *
  simp only at *
  generalize spN C = Q at *
  go_enter Tryd.func20, Tryd.ntmps20
  go_wp2_with fail
  refine CK.mono ?_
  clear CK
  rintro e w1 ⟨rfl, hb1⟩
  have HO1 : Hid (OfI w #[.int .i64 W, .int .i64 H, .int .i64 C, .int .i64 D, .bool L, .slice ta tn tc, .slice aa an ac, .slice ca cn cc, .slice sa sn sc] w1) := HO.out.old hb1
  have HO2 : Hid (OfI w #[.int .i64 W, .int .i64 H, .int .i64 C, .int .i64 D, .bool L, .slice ta tn tc, .slice aa an ac, .slice ca cn cc, .slice sa sn sc] w1.drew) := HO1.out.old ⟨rfl, rfl, rfl, Nat.le_refl _, fun _ _ => rfl⟩
  obtain ⟨c0, c1, c2, c3, c4, c5, c6, c7, c8⟩ := nine_cells HO1.out.qr.2
  obtain ⟨b0, b1, b2, b3, b4, b5, b6, b7, b8⟩ := nine_cells HO2.out.qr.2
  clear hb1 HO HO1
  go_upto_region 4 with fail
  go_region_held3 (fun u => u.cell? ⟨w.heap.size, 0, none⟩ = some (.int .i64 W) ∧ u.cell? ⟨w.heap.size, 1, none⟩ = some (.int .i64 H) ∧ u.cell? ⟨w.heap.size, 2, none⟩ = some (.int .i64 C) ∧ u.cell? ⟨w.heap.size, 3, none⟩ = some (.int .i64 D) ∧ u.cell? ⟨w.heap.size, 4, none⟩ = some (.bool L) ∧ u.cell? ⟨w.heap.size, 5, none⟩ = some (.slice ta tn tc) ∧ u.cell? ⟨w.heap.size, 6, none⟩ = some (.slice aa an ac) ∧ u.cell? ⟨w.heap.size, 7, none⟩ = some (.slice ca cn cc) ∧ u.cell? ⟨w.heap.size, 8, none⟩ = some (.slice sa sn sc))
    (first | (with_reducible exact ⟨by with_reducible assumption, by with_reducible assumption, by with_reducible assumption, by with_reducible assumption, by with_reducible assumption, by with_reducible assumption, by with_reducible assumption, by with_reducible assumption, by with_reducible assumption⟩) | go_keep) (first
    | (go_at_call 33; refine Calls.mono (HSp.out _) ?_; rintro e w2 ⟨rfl, rfl⟩)
    | (go_at_call 32; refine Calls.mono (HS.out _ HO2.out) ?_; rintro e w3 ⟨rfl, q3⟩; have HO3 : Hid (OfI w _ w3) := q3; obtain ⟨d0, d1, d2, d3, d4, d5, d6, d7, d8⟩ := nine_cells q3.qr.2; clear q3)
    | fail)
  obtain ⟨r0, r1, r2, r3, rf⟩ := HO3.out.rcells
  have HB : Hid (Below w.heap.size w w3) := HO3.out.qr.1
  clear HO2 HO3 HS HSp c0 c1 c2 c3 c4 c5 c6 c7 c8 b0 b1 b2 b3 b4 b5 b6 b7 b8 d0 d1 d2 d3 d4 d5 d6 d7 d8
  go_wp2
  refine bodyPost_ret (v := .tuple #[.agg #[.int .u16 0, .int .u16 0, .int .u16 0, .int .u16 0], .int .i64 E]) ?_ rfl ⟨rfl, four_set HB.out⟩
  rw [results_cellP rfl]
  go_simp
end Go.Proofs.YtbjoalgglmalnaaDoor
