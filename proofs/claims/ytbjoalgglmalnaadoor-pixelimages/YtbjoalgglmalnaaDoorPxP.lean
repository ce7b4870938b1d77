/- A pixel's colour: Of, of a raster or samples that may not be. -/
import Derived.Test.YtbjoalgglmalnaaDoorPxL
namespace Go.Proofs.YtbjoalgglmalnaaDoor
open Go.RowKit
set_option maxHeartbeats 1600000 in
theorem of_kind (r : Rs) (A K S : List Int) (la : Option Addr) (ln lc : Nat) (w : World) (ht : Tab w) (hm : RsM w r A K S) (hk : ckE r.W r.H r.C r.D r.tn A K ≠ 0) :
    Calls Tryd.prog 19 #[r.V, .slice la ln lc] w fun e w' => e = .returned (.tuple #[.agg #[.int .u16 0, .int .u16 0, .int .u16 0, .int .u16 0], .int .i64 (ckE r.W r.H r.C r.D r.tn A K)]) ∧ Below w.heap.size w w' := by
  have HO : Hid (OfI w r.c9 _) := OfI.start w r.c9
  have CK := checkKind_any r A K S _ (ht.old HO.out.qr.1) (hm.old HO.out.qr.1)
  have hne : (ckE r.W r.H r.C r.D r.tn A K != 0) = true := by simpa using hk
  generalize ckE r.W r.H r.C r.D r.tn A K = E at *
  clear ht hm hk
  obtain ⟨W, H, C, D, L, ta, tn, tc, aa, an, ac, ca, cn, cc, sa, sn, sc⟩ := r
  unfold Rs.V at *
  unfold Rs.c9 at *
  simp only at *
  go_enter Tryd.func19, Tryd.ntmps19
  go_wp2_with fail
  refine CK.mono ?_
  clear CK
  rintro e w1 ⟨rfl, hb1⟩
  obtain ⟨r0, r1, r2, r3, rf⟩ := (HO.out.old hb1).rcells
  have HB : Hid (Below w.heap.size w w1) := (HO.out.old hb1).qr.1
  clear hb1 HO
  go_wp2
  refine bodyPost_ret (v := .tuple #[.agg #[.int .u16 0, .int .u16 0, .int .u16 0, .int .u16 0], .int .i64 E]) ?_ rfl ⟨rfl, four_set HB.out⟩
  rw [results_cellP rfl]
  go_simp
set_option maxHeartbeats 1600000 in
theorem of_num (r : Rs) (A K S : List Int) (la : Option Addr) (ln lc : Nat) (l : List Int) (w : World) (ht : Tab w) (hm : RsM w r A K S) (hl : IRow w la l) (hln : l.length = ln) (hlb : ln ≤ 17592186044416) (hk : ckE r.W r.H r.C r.D r.tn A K = 0) (hs : smE r.C r.D r.tn l 1 ≠ 0) :
    Calls Tryd.prog 19 #[r.V, .slice la ln lc] w fun e w' => e = .returned (.tuple #[.agg #[.int .u16 0, .int .u16 0, .int .u16 0, .int .u16 0], .int .i64 (smE r.C r.D r.tn l 1)]) ∧ Below w.heap.size w w' := by
  have HO : Hid (OfI w r.c9 _) := OfI.start w r.c9
  obtain ⟨f1, f2, f3⟩ := may_facts (ckE_may hk)
  have CK := checkKind_any r A K S _ (ht.old HO.out.qr.1) (hm.old HO.out.qr.1)
  rw [hk] at CK
  have HS : Hid (∀ w1, Below w.heap.size w w1 → Calls Tryd.prog 30 #[r.V, .slice la ln lc, .int .i64 1] w1 fun e w' => e = .returned (.int .i64 (smE r.C r.D r.tn l 1)) ∧ Below w1.heap.size w1 w') := fun w1 h =>
    checkSamples_any r la ln lc l 1 w1 (ht.old h) (hl.old h) hln hlb f1 ⟨by omega, f3.2⟩ (by omega) hm.bd.2.2.2
  have hne : (smE r.C r.D r.tn l 1 != 0) = true := by simpa using hs
  generalize smE r.C r.D r.tn l 1 = E at *
  clear ht hm hk hl hln hlb f1 f2 f3 hs
  obtain ⟨W, H, C, D, L, ta, tn, tc, aa, an, ac, ca, cn, cc, sa, sn, sc⟩ := r
  unfold Rs.V at *
  unfold Rs.c9 at *
  simp only at *
  go_enter Tryd.func19, Tryd.ntmps19
  go_wp2_with fail
  refine CK.mono ?_
  clear CK
  rintro e w1 ⟨rfl, hb1⟩
  have HO1 : Hid (OfI w _ w1) := HO.out.old hb1
  obtain ⟨c0, c1, c2, c3, c4, c5, c6, c7, c8⟩ := nine_cells HO1.out.qr.2
  have CS := HS.out w1 HO1.out.qr.1
  clear hb1 HO HS
  go_wp2_with fail
  refine CS.mono ?_
  clear CS
  rintro e w2 ⟨rfl, hb2⟩
  obtain ⟨r0, r1, r2, r3, rf⟩ := (HO1.out.old hb2).rcells
  have HB : Hid (Below w.heap.size w w2) := (HO1.out.old hb2).qr.1
  clear hb2 HO1 c0 c1 c2 c3 c4 c5 c6 c7 c8
  go_wp2
  refine bodyPost_ret (v := .tuple #[.agg #[.int .u16 0, .int .u16 0, .int .u16 0, .int .u16 0], .int .i64 E]) ?_ rfl ⟨rfl, four_set HB.out⟩
  rw [results_cellP rfl]
  go_simp
end Go.Proofs.YtbjoalgglmalnaaDoor
