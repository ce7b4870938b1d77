/- The laws FilterBack, FilterChooses and FilterBest, walked. -/
import Derived.Test.YtchaggngdfioeaaFlG
namespace Go.Proofs.Ytchaggngdfioeaa
open Go.RowKit
set_option maxHeartbeats 1600000 in
theorem fback_walk (kd : Int) (a : Option Addr) (len cap : Nat) (a' : Option Addr) (len' cap' : Nat) (sp : Int) (w : World) (wk : (Lit.int .u8 kd).wf = true) (ha : BArg w a len cap) (ha' : BArg w a' len' cap') (ws : (Lit.int .u8 sp).wf = true) :
    Calls Try.prog 5 #[.int .u8 kd, .slice a len cap, .slice a' len' cap', .int .u8 sp] w fun e w' => e = .returned (.bool true) ∧ Below w.heap.size w w' := by
  obtain ⟨X, bX, nX, hl, hc, hc0, rX⟩ := ha
  obtain ⟨Y, bY, nY, hl', hc', hc0', rY⟩ := ha'
  have HX : Hid (Bytes X ∧ X.length = len ∧ Row w a X) := ⟨bX, nX, rX⟩
  have HY : Hid (Bytes Y ∧ Y.length = len' ∧ Row w a' Y) := ⟨bY, nY, rY⟩
  clear bX nX rX bY nY rY hc0 hc0'
  have hk := bounds_u8 wk
  have hs := bounds_u8 ws
  clear wk ws
  obtain ⟨k, hkk⟩ : ∃ k, k = kd % 5 := ⟨_, rfl⟩
  obtain ⟨s, hss⟩ : ∃ s, s = 1 + sp % 8 := ⟨_, rfl⟩
  have hk0 : ckN k s = 0 := ckN_yes (by omega) (by omega) (by omega) (by omega)
  have HS1 : Hid (1 ≤ s) := (by omega : 1 ≤ s)
  have HM : Hid (kd.tmod 5 = k ∧ 1 + sp.tmod 8 = s ∧ kd % 5 = k ∧ 1 + sp % 8 = s) := ⟨by rw [Int.tmod_eq_emod_of_nonneg (by omega)]; exact hkk.symm, by rw [Int.tmod_eq_emod_of_nonneg (by omega)]; exact hss.symm, hkk.symm, hss.symm⟩
  have hm1 : kd.tmod 5 = kd % 5 := Int.tmod_eq_emod_of_nonneg (by omega)
  have hm2 : sp.tmod 8 = sp % 8 := Int.tmod_eq_emod_of_nonneg (by omega)
  clear hkk hss
  go_enter Try.func5, Try.ntmps5
  go_wp2_with fail
  refine (fixed_any _).mono ?_
  rintro e w1 ⟨rfl, hb1⟩
  have HB1 : Hid (Below w.heap.size w w1) := hb1
  clear hb1
  go_wp2_with fail
  simp only [HM.out.2.2.1, HM.out.2.2.2]
  refine (do_any k a len cap a' len' cap' s X Y w1 HX.out.2.1 HY.out.2.1 HX.out.1 HY.out.1 (HX.out.2.2.old HB1.out) (HY.out.2.2.old HB1.out) (by omega) hk0).mono ?_
  rintro e w2 ⟨a2, c2, rfl, -, -, -, r2, b2⟩
  have HB2 : Hid (Below w.heap.size w w2 ∧ Row w2 a2 (doN k X Y s)) := ⟨HB1.out.trans (b2.mono HB1.out.size), r2⟩
  clear r2 b2
  have HL : Hid ((doN k X Y s).length = len ∧ (unN k X Y s).length = len) := ⟨(doN_len k X Y s).trans HX.out.2.1, (unN_len k X Y s).trans HX.out.2.1⟩
  rw [HL.out.1]
  have C := undo_any k a2 len c2 a' len' cap' s (doN k X Y s) Y w2 HL.out.1 HY.out.2.1 (doN_bytes k X Y s) HY.out.1 HB2.out.2 (HY.out.2.2.old HB2.out.1) (by omega) hk0
  rw [back_un k Y HS1.out HX.out.1] at C
  go_wp2_with fail
  refine C.mono ?_
  clear C
  rintro e w3 ⟨a3, c3, rfl, -, -, -, r3, b3⟩
  have HB3 : Hid (Below w.heap.size w w3 ∧ Row w3 a3 X) := ⟨HB2.out.1.trans (b3.mono HB2.out.1.size), r3⟩
  clear r3 b3
  rw [HX.out.2.1]
  have C := undo_any k a len cap a' len' cap' s X Y w3 HX.out.2.1 HY.out.2.1 HX.out.1 HY.out.1 (HX.out.2.2.old HB3.out.1) (HY.out.2.2.old HB3.out.1) (by omega) hk0
  go_wp2_with fail
  refine C.mono ?_
  clear C
  rintro e w4 ⟨a4, c4, rfl, -, -, -, r4, b4⟩
  have HB4 : Hid (Below w.heap.size w w4 ∧ Row w4 a3 X ∧ Row w4 a4 (unN k X Y s)) := ⟨HB3.out.1.trans (b4.mono HB3.out.1.size), HB3.out.2.old b4, r4⟩
  clear r4 b4
  rw [HL.out.2]
  have C := do_any k a4 len c4 a' len' cap' s (unN k X Y s) Y w4 HL.out.2 HY.out.2.1 (unN_bytes k X Y s) HY.out.1 HB4.out.2.2 (HY.out.2.2.old HB4.out.1) (by omega) hk0
  rw [back_do k Y HS1.out HX.out.1] at C
  go_wp2_with fail
  refine C.mono ?_
  clear C
  rintro e w5 ⟨a5, c5, rfl, -, -, -, r5, b5⟩
  have HB5 : Hid (Below w.heap.size w w5 ∧ Row w5 a3 X ∧ Row w5 a5 X) := ⟨HB4.out.1.trans (b5.mono HB4.out.1.size), HB4.out.2.1.old b5, r5⟩
  clear r5 b5
  rw [HX.out.2.1]
  go_wp2_with fail
  refine (same_any a3 a len c3 cap X _ HX.out.2.1 HB5.out.2.1 (HX.out.2.2.old HB5.out.1)).mono ?_
  rintro e w6 ⟨rfl, rfl⟩
  go_wp2_with fail
  refine (same_any a5 a len c5 cap X _ HX.out.2.1 HB5.out.2.2 (HX.out.2.2.old HB5.out.1)).mono ?_
  rintro e w7 ⟨rfl, rfl⟩
  go_wp2
  go_ret
  exact ⟨rfl, HB5.out.1⟩
set_option maxHeartbeats 1600000 in
theorem fchooses_walk (a : Option Addr) (len cap : Nat) (a' : Option Addr) (len' cap' : Nat) (s : Int) (w : World) (ha : BArg w a len cap) (ha' : BArg w a' len' cap') (_ : (Lit.int .i64 s).wf = true) :
    Calls Try.prog 6 #[.slice a len cap, .slice a' len' cap', .int .i64 s] w fun e w' => e = .returned (.bool true) ∧ Below w.heap.size w w' := by
  obtain ⟨X, bX, nX, hl, hc, hc0, rX⟩ := ha
  obtain ⟨Y, bY, nY, hl', hc', hc0', rY⟩ := ha'
  have HI : Hid (∀ w1, Below w.heap.size w w1 → ChIn w1 a len a' len' X Y) := fun w1 h => ⟨nX, nY, bX, bY, rX.old h, rY.old h, by omega⟩
  clear bX nX rX bY nY rY hc0 hc0'
  go_enter Try.func6, Try.ntmps6
  go_wp2_with fail
  refine (fixed_any _).mono ?_
  rintro e w1 ⟨rfl, hb1⟩
  have HB1 : Hid (Below w.heap.size w w1) := hb1
  clear hb1
  by_cases hs : s < 1 ∨ 8 < s
  · have C1 := choose_no (.slice a len cap) (.slice a' len' cap') s w1 hs
    have C2 := rchoose_no (.slice a len cap) (.slice a' len' cap') s w1 hs
    clear hs
    go_wp2_with fail
    refine C1.mono ?_
    rintro e w2 ⟨rfl, rfl⟩
    go_wp2_with fail
    refine C2.mono ?_
    rintro e w3 ⟨rfl, rfl⟩
    go_wp2
    go_ret
    exact ⟨rfl, HB1.out⟩
  · have hs0 : 1 ≤ s := by omega
    have hs1 : s ≤ 8 := by omega
    clear hs
    have C1 := choose_any a len cap a' len' cap' s X Y w1 (HI.out w1 HB1.out) hs0 hs1
    have HC2 : Hid (∀ w2, Below w.heap.size w w2 → Calls Try.prog 15 #[.slice a len cap, .slice a' len' cap', .int .i64 s] w2 fun e w' => ChPost w2 (bstN (wtK X Y s) 5) e w') := fun w2 h => rchoose_any a len cap a' len' cap' s X Y w2 (HI.out w2 h) hs0 hs1
    generalize bstN (wtK X Y s) 5 = K at *
    go_wp2_with fail
    refine C1.mono ?_
    clear C1
    rintro e w2 ⟨rfl, hb2⟩
    have HB2 : Hid (Below w.heap.size w w2) := HB1.out.trans (hb2.mono HB1.out.size)
    clear hb2
    have C2 := HC2.out w2 HB2.out
    go_wp2_with fail
    refine C2.mono ?_
    clear C2
    rintro e w3 ⟨rfl, hb3⟩
    have HB3 : Hid (Below w.heap.size w w3) := HB2.out.trans (hb3.mono HB2.out.size)
    clear hb3
    go_wp2
    go_ret
    exact ⟨rfl, HB3.out⟩
set_option maxHeartbeats 1600000 in
theorem fbest_walk (a : Option Addr) (len cap : Nat) (a' : Option Addr) (len' cap' : Nat) (sp ot : Int) (w : World) (ha : BArg w a len cap) (ha' : BArg w a' len' cap') (ws : (Lit.int .u8 sp).wf = true) (wo : (Lit.int .u8 ot).wf = true) :
    Calls Try.prog 7 #[.slice a len cap, .slice a' len' cap', .int .u8 sp, .int .u8 ot] w fun e w' => e = .returned (.bool true) ∧ Below w.heap.size w w' := by
  obtain ⟨X, bX, nX, hl, hc, hc0, rX⟩ := ha
  obtain ⟨Y, bY, nY, hl', hc', hc0', rY⟩ := ha'
  have HI : Hid (∀ w1, Below w.heap.size w w1 → ChIn w1 a len a' len' X Y) := fun w1 h => ⟨nX, nY, bX, bY, rX.old h, rY.old h, by omega⟩
  have HX : Hid (X.length = len) := nX
  clear bX nX rX bY nY rY hc0 hc0'
  have hk := bounds_u8 wo
  have hs := bounds_u8 ws
  clear wo ws
  obtain ⟨k, hkk⟩ : ∃ k : Nat, (k : Int) = ot % 5 := ⟨(ot % 5).toNat, by omega⟩
  obtain ⟨s, hss⟩ : ∃ s, s = 1 + sp % 8 := ⟨_, rfl⟩
  have HS : Hid (1 ≤ s ∧ s ≤ 8 ∧ k < 5) := ⟨by omega, by omega, by omega⟩
  have HM : Hid (ot % 5 = (k : Int) ∧ 1 + sp % 8 = s) := ⟨hkk.symm, hss.symm⟩
  have hm1 : ot.tmod 5 = ot % 5 := Int.tmod_eq_emod_of_nonneg (by omega)
  have hm2 : sp.tmod 8 = sp % 8 := Int.tmod_eq_emod_of_nonneg (by omega)
  clear hkk hss
  have HD : Hid (∀ w2 (j : Nat), Below w.heap.size w w2 → j < 5 → Calls Try.prog 9 #[.int .i64 j, .slice a len cap, .slice a' len' cap', .int .i64 s] w2 fun e w' => NewB2 w2 (doN j X Y s) e w') := fun w2 j h hj =>
    have I := HI.out w2 h
    do_any j a len cap a' len' cap' s X Y w2 I.lx I.ly I.bx I.bY I.rx I.ry I.le (ckN_yes (by omega) (by omega) HS.out.1 HS.out.2.1)
  have HC : Hid (∀ w1, Below w.heap.size w w1 → Calls Try.prog 14 #[.slice a len cap, .slice a' len' cap', .int .i64 s] w1 fun e w' => ChPost w1 (bstN (wtK X Y s) 5) e w') := fun w1 h => choose_any a len cap a' len' cap' s X Y w1 (HI.out w1 h) HS.out.1 HS.out.2.1
  have HW : Hid (wtN (doN (bstN (wtK X Y s) 5 : Nat) X Y s) ≤ wtN (doN k X Y s) ∧ bstN (wtK X Y s) 5 < 5) := ⟨bstN_least (wtK X Y s) 5 k HS.out.2.2, bstN_lt _ 5 (by omega)⟩
  generalize bstN (wtK X Y s) 5 = K at *
  go_enter Try.func7, Try.ntmps7
  go_wp2_with fail
  refine (fixed_any _).mono ?_
  rintro e w1 ⟨rfl, hb1⟩
  have HB1 : Hid (Below w.heap.size w w1) := hb1
  clear hb1
  go_wp2_with fail
  simp only [HM.out.2]
  have C := HC.out w1 HB1.out
  refine C.mono ?_
  clear C
  rintro e w2 ⟨rfl, hb2⟩
  have HB2 : Hid (Below w.heap.size w w2) := HB1.out.trans (hb2.mono HB1.out.size)
  clear hb2
  have C := HD.out w2 K HB2.out HW.out.2
  go_wp2_with fail
  refine C.mono ?_
  clear C
  rintro e w3 ⟨a3, c3, rfl, -, -, -, r3, b3⟩
  have HB3 : Hid (Below w.heap.size w w3 ∧ Row w3 a3 (doN K X Y s)) := ⟨HB2.out.trans (b3.mono HB2.out.size), r3⟩
  clear r3 b3
  rw [show (doN K X Y s).length = len from (doN_len K X Y s).trans HX.out]
  have C := HD.out w3 k HB3.out.1 HS.out.2.2
  go_wp2_with fail
  simp only [HM.out.1]
  refine C.mono ?_
  clear C
  rintro e w4 ⟨a4, c4, rfl, -, -, -, r4, b4⟩
  have HB4 : Hid (Below w.heap.size w w4 ∧ Row w4 a3 (doN K X Y s) ∧ Row w4 a4 (doN k X Y s)) := ⟨HB3.out.1.trans (b4.mono HB3.out.1.size), HB3.out.2.old b4, r4⟩
  clear r4 b4
  rw [show (doN k X Y s).length = len from (doN_len k X Y s).trans HX.out]
  have C1 := rweight_any a3 len c3 _ w4 ((doN_len K X Y s).trans HX.out) (doN_bytes K X Y s) HB4.out.2.1 (by omega)
  have C2 := rweight_any a4 len c4 _ w4 ((doN_len k X Y s).trans HX.out) (doN_bytes k X Y s) HB4.out.2.2 (by omega)
  have hle := HW.out.1
  generalize wtN (doN K X Y s) = P at *
  generalize wtN (doN k X Y s) = Q at *
  go_wp2_with fail
  refine C1.mono ?_
  rintro e w5 ⟨rfl, rfl⟩
  go_wp2_with fail
  refine C2.mono ?_
  rintro e w6 ⟨rfl, rfl⟩
  go_wp2
  go_ret
  exact ⟨rfl, HB4.out.1⟩
end Go.Proofs.Ytchaggngdfioeaa
