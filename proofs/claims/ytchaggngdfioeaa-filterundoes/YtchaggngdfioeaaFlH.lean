/- The laws FilterDoes and FilterUndoes, walked. -/
import Derived.Test.YtchaggngdfioeaaFlG
namespace Go.Proofs.Ytchaggngdfioeaa
open Go.RowKit
set_option maxHeartbeats 1600000 in
theorem fdoes_walk (k : Int) (a : Option Addr) (len cap : Nat) (a' : Option Addr) (len' cap' : Nat) (s : Int) (w : World) (_ : (Lit.int .i64 k).wf = true) (ha : BArg w a len cap) (ha' : BArg w a' len' cap') (_ : (Lit.int .i64 s).wf = true) :
    Calls Try.prog 3 #[.int .i64 k, .slice a len cap, .slice a' len' cap', .int .i64 s] w fun e w' => e = .returned (.bool true) ∧ Below w.heap.size w w' := by
  obtain ⟨X, bX, nX, hl, hc, hc0, rX⟩ := ha
  obtain ⟨Y, bY, nY, hl', hc', hc0', rY⟩ := ha'
  have HX : Hid (Bytes X ∧ X.length = len ∧ Row w a X ∧ (a = none → cap = 0)) := ⟨bX, nX, rX, hc0⟩
  have HY : Hid (Bytes Y ∧ Y.length = len' ∧ Row w a' Y ∧ (a' = none → cap' = 0)) := ⟨bY, nY, rY, hc0'⟩
  clear bX nX rX bY nY rY hc0 hc0'
  go_enter Try.func3, Try.ntmps3
  go_wp2_with fail
  refine (fixed_any _).mono ?_
  rintro e w1 ⟨rfl, hb1⟩
  have HB1 : Hid (Below w.heap.size w w1) := hb1
  clear hb1
  go_wp2_with (at_builtin; refine wpList_copy rfl _ _ rfl a len cap X rfl rfl HX.out.2.2.2 HX.out.2.1 (HX.out.2.2.1.old HB1.out) (by omega) ?_)
  intro x1 c1 w2 g2 hsl hg hb2
  have HB2 : Hid (Below w.heap.size w w2 ∧ Row w2 x1 X) := ⟨HB1.out.trans (hb2.mono HB1.out.size), hsl.row rfl⟩
  clear hsl hg hb2
  go_wp2_with (at_builtin; refine wpList_copy rfl _ _ rfl a' len' cap' Y rfl rfl HY.out.2.2.2 HY.out.2.1 (HY.out.2.2.1.old HB2.out.1) (by omega) ?_)
  intro x2 c2 w3 g3 hsl hg hb3
  have HB3 : Hid (Below w.heap.size w w3 ∧ Row w3 x1 X ∧ Row w3 x2 Y) := ⟨HB2.out.1.trans (hb3.mono HB2.out.1.size), HB2.out.2.old hb3, hsl.row rfl⟩
  clear hsl hg hb3
  by_cases hk : ckN k s = 0
  · have C1 := do_any k x1 len c1 x2 len' c2 s X Y w3 HX.out.2.1 HY.out.2.1 HX.out.1 HY.out.1 HB3.out.2.1 HB3.out.2.2 (by omega) hk
    go_wp2_with fail
    refine C1.mono ?_
    clear C1
    rintro e w4 ⟨a4, c4, rfl, -, -, -, r4, b4⟩
    have HB4 : Hid (Below w.heap.size w w4 ∧ Row w4 x1 X ∧ Row w4 x2 Y ∧ Row w4 a4 (doN k X Y s)) := ⟨HB3.out.1.trans (b4.mono HB3.out.1.size), HB3.out.2.1.old b4, HB3.out.2.2.old b4, r4⟩
    clear r4 b4
    have C2 := rdo_any k a len cap a' len' cap' s X Y w4 HX.out.2.1 HY.out.2.1 HX.out.1 HY.out.1 (HX.out.2.2.1.old HB4.out.1) (HY.out.2.2.1.old HB4.out.1) (by omega) hk
    have HL : Hid ((doN k X Y s).length = len) := (doN_len k X Y s).trans HX.out.2.1
    rw [HL.out]
    go_wp2_with fail
    refine C2.mono ?_
    clear C2
    rintro e w5 ⟨a5, c5, rfl, -, -, -, r5, b5⟩
    have HB5 : Hid (Below w.heap.size w w5 ∧ Row w5 x1 X ∧ Row w5 x2 Y ∧ Row w5 a4 (doN k X Y s) ∧ Row w5 a5 (doN k X Y s)) := ⟨HB4.out.1.trans (b5.mono HB4.out.1.size), HB4.out.2.1.old b5, HB4.out.2.2.1.old b5, HB4.out.2.2.2.old b5, r5⟩
    clear r5 b5
    rw [HL.out]
    go_wp2_with fail
    refine (same_any a4 a5 len c4 c5 (doN k X Y s) _ HL.out HB5.out.2.2.2.1 HB5.out.2.2.2.2).mono ?_
    rintro e w6 ⟨rfl, rfl⟩
    go_wp2_with fail
    refine (same_any x1 a len c1 cap X _ HX.out.2.1 HB5.out.2.1 (HX.out.2.2.1.old HB5.out.1)).mono ?_
    rintro e w7 ⟨rfl, rfl⟩
    go_wp2_with fail
    refine (same_any x2 a' len' c2 cap' Y _ HY.out.2.1 HB5.out.2.2.1 (HY.out.2.2.1.old HB5.out.1)).mono ?_
    rintro e w8 ⟨rfl, rfl⟩
    go_wp2
    go_ret
    exact ⟨rfl, HB5.out.1⟩
  · have C1 := do_no k s (.slice x1 len c1) (.slice x2 len' c2) w3 hk
    have C2 := rdo_no k s (.slice a len cap) (.slice a' len' cap') w3 hk
    generalize ckN k s = E at *
    go_wp2_with fail
    refine C1.mono ?_
    rintro e w4 ⟨rfl, rfl⟩
    go_wp2_with fail
    refine C2.mono ?_
    rintro e w5 ⟨rfl, rfl⟩
    go_wp2_with fail
    refine (same_any none none 0 0 0 [] _ rfl (.inl rfl) (.inl rfl)).mono ?_
    rintro e w6 ⟨rfl, rfl⟩
    go_wp2_with fail
    refine (same_any x1 a len c1 cap X _ HX.out.2.1 HB3.out.2.1 (HX.out.2.2.1.old HB3.out.1)).mono ?_
    rintro e w7 ⟨rfl, rfl⟩
    go_wp2_with fail
    refine (same_any x2 a' len' c2 cap' Y _ HY.out.2.1 HB3.out.2.2 (HY.out.2.2.1.old HB3.out.1)).mono ?_
    rintro e w8 ⟨rfl, rfl⟩
    go_wp2
    go_ret
    exact ⟨rfl, HB3.out.1⟩
set_option maxHeartbeats 1600000 in
theorem fundoes_walk (k : Int) (a : Option Addr) (len cap : Nat) (a' : Option Addr) (len' cap' : Nat) (s : Int) (w : World) (_ : (Lit.int .i64 k).wf = true) (ha : BArg w a len cap) (ha' : BArg w a' len' cap') (_ : (Lit.int .i64 s).wf = true) :
    Calls Try.prog 4 #[.int .i64 k, .slice a len cap, .slice a' len' cap', .int .i64 s] w fun e w' => e = .returned (.bool true) ∧ Below w.heap.size w w' := by
  obtain ⟨X, bX, nX, hl, hc, hc0, rX⟩ := ha
  obtain ⟨Y, bY, nY, hl', hc', hc0', rY⟩ := ha'
  have HX : Hid (Bytes X ∧ X.length = len ∧ Row w a X ∧ (a = none → cap = 0)) := ⟨bX, nX, rX, hc0⟩
  have HY : Hid (Bytes Y ∧ Y.length = len' ∧ Row w a' Y ∧ (a' = none → cap' = 0)) := ⟨bY, nY, rY, hc0'⟩
  clear bX nX rX bY nY rY hc0 hc0'
  go_enter Try.func4, Try.ntmps4
  go_wp2_with fail
  refine (fixed_any _).mono ?_
  rintro e w1 ⟨rfl, hb1⟩
  have HB1 : Hid (Below w.heap.size w w1) := hb1
  clear hb1
  go_wp2_with (at_builtin; refine wpList_copy rfl _ _ rfl a len cap X rfl rfl HX.out.2.2.2 HX.out.2.1 (HX.out.2.2.1.old HB1.out) (by omega) ?_)
  intro x1 c1 w2 g2 hsl hg hb2
  have HB2 : Hid (Below w.heap.size w w2 ∧ Row w2 x1 X) := ⟨HB1.out.trans (hb2.mono HB1.out.size), hsl.row rfl⟩
  clear hsl hg hb2
  go_wp2_with (at_builtin; refine wpList_copy rfl _ _ rfl a' len' cap' Y rfl rfl HY.out.2.2.2 HY.out.2.1 (HY.out.2.2.1.old HB2.out.1) (by omega) ?_)
  intro x2 c2 w3 g3 hsl hg hb3
  have HB3 : Hid (Below w.heap.size w w3 ∧ Row w3 x1 X ∧ Row w3 x2 Y) := ⟨HB2.out.1.trans (hb3.mono HB2.out.1.size), HB2.out.2.old hb3, hsl.row rfl⟩
  clear hsl hg hb3
  by_cases hk : ckN k s = 0
  · have C1 := undo_any k x1 len c1 x2 len' c2 s X Y w3 HX.out.2.1 HY.out.2.1 HX.out.1 HY.out.1 HB3.out.2.1 HB3.out.2.2 (by omega) hk
    go_wp2_with fail
    refine C1.mono ?_
    clear C1
    rintro e w4 ⟨a4, c4, rfl, -, -, -, r4, b4⟩
    have HB4 : Hid (Below w.heap.size w w4 ∧ Row w4 x1 X ∧ Row w4 x2 Y ∧ Row w4 a4 (unN k X Y s)) := ⟨HB3.out.1.trans (b4.mono HB3.out.1.size), HB3.out.2.1.old b4, HB3.out.2.2.old b4, r4⟩
    clear r4 b4
    have C2 := rundo_any k a len cap a' len' cap' s X Y w4 HX.out.2.1 HY.out.2.1 HX.out.1 HY.out.1 (HX.out.2.2.1.old HB4.out.1) (HY.out.2.2.1.old HB4.out.1) (by omega) hk
    have HL : Hid ((unN k X Y s).length = len) := (unN_len k X Y s).trans HX.out.2.1
    rw [HL.out]
    go_wp2_with fail
    refine C2.mono ?_
    clear C2
    rintro e w5 ⟨a5, c5, rfl, -, -, -, r5, b5⟩
    have HB5 : Hid (Below w.heap.size w w5 ∧ Row w5 x1 X ∧ Row w5 x2 Y ∧ Row w5 a4 (unN k X Y s) ∧ Row w5 a5 (unN k X Y s)) := ⟨HB4.out.1.trans (b5.mono HB4.out.1.size), HB4.out.2.1.old b5, HB4.out.2.2.1.old b5, HB4.out.2.2.2.old b5, r5⟩
    clear r5 b5
    rw [HL.out]
    go_wp2_with fail
    refine (same_any a4 a5 len c4 c5 (unN k X Y s) _ HL.out HB5.out.2.2.2.1 HB5.out.2.2.2.2).mono ?_
    rintro e w6 ⟨rfl, rfl⟩
    go_wp2_with fail
    refine (same_any x1 a len c1 cap X _ HX.out.2.1 HB5.out.2.1 (HX.out.2.2.1.old HB5.out.1)).mono ?_
    rintro e w7 ⟨rfl, rfl⟩
    go_wp2_with fail
    refine (same_any x2 a' len' c2 cap' Y _ HY.out.2.1 HB5.out.2.2.1 (HY.out.2.2.1.old HB5.out.1)).mono ?_
    rintro e w8 ⟨rfl, rfl⟩
    go_wp2
    go_ret
    exact ⟨rfl, HB5.out.1⟩
  · have C1 := undo_no k s (.slice x1 len c1) (.slice x2 len' c2) w3 hk
    have C2 := rundo_no k s (.slice a len cap) (.slice a' len' cap') w3 hk
    generalize ckN k s = E at *
    go_wp2_with fail
    refine C1.mono ?_
    rintro e w4 ⟨rfl, rfl⟩
    go_wp2_with fail
    refine C2.mono ?_
    rintro e w5 ⟨rfl, rfl⟩
    go_wp2_with fail
    refine (same_any none none 0 0 0 [] _ rfl (.inl rfl) (.inl rfl)).mono ?_
    rintro e w6 ⟨rfl, rfl⟩
    go_wp2_with fail
    refine (same_any x1 a len c1 cap X _ HX.out.2.1 HB3.out.2.1 (HX.out.2.2.1.old HB3.out.1)).mono ?_
    rintro e w7 ⟨rfl, rfl⟩
    go_wp2_with fail
    refine (same_any x2 a' len' c2 cap' Y _ HY.out.2.1 HB3.out.2.2 (HY.out.2.2.1.old HB3.out.1)).mono ?_
    rintro e w8 ⟨rfl, rfl⟩
    go_wp2
    go_ret
    exact ⟨rfl, HB3.out.1⟩
end Go.Proofs.Ytchaggngdfioeaa
