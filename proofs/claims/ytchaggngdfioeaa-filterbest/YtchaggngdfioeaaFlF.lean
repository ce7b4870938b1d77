/- How great bytes are together; which filter is chosen. -/
import Derived.Test.YtchaggngdfioeaaFlE
namespace Go.Proofs.Ytchaggngdfioeaa
open Go.RowKit
theorem wrap_i8F (n : Int) : IntKind.i8.wrap n = if 128 ≤ n % 256 then n % 256 - 256 else n % 256 := by simp [IntKind.wrap, IntKind.bits, IntKind.signed]
theorem sz_i8 (z : Int) (h0 : 0 ≤ z) (h1 : z < 256) : szN (IntKind.i8.wrap z) = wt1 z := by
  rw [wrap_i8F]; unfold szN wt1; split <;> split <;> omega
theorem i8_bd (z : Int) (_ : 0 ≤ z) (_ : z < 256) : -128 ≤ IntKind.i8.wrap z ∧ IntKind.i8.wrap z ≤ 127 := by
  rw [wrap_i8F]; split <;> omega
set_option maxHeartbeats 800000 in
theorem weight_any (a : Option Addr) (n cap : Nat) (x : List Int) (w : World) (hx : x.length = n) (bx : Bytes x) (rx : Row w a x) (hn : n ≤ 140737488355328) :
    Calls Try.prog 21 #[.slice a n cap] w fun e w' => e = .returned (.int .i64 (wtN x)) ∧ w' = w := by
  have HX : Hid (x.length = n ∧ Bytes x ∧ Row w a x) := ⟨hx, bx, rx⟩
  clear hx bx rx
  go_enter Try.func21, Try.ntmps21
  go_wp2
  go_loop [3, 5, 8] (fun v _ i => ∃ j : Nat, j ≤ n ∧ i = .int .i64 j ∧ v = .int .i64 (wtN (x.take j))) (fun _ _ i => n - (intOf i).toNat)
  case atStart => exact ⟨0, Nat.zero_le _, rfl, rfl⟩
  case round =>
    obtain ⟨j, hj, rfl, rfl⟩ := hrel
    by_cases hlt : j < n
    · obtain ⟨b, off, rfl, hc⟩ := HX.out.2.2.at j (by rw [HX.out.1]; exact hlt)
      have hzb := HX.out.2.1.at j
      have hbd := wtN_bd (HX.out.2.1.take j)
      rw [List.length_take] at hbd
      have HU : Hid (wtN (x.take (j + 1)) = wtN (x.take j) + wt1 (x[j]?.getD 0)) := by show _ = _; rw [take_snoc x j (by rw [HX.out.1]; exact hlt), wtN_snoc]
      generalize x[j]?.getD 0 = z at *
      have C := size_any (IntKind.i8.wrap z) w (by have := i8_bd z hzb.1 hzb.2; omega) (by have := i8_bd z hzb.1 hzb.2; omega)
      rw [sz_i8 z hzb.1 hzb.2] at C
      have h8 := i8_bd z hzb.1 hzb.2
      have hw8 : wrap64 (IntKind.i8.wrap z) = IntKind.i8.wrap z := by unfold wrap64; omega
      have hw1 : 0 ≤ wt1 z ∧ wt1 z ≤ 128 := by unfold wt1; omega
      generalize wt1 z = z1 at *
      generalize wtN (x.take j) = V at *
      have hV : 0 ≤ V ∧ V ≤ 18014398509481984 := by omega
      clear hbd
      go_wp2_with fail
      refine C.mono ?_
      rintro e w1 ⟨rfl, rfl⟩
      clear C
      go_wp2
      go_round
      case rel => exact ⟨j + 1, by omega, by go_num, by rw [HU.out]⟩
      case measure => simp [intOf]; omega
    · go_wp2
      go_ret
      exact ⟨ret_int (by rw [List.take_of_length_le (by have := HX.out.1; omega)]), rfl⟩
set_option maxHeartbeats 800000 in
theorem rweight_any (a : Option Addr) (n cap : Nat) (x : List Int) (w : World) (hx : x.length = n) (bx : Bytes x) (rx : Row w a x) (hn : n ≤ 140737488355328) :
    Calls Try.prog 16 #[.slice a n cap] w fun e w' => e = .returned (.int .i64 (wtN x)) ∧ w' = w := by
  have HX : Hid (x.length = n ∧ Bytes x ∧ Row w a x) := ⟨hx, bx, rx⟩
  clear hx bx rx
  go_enter Try.func16, Try.ntmps16
  go_wp2
  go_loop [3, 5, 8] (fun v _ i => ∃ j : Nat, j ≤ n ∧ i = .int .i64 j ∧ v = .int .i64 (wtN (x.take j))) (fun _ _ i => n - (intOf i).toNat)
  case atStart => exact ⟨0, Nat.zero_le _, rfl, rfl⟩
  case round =>
    obtain ⟨j, hj, rfl, rfl⟩ := hrel
    by_cases hlt : j < n
    · obtain ⟨b, off, rfl, hc⟩ := HX.out.2.2.at j (by rw [HX.out.1]; exact hlt)
      have hzb := HX.out.2.1.at j
      have hbd := wtN_bd (HX.out.2.1.take j)
      rw [List.length_take] at hbd
      have HU : Hid (wtN (x.take (j + 1)) = wtN (x.take j) + wt1 (x[j]?.getD 0)) := by show _ = _; rw [take_snoc x j (by rw [HX.out.1]; exact hlt), wtN_snoc]
      generalize x[j]?.getD 0 = z at *
      generalize wtN (x.take j) = V at *
      have hV : 0 ≤ V ∧ V ≤ 18014398509481984 := by omega
      clear hbd
      rcases (show z < 256 - z ∨ 256 - z < z ∨ z = 128 by omega) with h | h | h
      · have e : wt1 z = z := by unfold wt1; omega
        rw [e] at HU
        clear e
        go_wp2
        go_round
        case rel => exact ⟨j + 1, by omega, by go_num, by rw [HU.out]⟩
        case measure => simp [intOf]; omega
      · have e : wt1 z = 256 - z := by unfold wt1; omega
        rw [e] at HU
        clear e
        go_wp2
        go_round
        case rel => exact ⟨j + 1, by omega, by go_num, by rw [HU.out]⟩
        case measure => simp [intOf]; omega
      · have e : wt1 z = 128 := by unfold wt1; omega
        rw [e] at HU
        subst h
        clear e
        go_wp2
        go_round
        case rel => exact ⟨j + 1, by omega, by go_num, by rw [HU.out]⟩
        case measure => simp [intOf]; omega
    · go_wp2
      go_ret
      exact ⟨ret_int (by rw [List.take_of_length_le (by have := HX.out.1; omega)]), rfl⟩
structure ChIn (w : World) (a : Option Addr) (n : Nat) (a' : Option Addr) (n' : Nat) (x y : List Int) : Prop where
  lx : x.length = n
  ly : y.length = n'
  bx : Bytes x
  bY : Bytes y
  rx : Row w a x
  ry : Row w a' y
  le : n ≤ 140737488351232
def wtK (x y : List Int) (s : Int) (k : Nat) : Int := wtN (doN k x y s)
theorem wtK_bd (x y : List Int) (s : Int) (k : Nat) : 0 ≤ wtK x y s k := (wtN_bd (doN_bytes k x y s)).1
set_option maxHeartbeats 400000 in
theorem choose_no (v u : Value) (s : Int) (w : World) (h : s < 1 ∨ 8 < s) : Calls Try.prog 14 #[v, u, .int .i64 s] w fun e w' => e = .returned (.tuple #[.int .i64 0, .int .i64 1]) ∧ w' = w := by
  have h1 : ckN 0 s = 1 := by unfold ckN; rw [if_pos h]
  have C := do_no 0 s v u w (by rw [h1]; decide)
  rw [h1] at C
  go_enter Try.func14, Try.ntmps14
  go_wp2
  go_loop [8, 9, 10, 11, 12, 13, 14] (fun _ _ _ _ _ _ i => i = .int .i64 0) (fun _ _ _ _ _ _ _ => 0)
  case atStart => exact rfl
  case round =>
    obtain rfl := hrel
    go_wp2_with fail
    refine C.mono ?_
    rintro e w1 ⟨rfl, rfl⟩
    clear C
    go_wp2
    go_ret2
    exact ⟨rfl, rfl⟩
set_option maxHeartbeats 400000 in
theorem rchoose_no (v u : Value) (s : Int) (w : World) (h : s < 1 ∨ 8 < s) : Calls Try.prog 15 #[v, u, .int .i64 s] w fun e w' => e = .returned (.tuple #[.int .i64 0, .int .i64 1]) ∧ w' = w := by
  have h1 : ckN 0 s = 1 := by unfold ckN; rw [if_pos h]
  have C := rdo_no 0 s v u w (by rw [h1]; decide)
  rw [h1] at C
  go_enter Try.func15, Try.ntmps15
  go_wp2
  go_loop [8, 9, 10, 11, 12, 13] (fun _ _ i _ _ _ => i = .int .i64 0) (fun _ _ _ _ _ _ => 0)
  case atStart => exact rfl
  case round =>
    obtain rfl := hrel
    go_wp2_with fail
    refine C.mono ?_
    rintro e w1 ⟨rfl, rfl⟩
    clear C
    go_wp2
    go_ret2
    exact ⟨rfl, rfl⟩
def ChPost (w : World) (k : Nat) (e : Ending) (w' : World) : Prop := e = .returned (.tuple #[.int .i64 (k : Int), .int .i64 0]) ∧ Below w.heap.size w w'
theorem ckN_yes {k s : Int} (h0 : 0 ≤ k) (h1 : k ≤ 4) (h2 : 1 ≤ s) (h3 : s ≤ 8) : ckN k s = 0 := by unfold ckN; rw [if_neg (by omega), if_neg (by omega)]
set_option maxHeartbeats 1600000 in
theorem choose_any (a : Option Addr) (n cap : Nat) (a' : Option Addr) (n' cap' : Nat) (s : Int) (x y : List Int) (w : World) (hI : ChIn w a n a' n' x y) (hs0 : 1 ≤ s) (hs1 : s ≤ 8) :
    Calls Try.prog 14 #[.slice a n cap, .slice a' n' cap', .int .i64 s] w fun e w' => ChPost w (bstN (wtK x y s) 5) e w' := by
  have HI : Hid (ChIn w a n a' n' x y) := hI
  have HC : Hid (∀ (wr : World) (j : Nat), Below w.heap.size w wr → j < 5 → Calls Try.prog 9 #[.int .i64 j, .slice a n cap, .slice a' n' cap', .int .i64 s] wr fun e w' => NewB2 wr (doN j x y s) e w') := fun wr j hb hj =>
    do_any j a n cap a' n' cap' s x y wr hI.lx hI.ly hI.bx hI.bY (hI.rx.old hb) (hI.ry.old hb) hI.le (ckN_yes (by omega) (by omega) hs0 hs1)
  have hle := hI.le
  clear hI
  go_enter Try.func14, Try.ntmps14
  go_wp2
  go_loopw [8, 9, 10, 11, 12, 13, 14] (fun b l _ _ _ _ i wr => ∃ (j : Nat) (L : Int), j ≤ 5 ∧ i = .int .i64 j ∧ b = .int .i64 (bstN (wtK x y s) j : Int) ∧ l = .int .i64 L ∧ (0 < j → L = wtK x y s (bstN (wtK x y s) j)) ∧ Below w.heap.size w wr) (fun _ _ _ _ _ _ i _ => 5 - (intOf i).toNat)
  case atStart => exact ⟨0, 0, by omega, rfl, rfl, rfl, by omega, Below.refl _ _⟩
  case round =>
    obtain ⟨j, L, hj, rfl, rfl, rfl, hL, hb⟩ := hrel
    have HB : Hid (Below w.heap.size w wr) := hb
    have HL : Hid (0 < j → L = wtK x y s (bstN (wtK x y s) j)) := hL
    clear hb hL
    by_cases hlt : j < 5
    · have C := HC.out wr j HB.out hlt
      go_wp2_with fail
      refine C.mono ?_
      clear C
      rintro e w1 ⟨a1, c1, rfl, q1, q2, q3, q4, q5⟩
      have hbd := wtN_bd (doN_bytes j x y s)
      have C := weight_any a1 (doN j x y s).length c1 (doN j x y s) w1 rfl (doN_bytes j x y s) q4 (by rw [doN_len, HI.out.lx]; omega)
      have HB1 : Hid (Below w.heap.size w w1) := HB.out.trans (q5.mono HB.out.size)
      have HBs : Hid (bstN (wtK x y s) (j + 1) = if j = 0 ∨ wtK x y s j < wtK x y s (bstN (wtK x y s) j) then j else bstN (wtK x y s) j) := rfl
      have HW : Hid (wtK x y s j = wtN (doN j x y s)) := rfl
      generalize wtN (doN j x y s) = N at *
      generalize (doN (↑j) x y s).length = m at *
      clear q1 q2 q3 q4 q5
      go_wp2_with fail
      refine C.mono ?_
      clear C
      rintro e w2 ⟨rfl, rfl⟩
      by_cases h0 : j = 0
      · subst h0
        have e := HBs.out
        rw [if_pos (.inl rfl)] at e
        have HE : Hid (bstN (wtK x y s) (0 + 1) = 0) := e
        clear e
        go_wp2
        go_roundw
        case rel => exact ⟨0 + 1, N, by omega, by go_num, by rw [HE.out]; rfl, rfl, fun _ => by rw [HE.out]; exact HW.out.symm, HB1.out⟩
        case measure => simp [intOf]
      · have h0i : ((j : Int) == 0) = false := by simpa using h0
        have h0n : decide (j = 0) = false := by simpa using h0
        by_cases h1 : N < L
        · have HE : Hid (bstN (wtK x y s) (j + 1) = j) := by
            show _ = _
            rw [HBs.out, if_pos (.inr (by rw [← HL.out (by omega), HW.out]; exact h1))]
          go_wp2
          go_roundw
          case rel => exact ⟨j + 1, N, by omega, by go_num, by rw [HE.out], rfl, fun _ => by rw [HE.out]; exact HW.out.symm, HB1.out⟩
          case measure => simp [intOf]; omega
        · have HE : Hid (bstN (wtK x y s) (j + 1) = bstN (wtK x y s) j) := by
            show _ = _
            rw [HBs.out, if_neg (by rw [← HL.out (by omega), HW.out]; omega)]
          go_wp2
          go_roundw
          case rel => exact ⟨j + 1, L, by omega, by go_num, by rw [HE.out], rfl, fun _ => by rw [HE.out]; exact HL.out (by omega), HB1.out⟩
          case measure => simp [intOf]; omega
    · obtain rfl : j = 5 := by omega
      go_wp2
      go_ret2
      exact ⟨rfl, HB.out⟩
set_option maxHeartbeats 1600000 in
theorem rchoose_any (a : Option Addr) (n cap : Nat) (a' : Option Addr) (n' cap' : Nat) (s : Int) (x y : List Int) (w : World) (hI : ChIn w a n a' n' x y) (hs0 : 1 ≤ s) (hs1 : s ≤ 8) :
    Calls Try.prog 15 #[.slice a n cap, .slice a' n' cap', .int .i64 s] w fun e w' => ChPost w (bstN (wtK x y s) 5) e w' := by
  have HI : Hid (ChIn w a n a' n' x y) := hI
  have HC : Hid (∀ (wr : World) (j : Nat), Below w.heap.size w wr → j < 5 → Calls Try.prog 10 #[.int .i64 j, .slice a n cap, .slice a' n' cap', .int .i64 s] wr fun e w' => NewB2 wr (doN j x y s) e w') := fun wr j hb hj =>
    rdo_any j a n cap a' n' cap' s x y wr hI.lx hI.ly hI.bx hI.bY (hI.rx.old hb) (hI.ry.old hb) hI.le (ckN_yes (by omega) (by omega) hs0 hs1)
  have hle := hI.le
  clear hI
  go_enter Try.func15, Try.ntmps15
  go_wp2
  go_loopw [8, 9, 10, 11, 12, 13] (fun b l i _ _ _ wr => ∃ (j : Nat) (L : Int), j ≤ 5 ∧ i = .int .i64 j ∧ b = .int .i64 (bstN (wtK x y s) j : Int) ∧ l = .int .i64 L ∧ (j = 0 → L = -1) ∧ (0 < j → L = wtK x y s (bstN (wtK x y s) j)) ∧ Below w.heap.size w wr) (fun _ _ i _ _ _ _ => 5 - (intOf i).toNat)
  case atStart => exact ⟨0, -1, by omega, rfl, rfl, rfl, fun _ => rfl, by omega, Below.refl _ _⟩
  case round =>
    obtain ⟨j, L, hj, rfl, rfl, rfl, hL0, hL, hb⟩ := hrel
    have HL0 : Hid (j = 0 → L = -1) := hL0
    clear hL0
    have HB : Hid (Below w.heap.size w wr) := hb
    have HL : Hid (0 < j → L = wtK x y s (bstN (wtK x y s) j)) := hL
    clear hb hL
    by_cases hlt : j < 5
    · have C := HC.out wr j HB.out hlt
      go_wp2_with fail
      refine C.mono ?_
      clear C
      rintro e w1 ⟨a1, c1, rfl, q1, q2, q3, q4, q5⟩
      have hbd := wtN_bd (doN_bytes j x y s)
      have C := rweight_any a1 (doN j x y s).length c1 (doN j x y s) w1 rfl (doN_bytes j x y s) q4 (by rw [doN_len, HI.out.lx]; omega)
      have HB1 : Hid (Below w.heap.size w w1) := HB.out.trans (q5.mono HB.out.size)
      have HBs : Hid (bstN (wtK x y s) (j + 1) = if j = 0 ∨ wtK x y s j < wtK x y s (bstN (wtK x y s) j) then j else bstN (wtK x y s) j) := rfl
      have HW : Hid (wtK x y s j = wtN (doN j x y s)) := rfl
      generalize wtN (doN j x y s) = N at *
      generalize (doN (↑j) x y s).length = m at *
      clear q1 q2 q3 q4 q5
      go_wp2_with fail
      refine C.mono ?_
      clear C
      rintro e w2 ⟨rfl, rfl⟩
      by_cases h0 : j = 0
      · subst h0
        obtain rfl := HL0.out rfl
        have e := HBs.out
        rw [if_pos (.inl rfl)] at e
        have HE : Hid (bstN (wtK x y s) (0 + 1) = 0) := e
        clear e
        go_wp2
        go_roundw
        case rel => exact ⟨0 + 1, N, by omega, by go_num, by rw [HE.out]; rfl, rfl, (by intro h; omega), fun _ => by rw [HE.out]; exact HW.out.symm, HB1.out⟩
        case measure => simp [intOf]
      · have hL0 : ¬ L < 0 := by have := wtK_bd x y s (bstN (wtK x y s) j); rw [HL.out (by omega)]; omega
        by_cases h1 : N < L
        · have HE : Hid (bstN (wtK x y s) (j + 1) = j) := by
            show _ = _
            rw [HBs.out, if_pos (.inr (by rw [← HL.out (by omega), HW.out]; exact h1))]
          go_wp2
          go_roundw
          case rel => exact ⟨j + 1, N, by omega, by go_num, by rw [HE.out], rfl, (by intro h; omega), fun _ => by rw [HE.out]; exact HW.out.symm, HB1.out⟩
          case measure => simp [intOf]; omega
        · have HE : Hid (bstN (wtK x y s) (j + 1) = bstN (wtK x y s) j) := by
            show _ = _
            rw [HBs.out, if_neg (by rw [← HL.out (by omega), HW.out]; omega)]
          go_wp2
          go_roundw
          case rel => exact ⟨j + 1, L, by omega, by go_num, by rw [HE.out], rfl, (by intro h; omega), fun _ => by rw [HE.out]; exact HL.out (by omega), HB1.out⟩
          case measure => simp [intOf]; omega
    · obtain rfl : j = 5 := by omega
      go_wp2
      go_ret2
      exact ⟨rfl, HB.out⟩
end Go.Proofs.Ytchaggngdfioeaa
