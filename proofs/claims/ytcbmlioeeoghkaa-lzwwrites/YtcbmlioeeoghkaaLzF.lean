/- Bytes, told from the last one on: slices.Backward. -/
import Derived.Test.YtcbmlioeeoghkaaLzD
import Derived.Test.YtcbmlioeeoghkaaRfY
namespace Go.Proofs.Ytcbmlioeeoghkaa
open Go.RowKit
attribute [local go_sem] Oper.semAt_some
set_option maxHeartbeats 1600000 in
set_option maxRecDepth 20000 in
theorem backward1_any (sb : Nat) (a : Option Addr) (n c : Nat) (T : List Int) (l : Nat) (J : Nat → World → Prop) (Dn : World → Prop) (W0 : World) (hn : T.length = n) (hnc : n ≤ c) (hc : c ≤ 9223372036854775807)
    (hJ : ∀ k W1, J k W1 → W1.cell? ⟨sb, 0, none⟩ = some (.slice a n c) ∧ Row W1 a T) (h0 : J 0 W0)
    (hY : ∀ (i : Nat) W1, i < n → J i W1 → YieldAt Fence.wide 3 Try.prog l #[.int .i64 ((n - 1 - i : Nat) : Int), .int .u8 ((T[n - 1 - i]?).getD 0)] W1 fun e W2 => ∃ b : Bool, e = .returned (.bool b) ∧ (b = true → J (i + 1) W2) ∧ (b = false → Dn W2)) :
    Calls Try.prog 61 #[.func (.yield l) #[] #[], .pointer (some ⟨sb, 0, none⟩)] W0 fun e W' => (∃ v, e = .returned v) ∧ (J n W' ∨ Dn W') := by
  obtain ⟨k0, -⟩ := hJ 0 W0 h0
  have HJ : Hid (∀ k W1, J k W1 → W1.cell? ⟨sb, 0, none⟩ = some (.slice a n c) ∧ Row W1 a T) := hJ
  have H0 : Hid (J 0 W0) := h0
  have HN : Hid (T.length = n) := hn
  have HY : Hid (∀ (i : Nat) W1, i < n → J i W1 → YieldAt Fence.wide 3 Try.prog l #[.int .i64 ((n - 1 - i : Nat) : Int), .int .u8 ((T[n - 1 - i]?).getD 0)] W1 fun e W2 => ∃ b : Bool, e = .returned (.bool b) ∧ (b = true → J (i + 1) W2) ∧ (b = false → Dn W2)) := hY
  clear hJ h0 hY hn
  go_enter Try.func61, Try.ntmps61
  go_wp2
  go_loopw [3, 7, 8, 9, 10, 11, 12, 13, 14, 15, 16, 17, 18] (fun v _ _ _ _ _ _ _ _ _ _ _ _ wr => ∃ i : Nat, i ≤ n ∧ v = .int .i64 ((n : Int) - 1 - (i : Int)) ∧ Hid (J i wr)) (fun v _ _ _ _ _ _ _ _ _ _ _ _ _ => ((intOf v) + 1).toNat)
  case atStart => exact ⟨0, Nat.zero_le _, by go_num, H0⟩
  case round =>
    clear H0 k0
    obtain ⟨i, hi, rfl, HJr⟩ := hrel
    obtain ⟨k0, hrow⟩ := HJ.out _ _ HJr.out
    by_cases hlt : i < n
    · obtain ⟨q, hq⟩ : ∃ q : Nat, n - 1 - i = q := ⟨_, rfl⟩
      obtain ⟨fn, tmps, assign, body, hy, hR⟩ := HY.out i wr hlt HJr.out
      rw [hq] at hy
      have hqI : (n : Int) - 1 - (i : Int) = (q : Int) := by omega
      have hq0 : (0 : Int) ≤ (q : Int) := by omega
      have hqn : (q : Int) < (n : Int) := by omega
      obtain ⟨z, hz⟩ : ∃ z, (T[q]?).getD 0 = z := ⟨_, rfl⟩
      rw [hz] at hy
      obtain ⟨bk, off, ha, hce⟩ : ∃ b off, a = some ⟨b, off, none⟩ ∧ ∀ i, i < T.length → wr.cell? ⟨b, off + i, none⟩ = some (.int .u8 (T[i]?.getD 0)) := by
        rcases hrow with h | ⟨b, off, h1, h2⟩
        · have := HN.out; rw [h] at this; simp at this; omega
        · exact ⟨b, off, h1, h2⟩
      have hcq : wr.cell? ⟨bk, off + q, none⟩ = some (.int .u8 z) := by
        have hlq : q < T.length := by have := HN.out; omega
        rw [hce q hlq, hz]
      subst ha
      have HRd : Hid (RoundIn Fence.wide 3 Try.prog l fn tmps assign body wr fun e W2 => ∃ b : Bool, e = .returned (.bool b) ∧ (b = true → J (i + 1) W2) ∧ (b = false → Dn W2)) := hR
      have HQ : Hid (n - 1 - i = q) := hq
      rw [hqI]
      clear hR hrow hce HJr hz hq hqI
      go_upto_region 3 with fail
      refine wp_region_yield ?_
      gi_wp2_with fail
      refine HRd.out.mono ?_
      rintro e w4 ⟨bb, rfl, hb1, hb3⟩
      clear HRd hy hcq k0
      cases bb with
      | false =>
        have HD : Hid (Dn w4) := hb3 rfl
        clear hb1 hb3
        gi_wp2
        go_wp2
        exact bodyPost_ret (results_none rfl _ _ _) rfl ⟨⟨_, rfl⟩, .inr HD.out⟩
      | true =>
        have HJ4 : Hid (J (i + 1) w4) := hb1 rfl
        clear hb1 hb3
        gi_wp2
        go_wp2
        go_roundw
        case rel => exact ⟨i + 1, hlt, by have := HQ.out; go_num, HJ4⟩
        case measure => simp [intOf]
    · obtain rfl : i = n := by omega
      go_wp2
      go_end0
      exact ⟨⟨_, rfl⟩, .inl HJr.out⟩
end Go.Proofs.Ytcbmlioeeoghkaa
