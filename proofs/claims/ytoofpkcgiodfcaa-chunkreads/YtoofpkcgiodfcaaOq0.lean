/- The reference's Number and Kind (of Zo1 and Rp2). -/
import Derived.Test.YtoofpkcgiodfcaaSg3
import Derived.Test.YtoofpkcgiodfcaaCrE
namespace Go.Proofs.Ytoofpkcgiodfcaa
open Go.RowKit
set_option maxHeartbeats 400000 in
theorem rnum_any (a : Option Addr) (n cap : Nat) (zs : List Int) (w : World) (hn : zs.length = n) (h4 : n ≤ 4) (hb : Bytes zs) (hr : Row w a zs) :
    Calls Try.prog 21 #[.slice a n cap] w fun e w' => e = .returned (.int .i64 (bigN zs)) ∧ w' = w := by
  have HN : Hid (zs.length = n) := hn
  have HB : Hid (Bytes zs) := hb
  rcases hr with rfl | ⟨b, off, rfl, hc⟩
  · simp at hn
    subst hn
    clear h4 hb
    go_enter Try.func21, Try.ntmps21
    go_wp2
    go_loop [3, 4] (fun v i => v = .int .i64 0 ∧ i = .int .i64 0) (fun _ _ => 0)
    case atStart => exact ⟨rfl, rfl⟩
    case round =>
      obtain ⟨rfl, rfl⟩ := hrel
      go_wp2
      go_ret
      exact ⟨ret_int rfl, rfl⟩
  · clear hn hb
    go_enter Try.func21, Try.ntmps21
    go_wp2
    go_loop [3, 4] (fun v i => ∃ k : Nat, k ≤ n ∧ i = .int .i64 k ∧ v = .int .i64 (bigN (zs.take k))) (fun _ i => n - (intOf i).toNat)
    case atStart => exact ⟨0, Nat.zero_le _, rfl, rfl⟩
    case round =>
      obtain ⟨k, hk, rfl, rfl⟩ := hrel
      have hbd := bigN_le (HB.out.take k) (by simp; omega)
      by_cases hlt : k < n
      · have hck := hc k (by have := HN.out; omega)
        have hzk := HB.out.at k
        have HS : Hid (bigN (zs.take (k + 1)) = bigN (zs.take k) * 256 + (zs[k]?.getD 0)) := by rw [take_snoc zs k (by have := HN.out; omega), bigN_snoc]; trivial
        go_wp2
        go_round
        case rel => exact ⟨k + 1, by omega, by go_num, by rw [HS.out]; go_num⟩
        case measure => simp [intOf]; omega
      · go_wp2
        go_ret
        exact ⟨ret_int (by rw [List.take_of_length_le (by have := HN.out; omega)]), rfl⟩
set_option maxHeartbeats 1600000 in
theorem rkindr_any (t : ByteArray) (hs : t.size ≤ 9223372036854775807) (w : World) : Calls Try.prog 22 #[.string t] w fun e w' => e = .returned (.bool (isK (kb t))) ∧ w' = w := by
  have HL : Hid (∀ k, k < t.size → (kb t).all isL = (((kb t).take k).all isL && (isL ((kb t)[k]?.getD 0) && ((kb t).drop (k + 1)).all isL))) := by
    intro k hk
    have e : kb t = (kb t).take k ++ ((kb t)[k]?.getD 0) :: (kb t).drop (k + 1) := by
      have hk2 : k < (kb t).length := by rw [kb_len]; omega
      conv => lhs; rw [← List.take_append_drop k (kb t), List.drop_eq_getElem_cons hk2]
      simp [hk2]
    conv => lhs; rw [e]
    rw [List.all_append, List.all_cons]
  have HS : Hid (∀ k, k < t.size → ((kb t).take (k + 1)).all isL = (((kb t).take k).all isL && isL ((kb t)[k]?.getD 0))) := by
    intro k hk
    have hk2 : k < (kb t).length := by rw [kb_len]; omega
    rw [take_snoc _ _ hk2, List.all_append]
    simp
  have HI : Hid (isK (kb t) = (decide (t.size = 4) && (kb t).all isL)) := by show _ = _; simp [isK, kb_len]
  go_enter Try.func22, Try.ntmps22
  go_wp2
  go_loop [3] (fun v => ∃ k : Nat, k ≤ t.size ∧ v = .int .i64 k ∧ ((kb t).take k).all isL = true) (fun v => t.size - (intOf v).toNat)
  case atStart => exact ⟨0, by omega, rfl, rfl⟩
  case round =>
    obtain ⟨k, hk, rfl, hall⟩ := hrel
    have HA : Hid (((kb t).take k).all isL = true) := hall
    clear hall
    by_cases hlt : k < t.size
    · have HB : Hid ((kb t)[k]?.getD 0 = (t[k].toNat : Int)) := kb_at t k hlt
      obtain ⟨b, hb⟩ : ∃ b, t[k].toNat = b := ⟨_, rfl⟩
      have HBB : Hid (t[k].toNat = b) := hb
      by_cases h1 : 65 ≤ b ∧ b ≤ 90
      · have i1 : (65 : Int) ≤ (b : Int) := by omega
        have i2 : (b : Int) ≤ 90 := by omega
        have HLL : Hid (isL (b : Int) = true) := by show _ = _; simp [isL]; omega
        go_wp2
        go_round
        case rel => exact ⟨k + 1, by omega, by go_num, by rw [HS.out k hlt, HA.out, HB.out, HBB.out, HLL.out]; rfl⟩
        case measure => simp [intOf]; omega
      · by_cases h2 : 97 ≤ b ∧ b ≤ 122
        · have i0 : (65 : Int) ≤ (b : Int) := by omega
          have i1 : ¬ (b : Int) ≤ 90 := by omega
          have i2 : (97 : Int) ≤ (b : Int) := by omega
          have i3 : (b : Int) ≤ 122 := by omega
          have HLL : Hid (isL (b : Int) = true) := by show _ = _; simp [isL]; omega
          go_wp2
          go_round
          case rel => exact ⟨k + 1, by omega, by go_num, by rw [HS.out k hlt, HA.out, HB.out, HBB.out, HLL.out]; rfl⟩
          case measure => simp [intOf]; omega
        · have HLL : Hid (isL (b : Int) = false) := by show _ = _; simp [isL]; omega
          have HR : Hid (isK (kb t) = false) := by show _ = _; rw [HI.out, HL.out k hlt, HB.out, HBB.out, HLL.out]; simp
          by_cases j1 : 65 ≤ b
          · have i1 : (65 : Int) ≤ (b : Int) := by omega
            have i2 : ¬ (b : Int) ≤ 90 := by omega
            by_cases j2 : 97 ≤ b
            · have i3 : (97 : Int) ≤ (b : Int) := by omega
              have i4 : ¬ (b : Int) ≤ 122 := by omega
              go_wp2
              go_ret
              exact ⟨by rw [HR.out]; rfl, rfl⟩
            · have i3 : ¬ (97 : Int) ≤ (b : Int) := by omega
              go_wp2
              go_ret
              exact ⟨by rw [HR.out]; rfl, rfl⟩
          · have i1 : ¬ (65 : Int) ≤ (b : Int) := by omega
            have i3 : ¬ (97 : Int) ≤ (b : Int) := by omega
            go_wp2
            go_ret
            exact ⟨by rw [HR.out]; rfl, rfl⟩
    · obtain rfl : k = t.size := by omega
      have HR : Hid (isK (kb t) = decide (t.size = 4)) := by
        have := HA.out
        rw [List.take_of_length_le (by rw [kb_len]; exact Nat.le_refl _)] at this
        show _ = _
        rw [HI.out, this]
        simp
      have HQ : Hid (((t.size : Int) == 4) = decide (t.size = 4)) := by show _ = _; rw [Bool.eq_iff_iff]; simp; omega
      go_wp2
      go_ret
      exact ⟨by rw [HR.out, ← HQ.out]; rfl, rfl⟩
end Go.Proofs.Ytoofpkcgiodfcaa
