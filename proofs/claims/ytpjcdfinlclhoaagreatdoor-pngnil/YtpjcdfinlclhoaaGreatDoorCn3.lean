/- What is a kind. -/
import Derived.Test.YtpjcdfinlclhoaaGreatDoorCn2
namespace Go.Proofs.YtpjcdfinlclhoaaGreatDoor
open Go.RowKit
def isL (b : Int) : Bool := (decide (65 ≤ b) && decide (b ≤ 90)) || (decide (97 ≤ b) && decide (b ≤ 122))
def isK (l : List Int) : Bool := decide (l.length = 4) && l.all isL
set_option maxHeartbeats 400000 in
theorem letter_any (b : Int) (w : World) : Calls Tryz.prog 71 #[.int .u8 b] w fun e w' => e = .returned (.bool (isL b)) ∧ w' = w := by
  by_cases h1 : 65 ≤ b
  · by_cases h2 : b ≤ 90
    · have HL : Hid (isL b = true) := by show _ = _; simp [isL, h1, h2]
      go_enter Tryz.func71, Tryz.ntmps71
      go_wp2
      go_ret
      exact ⟨by rw [HL.out]; rfl, rfl⟩
    · by_cases h3 : 97 ≤ b
      · by_cases h4 : b ≤ 122
        · have HL : Hid (isL b = true) := by show _ = _; simp [isL, h3, h4]
          go_enter Tryz.func71, Tryz.ntmps71
          go_wp2
          go_ret
          exact ⟨by rw [HL.out]; rfl, rfl⟩
        · have HL : Hid (isL b = false) := by show _ = _; simp [isL, h2, h4]
          go_enter Tryz.func71, Tryz.ntmps71
          go_wp2
          go_ret
          exact ⟨by rw [HL.out]; rfl, rfl⟩
      · have HL : Hid (isL b = false) := by show _ = _; simp [isL, h2, h3]
        go_enter Tryz.func71, Tryz.ntmps71
        go_wp2
        go_ret
        exact ⟨by rw [HL.out]; rfl, rfl⟩
  · have h3 : ¬ 97 ≤ b := by omega
    have HL : Hid (isL b = false) := by show _ = _; simp [isL, h1, h3]
    go_enter Tryz.func71, Tryz.ntmps71
    go_wp2
    go_ret
    exact ⟨by rw [HL.out]; rfl, rfl⟩
/-- A text's bytes. -/
def kb (t : ByteArray) : List Int := t.data.toList.map fun x => (x.toNat : Int)
theorem kb_len (t : ByteArray) : (kb t).length = t.size := by rw [kb, List.length_map, Array.length_toList]; rfl
theorem kb_bytes (t : ByteArray) : Bytes (kb t) := by
  intro z hz
  simp only [kb, List.mem_map] at hz
  obtain ⟨x, _, rfl⟩ := hz
  have := x.toNat_lt
  omega
theorem kb_str {l : List Int} (h : Bytes l) : kb (strOfNums l) = l := by
  unfold kb
  rw [strOfNums_data, List.map_map]
  conv => rhs; rw [← List.map_id l]
  refine List.map_congr_left fun z hz => ?_
  have := h z hz
  simp
  omega
theorem str_kb (t : ByteArray) : strOfNums (kb t) = t := by
  have : (strOfNums (kb t)).data.toList = t.data.toList := by
    rw [strOfNums_data, kb, List.map_map]
    conv => rhs; rw [← List.map_id t.data.toList]
    refine List.map_congr_left fun z hz => ?_
    simp
  cases t
  simp only [strOfNums] at this ⊢
  congr 1
  exact Array.toList_inj.1 this
theorem kb_at (t : ByteArray) (k : Nat) (h : k < t.size) : (kb t)[k]?.getD 0 = (t[k].toNat : Int) := by
  have h2 : k < t.data.size := h
  rw [kb, List.getElem?_map, Array.getElem?_toList, Array.getElem?_eq_getElem h2]
  rfl
set_option maxHeartbeats 800000 in
theorem kind_any (t : ByteArray) (w : World) : Calls Tryz.prog 53 #[.string t] w fun e w' => e = .returned (.bool (isK (kb t))) ∧ w' = w := by
  by_cases h4 : t.size = 4
  · have HT : Hid (isK (kb t) = (kb t).all isL) := by show _ = _; simp [isK, kb_len, h4]
    have HL : Hid (∀ k, k < 4 → (kb t).all isL = (((kb t).take k).all isL && (isL ((kb t)[k]?.getD 0) && ((kb t).drop (k + 1)).all isL))) := by
      intro k hk
      have e : kb t = (kb t).take k ++ ((kb t)[k]?.getD 0) :: (kb t).drop (k + 1) := by
        have hk2 : k < (kb t).length := by rw [kb_len]; omega
        conv => lhs; rw [← List.take_append_drop k (kb t), List.drop_eq_getElem_cons hk2]
        simp [hk2]
      conv => lhs; rw [e]
      rw [List.all_append, List.all_cons]
    have HS : Hid (∀ k, k < 4 → ((kb t).take (k + 1)).all isL = (((kb t).take k).all isL && isL ((kb t)[k]?.getD 0))) := by
      intro k hk
      have hk2 : k < (kb t).length := by rw [kb_len]; omega
      rw [take_snoc _ _ hk2, List.all_append]
      simp
    go_enter Tryz.func53, Tryz.ntmps53
    go_wp2
    go_loop [7, 3] (fun v _ => ∃ k : Nat, k ≤ 4 ∧ v = .int .i64 k ∧ ((kb t).take k).all isL = true) (fun v _ => 4 - (intOf v).toNat)
    case atStart => exact ⟨0, by omega, rfl, rfl⟩
    case round =>
      obtain ⟨k, hk, rfl, hall⟩ := hrel
      have HA : Hid (((kb t).take k).all isL = true) := hall
      clear hall
      by_cases hlt : k < 4
      · have hks : k < t.size := by omega
        have HB : Hid ((kb t)[k]?.getD 0 = (t[k].toNat : Int)) := kb_at t k hks
        have C := letter_any (t[k].toNat : Int) w
        cases hL : isL (t[k].toNat : Int) with
        | true =>
          rw [hL] at C
          have HLL : Hid (isL (t[k].toNat : Int) = true) := hL
          clear hL
          go_wp2_with (go_at_call 71; refine C.mono ?_; rintro e w1 ⟨rfl, rfl⟩)
          go_round
          case rel => exact ⟨k + 1, by omega, by go_num, by rw [HS.out k hlt, HA.out, HB.out, HLL.out]; rfl⟩
          case measure => simp [intOf]; omega
        | false =>
          rw [hL] at C
          have HLL : Hid (isL (t[k].toNat : Int) = false) := hL
          clear hL
          go_wp2_with (go_at_call 71; refine C.mono ?_; rintro e w1 ⟨rfl, rfl⟩)
          go_ret
          exact ⟨by rw [HT.out, HL.out k hlt, HB.out, HLL.out]; simp, rfl⟩
      · obtain rfl : k = 4 := by omega
        go_wp2
        go_ret
        refine ⟨?_, rfl⟩
        have := HA.out
        rw [List.take_of_length_le (by rw [kb_len]; omega)] at this
        rw [HT.out, this]
        rfl
  · have HT : Hid (isK (kb t) = false) := by show _ = _; simp [isK, kb_len, h4]
    go_enter Tryz.func53, Tryz.ntmps53
    go_wp2
    go_ret
    exact ⟨by rw [HT.out]; rfl, rfl⟩
end Go.Proofs.YtpjcdfinlclhoaaGreatDoor
