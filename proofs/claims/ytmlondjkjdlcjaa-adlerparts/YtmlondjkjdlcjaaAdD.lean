import Derived.Test.YtmlondjkjdlcjaaAdC
namespace Go.Proofs.Ytmlondjkjdlcjaa
open Go.RowKit

set_option maxHeartbeats 800000 in
theorem rmore_any (n : Int) (a : Option Addr) (len cap : Nat) (zs : List Int) (w : World) (h : U32 n) (hn : zs.length = len) (hl : len ≤ 140737488355328) (hb : Bytes zs) (hr : Row w a zs) :
    Calls Try.prog 11 #[.int .u32 n, .slice a len cap] w fun e w' => e = .returned (.int .u32 (adlM n zs)) ∧ w' = w := by
  obtain ⟨h0, h1⟩ := h
  have HN : Hid (zs.length = len) := hn
  have HB : Hid (Bytes zs) := hb
  have HR : Hid (Row w a zs) := hr
  clear hn hb hr
  have HI : Hid (∀ k, In (amore (halves n) (zs.take k))) := fun k => amore_in (halves_in n) _
  go_enter Try.func11, Try.ntmps11
  go_wp2
  go_loop [5, 6, 7] (fun s t i => ∃ k : Nat, k ≤ len ∧ i = .int .i64 k ∧ s = .int .i64 (amore (halves n) (zs.take k)).1 ∧ t = .int .i64 (amore (halves n) (zs.take k)).2) (fun _ _ i => len - (intOf i).toNat)
  case atStart => exact ⟨0, Nat.zero_le _, rfl, rfl, rfl⟩
  case round =>
    obtain ⟨k, hk, rfl, rfl, rfl⟩ := hrel
    have HIk : Hid (In (amore (halves n) (zs.take k))) := HI.out k
    obtain ⟨i0, i1, i2, i3⟩ := HI.out k
    by_cases hlt : k < len
    · obtain ⟨b, off, rfl, hck⟩ := HR.out.at k (by have := HN.out; omega)
      have hzk := HB.out.at k
      have HS : Hid (amore (halves n) (zs.take (k + 1)) = astep (amore (halves n) (zs.take k)) (zs[k]?.getD 0)) := by rw [take_snoc zs k (by have := HN.out; omega), amore_snoc]; trivial
      go_wp2
      go_round
      case rel => exact ⟨k + 1, by omega, by go_num, by rw [HS.out]; unfold astep; rfl, by rw [HS.out]; unfold astep; rfl⟩
      case measure => simp [intOf]; omega
    · go_wp2
      go_ret
      refine ⟨ret_int ?_, rfl⟩
      rw [List.take_of_length_le (by have := HN.out; omega)] at *
      unfold adlM whole
      omega

set_option maxHeartbeats 400000 in
theorem of_any (a : Option Addr) (len cap : Nat) (zs : List Int) (w : World) (hn : zs.length = len) (hl : len ≤ 140737488355328) (hb : Bytes zs) (hr : Row w a zs) :
    Calls Try.prog 12 #[.slice a len cap] w fun e w' => e = .returned (.int .u32 (adlM 1 zs)) ∧ w' = w := by
  have HM := more_any 1 a len cap zs w (by unfold U32; omega) hn hl hb hr
  clear hn hl hb hr
  go_enter Try.func12, Try.ntmps12
  go_wp2_with (go_at_call 10; refine HM.mono ?_; rintro e w' ⟨rfl, rfl⟩)
  go_ret
  exact ⟨rfl, rfl⟩
set_option maxHeartbeats 400000 in
theorem rof_any (a : Option Addr) (len cap : Nat) (zs : List Int) (w : World) (hn : zs.length = len) (hl : len ≤ 140737488355328) (hb : Bytes zs) (hr : Row w a zs) :
    Calls Try.prog 13 #[.slice a len cap] w fun e w' => e = .returned (.int .u32 (adlM 1 zs)) ∧ w' = w := by
  have HM := rmore_any 1 a len cap zs w (by unfold U32; omega) hn hl hb hr
  clear hn hl hb hr
  go_enter Try.func13, Try.ntmps13
  go_wp2_with (go_at_call 11; refine HM.mono ?_; rintro e w' ⟨rfl, rfl⟩)
  go_ret
  exact ⟨rfl, rfl⟩
theorem ret_bool {a b : Bool} (h : a = b) : Ending.returned (.bool a) = .returned (.bool b) := by rw [h]
set_option maxHeartbeats 400000 in
theorem is_any (n : Int) (w : World) (h : U32 n) : Calls Try.prog 14 #[.int .u32 n] w fun e w' => e = .returned (.bool (isN n)) ∧ w' = w := by
  have hh := h
  obtain ⟨h0, h1⟩ := h
  by_cases hc : n % 65536 < 65521
  · by_cases hd : n / 65536 < 65521
    all_goals
      go_enter Try.func14, Try.ntmps14
      go_wp2_with (first | (go_at_call 21; refine (low_any _ _ hh).mono ?_; rintro e w' ⟨rfl, rfl⟩) | (go_at_call 22; refine (high_any _ _ hh).mono ?_; rintro e w' ⟨rfl, rfl⟩))
      go_ret
      exact ⟨ret_bool (by simp [isN, hc, hd]), rfl⟩
  · go_enter Try.func14, Try.ntmps14
    go_wp2_with (first | (go_at_call 21; refine (low_any _ _ hh).mono ?_; rintro e w' ⟨rfl, rfl⟩) | (go_at_call 22; refine (high_any _ _ hh).mono ?_; rintro e w' ⟨rfl, rfl⟩))
    go_ret
    exact ⟨ret_bool (by simp [isN]; omega), rfl⟩
set_option maxHeartbeats 400000 in
theorem ris_any (n : Int) (w : World) (h : U32 n) : Calls Try.prog 15 #[.int .u32 n] w fun e w' => e = .returned (.bool (isN n)) ∧ w' = w := by
  obtain ⟨h0, h1⟩ := h
  by_cases hc : n % 65536 < 65521
  · by_cases hd : n / 65536 < 65521
    all_goals
      go_enter Try.func15, Try.ntmps15
      go_wp2
      go_ret
      exact ⟨ret_bool (by simp [isN, hc, hd]), rfl⟩
  · go_enter Try.func15, Try.ntmps15
    go_wp2
    go_ret
    exact ⟨ret_bool (by simp [isN]; omega), rfl⟩
end Go.Proofs.Ytmlondjkjdlcjaa
