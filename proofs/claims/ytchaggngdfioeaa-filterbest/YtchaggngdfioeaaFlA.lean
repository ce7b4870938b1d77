/- The program's and the reference's guess. -/
import Derived.Test.YtchaggngdfioeaaSmC
import Derived.Test.YtchaggngdfioeaaRwC
import Derived.Test.YtchaggngdfioeaaFlM
namespace Go.Proofs.Ytchaggngdfioeaa
open Go.RowKit

theorem atN_nat (zs : List Int) (k : Nat) : atN zs (k : Int) = zs[k]?.getD 0 := by unfold atN; rw [if_pos (by omega)]; rfl
theorem atN_neg (zs : List Int) {i : Int} (h : i < 0) : atN zs i = 0 := by unfold atN; rw [if_neg (by omega)]
theorem atN_over (zs : List Int) {i : Int} (h : (zs.length : Int) ≤ i) : atN zs i = 0 := by unfold atN; rw [if_pos (by omega), List.getElem?_eq_none (by omega)]; rfl
theorem Row.at {w : World} {a : Option Addr} {zs : List Int} (h : Row w a zs) (k : Nat) (hk : k < zs.length) : ∃ b off, a = some ⟨b, off, none⟩ ∧ w.cell? ⟨b, off + k, none⟩ = some (.int .u8 (zs[k]?.getD 0)) := by
  rcases h with h | ⟨b, off, e, hc⟩
  · subst h; simp at hk
  · exact ⟨b, off, e, hc k hk⟩
set_option maxHeartbeats 400000 in
theorem at_any (a : Option Addr) (n cap : Nat) (zs : List Int) (i : Int) (w : World) (hn : zs.length = n) (hb : Bytes zs) (hr : Row w a zs) :
    Calls Try.prog 22 #[.slice a n cap, .int .i64 i] w fun e w' => e = .returned (.int .i64 (atN zs i)) ∧ w' = w := by
  by_cases h0 : i < 0
  · rw [atN_neg zs h0]
    clear hn hb hr
    go_enter Try.func22, Try.ntmps22
    go_wp2
    go_ret
    exact ⟨rfl, rfl⟩
  · by_cases h1 : (n : Int) ≤ i
    · rw [atN_over zs (by rw [hn]; exact h1)]
      clear hn hb hr
      go_enter Try.func22, Try.ntmps22
      go_wp2
      go_ret
      exact ⟨rfl, rfl⟩
    · obtain ⟨k, rfl⟩ := Int.eq_ofNat_of_zero_le (show 0 ≤ i by omega)
      obtain ⟨b, off, rfl, hc⟩ := hr.at k (by omega)
      have hz := hb.at k
      rw [atN_nat]
      clear hn hb hr
      have hk : k < n := by omega
      clear h0 h1
      go_enter Try.func22, Try.ntmps22
      go_wp2
      go_ret
      exact ⟨rfl, rfl⟩
set_option maxHeartbeats 400000 in
theorem rat_any (a : Option Addr) (n cap : Nat) (zs : List Int) (i : Int) (w : World) (hn : zs.length = n) (hb : Bytes zs) (hr : Row w a zs) :
    Calls Try.prog 24 #[.slice a n cap, .int .i64 i] w fun e w' => e = .returned (.int .i64 (atN zs i)) ∧ w' = w := by
  by_cases h0 : i < 0
  · rw [atN_neg zs h0]
    clear hn hb hr
    go_enter Try.func24, Try.ntmps24
    go_wp2
    go_ret
    exact ⟨rfl, rfl⟩
  · by_cases h1 : (n : Int) ≤ i
    · rw [atN_over zs (by rw [hn]; exact h1)]
      clear hn hb hr
      go_enter Try.func24, Try.ntmps24
      go_wp2
      go_ret
      exact ⟨rfl, rfl⟩
    · obtain ⟨k, rfl⟩ := Int.eq_ofNat_of_zero_le (show 0 ≤ i by omega)
      obtain ⟨b, off, rfl, hc⟩ := hr.at k (by omega)
      have hz := hb.at k
      rw [atN_nat]
      clear hn hb hr
      have hk : k < n := by omega
      clear h0 h1
      go_enter Try.func24, Try.ntmps24
      go_wp2
      go_ret
      exact ⟨rfl, rfl⟩
set_option maxHeartbeats 400000 in
theorem size_any (n : Int) (w : World) (h0 : -1000000 ≤ n) (h1 : n ≤ 1000000) : Calls Try.prog 26 #[.int .i64 n] w fun e w' => e = .returned (.int .i64 (szN n)) ∧ w' = w := by
  rcases (show n < -n ∨ -n < n ∨ n = 0 by omega) with h | h | h
  · have e : szN n = -n := by unfold szN; rw [if_pos (by omega)]
    rw [e]
    go_enter Try.func26, Try.ntmps26
    go_wp2
    go_ret
    exact ⟨rfl, rfl⟩
  · have e : szN n = n := by unfold szN; rw [if_neg (by omega)]
    rw [e]
    go_enter Try.func26, Try.ntmps26
    go_wp2
    go_ret
    exact ⟨rfl, rfl⟩
  · subst h
    go_enter Try.func26, Try.ntmps26
    go_wp2
    go_ret
    exact ⟨rfl, rfl⟩
set_option maxHeartbeats 400000 in
theorem rsize_any (n : Int) (w : World) (h0 : -1000000 ≤ n) (h1 : n ≤ 1000000) : Calls Try.prog 25 #[.int .i64 n] w fun e w' => e = .returned (.int .i64 (szN n)) ∧ w' = w := by
  by_cases h : n < 0
  · have e : szN n = -n := by unfold szN; rw [if_pos (by omega)]
    rw [e]
    go_enter Try.func25, Try.ntmps25
    go_wp2
    go_ret
    exact ⟨rfl, rfl⟩
  · have e : szN n = n := by unfold szN; rw [if_neg (by omega)]
    rw [e]
    go_enter Try.func25, Try.ntmps25
    go_wp2
    go_ret
    exact ⟨rfl, rfl⟩
end Go.Proofs.Ytchaggngdfioeaa
