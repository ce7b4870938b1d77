import Derived.Test.YtmlondjkjdlcjaaAdD
namespace Go.Proofs.Ytmlondjkjdlcjaa
open Go.RowKit

theorem low_bd (n : Int) : 0 ≤ low n ∧ low n ≤ 65520 := by unfold low; omega
theorem high_bd (n : Int) : 0 ≤ high n ∧ high n ≤ 65520 := by unfold high; omega
theorem mul_bd (m c : Int) (h0 : 0 ≤ m) (h1 : m ≤ 65520) (h2 : 0 ≤ c) (h3 : c ≤ 65520) : 0 ≤ m * c ∧ m * c ≤ 4292870400 := by
  have a := Int.mul_nonneg h0 h2
  have b : m * c ≤ 65520 * 65520 := Int.mul_le_mul h1 h3 h2 (by omega)
  omega
theorem join_eq (a b n : Int) : joinN a b n = whole (((low a + 65521 - 1) % 65521 + low b) % 65521, (high a + high b + n % 65521 * ((low a + 65521 - 1) % 65521)) % 65521) := by
  unfold joinN
  rw [Int.mul_comm (n % 65521), show low a + 65521 - 1 = low a + 65520 by omega]
set_option maxHeartbeats 1000000 in
theorem join_pos (a b n : Int) (w : World) (ha : U32 a) (hb : U32 b) (hn : 0 ≤ n) (hm : n ≤ 9223372036854775807) : Calls Try.prog 17 #[.int .u32 a, .int .u32 b, .int .i64 n] w fun e w' => e = .returned (.int .u32 (joinN a b n)) ∧ w' = w := by
  have la := low_bd a
  have lb := low_bd b
  have ka := high_bd a
  have kb := high_bd b
  have hp := mul_bd (n % 65521) ((low a + 65521 - 1) % 65521) (by omega) (by omega) (by omega) (by omega)
  go_enter Try.func17, Try.ntmps17
  go_wp2_with fail
  refine (halves_any _ _ ha).mono ?_
  rintro e w' ⟨rfl, rfl⟩
  go_wp2_with fail
  refine (halves_any _ _ hb).mono ?_
  rintro e w' ⟨rfl, rfl⟩
  go_wp2_with fail
  refine (whole_any _ _ _ (by unfold In; simp only; omega)).mono ?_
  rintro e w' ⟨rfl, rfl⟩
  go_wp2_with fail
  go_ret
  exact ⟨ret_int (by rw [join_eq a b n, Int.emod_add_emod]), rfl⟩
set_option maxHeartbeats 1000000 in
theorem join_neg (a b n : Int) (w : World) (ha : U32 a) (hb : U32 b) (hn : n < 0) (_ : -9223372036854775808 ≤ n) : Calls Try.prog 17 #[.int .u32 a, .int .u32 b, .int .i64 n] w fun e w' => e = .returned (.int .u32 (joinN a b 0)) ∧ w' = w := by
  have la := low_bd a
  have lb := low_bd b
  have ka := high_bd a
  have kb := high_bd b
  go_enter Try.func17, Try.ntmps17
  go_wp2_with fail
  refine (halves_any _ _ ha).mono ?_
  rintro e w' ⟨rfl, rfl⟩
  go_wp2_with fail
  refine (halves_any _ _ hb).mono ?_
  rintro e w' ⟨rfl, rfl⟩
  go_wp2_with fail
  refine (whole_any _ _ _ (by unfold In; simp only; omega)).mono ?_
  rintro e w' ⟨rfl, rfl⟩
  go_wp2_with fail
  go_ret
  exact ⟨ret_int (by rw [join_eq a b 0]; simp), rfl⟩
set_option maxHeartbeats 1000000 in
theorem rjoin_pos (a b n : Int) (w : World) (ha : U32 a) (hb : U32 b) (hn : 0 ≤ n) (hm : n ≤ 9223372036854775807) : Calls Try.prog 18 #[.int .u32 a, .int .u32 b, .int .i64 n] w fun e w' => e = .returned (.int .u32 (joinN a b n)) ∧ w' = w := by
  obtain ⟨a0, a1⟩ := ha
  obtain ⟨b0, b1⟩ := hb
  have HJ := join_eq a b n
  have hp := mul_bd ((a % 65536 + 65520) % 65521) (n % 65521) (by omega) (by omega) (by omega) (by omega)
  have hq : (a % 65536 % 65521 + 65520) % 65521 = (a % 65536 + 65520) % 65521 := by omega
  have HQ : Hid ((a % 65536 % 65521 + 65520) % 65521 = (a % 65536 + 65520) % 65521) := hq
  clear hq
  have HH : Hid (joinN a b n = whole (((low a + 65520) % 65521 + low b) % 65521, (high a + high b + (low a + 65520) % 65521 * (n % 65521)) % 65521)) := by unfold joinN; trivial
  clear HJ
  go_enter Try.func18, Try.ntmps18
  go_wp2
  go_ret
  refine ⟨ret_int ?_, rfl⟩
  rw [HH.out]
  unfold whole low high
  simp only [HQ.out]
  omega
set_option maxHeartbeats 1000000 in
theorem rjoin_neg (a b n : Int) (w : World) (ha : U32 a) (hb : U32 b) (hn : n < 0) (_ : -9223372036854775808 ≤ n) : Calls Try.prog 18 #[.int .u32 a, .int .u32 b, .int .i64 n] w fun e w' => e = .returned (.int .u32 (joinN a b 0)) ∧ w' = w := by
  obtain ⟨a0, a1⟩ := ha
  obtain ⟨b0, b1⟩ := hb
  have HH : Hid (joinN a b 0 = whole (((low a + 65520) % 65521 + low b) % 65521, (high a + high b + (low a + 65520) % 65521 * (0 % 65521)) % 65521)) := by unfold joinN; trivial
  go_enter Try.func18, Try.ntmps18
  go_wp2
  go_ret
  refine ⟨ret_int ?_, rfl⟩
  rw [HH.out]
  unfold whole low high
  omega
theorem clamp_wf {n : Int} (h : (Lit.int .i64 n).wf = true) : -9223372036854775808 ≤ n ∧ n ≤ 9223372036854775807 := bounds_i64 h
theorem join_any (a b n : Int) (w : World) (ha : U32 a) (hb : U32 b) (hn : -9223372036854775808 ≤ n ∧ n ≤ 9223372036854775807) : Calls Try.prog 17 #[.int .u32 a, .int .u32 b, .int .i64 n] w fun e w' => e = .returned (.int .u32 (joinN a b (max n 0))) ∧ w' = w := by
  by_cases h : 0 ≤ n
  · rw [show max n 0 = n by omega]; exact join_pos a b n w ha hb h hn.2
  · rw [show max n 0 = 0 by omega]; exact join_neg a b n w ha hb (by omega) hn.1
theorem rjoin_any (a b n : Int) (w : World) (ha : U32 a) (hb : U32 b) (hn : -9223372036854775808 ≤ n ∧ n ≤ 9223372036854775807) : Calls Try.prog 18 #[.int .u32 a, .int .u32 b, .int .i64 n] w fun e w' => e = .returned (.int .u32 (joinN a b (max n 0))) ∧ w' = w := by
  by_cases h : 0 ≤ n
  · rw [show max n 0 = n by omega]; exact rjoin_pos a b n w ha hb h hn.2
  · rw [show max n 0 = 0 by omega]; exact rjoin_neg a b n w ha hb (by omega) hn.1
end Go.Proofs.Ytmlondjkjdlcjaa
