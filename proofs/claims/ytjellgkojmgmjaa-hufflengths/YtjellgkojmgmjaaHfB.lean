/- A word's small functions. -/
import Derived.Test.YtjellgkojmgmjaaHfA
namespace Go.Proofs.Ytjellgkojmgmjaa
open Go.RowKit

theorem i64_or (a b : Nat) (ha : a < 4611686018427387904) (hb : b < 4611686018427387904) : bits .or .i64 (a : Int) (b : Int) = ((a ||| b : Nat) : Int) := by
  show IntKind.i64.wrap ((BitVec.ofInt 64 a ||| BitVec.ofInt 64 b).toNat : Nat) = _
  rw [BitVec.toNat_or, BitVec.toNat_ofInt, BitVec.toNat_ofInt]
  have e1 : (((a : Int)) % ((2 ^ 64 : Nat) : Int)).toNat = a := by omega
  have e2 : (((b : Int)) % ((2 ^ 64 : Nat) : Int)).toNat = b := by omega
  rw [e1, e2, IntKind.wrap_i64]
  have : (a ||| b) < 2 ^ 62 := Nat.or_lt_two_pow (by omega) (by omega)
  omega
theorem or_bit (b : Nat) (x : Int) (hb : b ≤ 32767) (hx : x = 0 ∨ x = 1) : bits .or .u16 ((b : Int) * 2) x = (b : Int) * 2 + x := by
  rcases hx with rfl | rfl
  · rw [u16_or _ _ (by omega) (by omega) (by omega) (by omega)]; simp; omega
  · rw [u16_or _ _ (by omega) (by omega) (by omega) (by omega)]
    rw [nat_join 1 _ _ (by omega) (by decide)]; omega
set_option maxHeartbeats 800000 in
theorem and_any (l b : Nat) (x : Int) (w : World) (hl : l < 16) (hb : b ≤ 32767) (hx : x = 0 ∨ x = 1) :
    Calls Try.prog 36 #[.agg #[.int .u16 l, .int .u16 b], .int .u16 x] w fun e w' => e = .returned (.agg #[.int .u16 (l + 1), .int .u16 (b * 2 + x)]) ∧ Below w.heap.size w w' := by
  have HO : Hid _ := or_bit b x hb hx
  go_enter Try.func36, Try.ntmps36
  go_wp2
  refine bodyPost_ret (v := .agg #[.int .u16 (l + 1), .int .u16 (bits .or .u16 ((b : Int) * 2) x)]) (by simp [results, go_sem]) rfl ⟨?_, ?_⟩
  · rw [HO.out]
  · exact ((Below.refl _ _).alloc (Nat.le_refl _) _).alloc (by simp) _
set_option maxHeartbeats 800000 in
theorem less_any (l b : Nat) (w : World) (hl : 1 ≤ l) (hl2 : l < 16) :
    Calls Try.prog 45 #[.agg #[.int .u16 l, .int .u16 b]] w fun e w' => e = .returned (.agg #[.int .u16 (l - 1), .int .u16 (b / 2)]) ∧ Below w.heap.size w w' := by
  go_enter Try.func45, Try.ntmps45
  go_wp2
  refine bodyPost_ret (v := .agg #[.int .u16 (l - 1), .int .u16 (b / 2)]) (by simp [results, go_sem]) rfl ⟨rfl, ?_⟩
  exact ((Below.refl _ _).alloc (Nat.le_refl _) _).alloc (by simp) _
/-- The lowest i bits of b, the other way round. -/
def turn (b : Nat) : Nat → Nat
  | 0 => 0
  | i + 1 => turn b i * 2 + b / 2 ^ i % 2
theorem turn_lt (b i : Nat) : turn b i < 2 ^ i := by
  induction i with
  | zero => exact Nat.one_pos
  | succ i ih => rw [turn, Nat.pow_succ]; omega
theorem turn_step (b i : Nat) (hb : b < 65536) (hi : i < 16) : bits .or .i64 ((turn b i : Int) * 2) (wrap64 (bits .and .u16 ((b : Int) / 2 ^ i) 1)) = (turn b (i + 1) : Int) := by
  have h1 := turn_lt b i
  have h2 : (2 : Nat) ^ i ≤ 2 ^ 15 := Nat.pow_le_pow_right (by omega) (by omega)
  have e : (b : Int) / 2 ^ i = ((b / 2 ^ i : Nat) : Int) := by rw [Int.natCast_ediv, Int.natCast_pow]; rfl
  have h3 : b / 2 ^ i ≤ b := Nat.div_le_self _ _
  show _ = ((turn b i * 2 + b / 2 ^ i % 2 : Nat) : Int)
  rw [e]
  generalize b / 2 ^ i = q at *
  generalize turn b i = t at *
  have e2 : wrap64 (bits .and .u16 (q : Int) 1) = ((q % 2 : Nat) : Int) := by
    rw [u16_and _ _ (by omega) (by omega) (by omega) (by omega), show (1 : Int).toNat = 1 from rfl, nat_mask1, Int.toNat_natCast]
    unfold wrap64; omega
  rw [e2, show (t : Int) * 2 = ((t * 2 : Nat) : Int) by omega, i64_or _ _ (by omega) (by omega), nat_join 1 _ _ (by omega) (by omega)]
set_option maxHeartbeats 800000 in
theorem turned_any (l b : Nat) (w : World) (hl : l < 16) (hb : b < 65536) :
    Calls Try.prog 31 #[.agg #[.int .u16 l, .int .u16 b]] w fun e w' => e = .returned (.int .i64 (turn b l)) ∧ w' = w.alloc (.cells #[.int .u16 l, .int .u16 b] 68) := by
  go_enter Try.func31, Try.ntmps31
  go_wp2
  go_loop [3, 7] (fun v i => ∃ k : Nat, k ≤ l ∧ i = .int .u16 k ∧ v = .int .i64 (turn b k)) (fun _ i => l - (intOf i).toNat)
  case atStart => exact ⟨0, Nat.zero_le _, rfl, rfl⟩
  case round =>
    obtain ⟨k, hk, rfl, rfl⟩ := hrel
    have h1 := turn_lt b k
    have h2 : (2 : Nat) ^ k ≤ 2 ^ 15 := Nat.pow_le_pow_right (by omega) (by omega)
    have h3 : turn b k ≤ 32768 := by omega
    clear h1 h2
    by_cases hlt : k < l
    · have HT : Hid _ := turn_step b k hb (by omega)
      go_wp2
      go_round
      case rel => exact ⟨k + 1, by omega, by go_num, by rw [← HT.out]⟩
      case measure => simp [intOf]; omega
    · obtain rfl : k = l := by omega
      go_wp2
      go_ret
      exact ⟨rfl, rfl⟩
end Go.Proofs.Ytjellgkojmgmjaa
