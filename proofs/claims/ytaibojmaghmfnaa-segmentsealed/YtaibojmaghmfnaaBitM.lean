/- Plain facts on bits of numbers: no program in it. -/
import Derived.Test.YtaibojmaghmfnaaNum
namespace Go.Proofs.Ytaibojmaghmfnaa
open Go.RowKit

theorem two_pos (n : Nat) : (0 : Int) < 2 ^ n := Int.pow_pos (by omega)
theorem pow_add (a b : Nat) : (2 : Int) ^ (a + b) = 2 ^ a * 2 ^ b := Int.pow_add 2 a b
theorem pow_256_two (k : Nat) : (256 : Int) ^ k = 2 ^ (8 * k) := by rw [pow_256, Int.natCast_pow]; rfl
theorem cut_bits (X : Int) (j p : Nat) (h : j + p ≤ 8) : X / 2 ^ j % 2 ^ p = (X % 256) / 2 ^ j % 2 ^ p := by
  have e : (256 : Int) = 2 ^ j * (2 ^ p * 2 ^ (8 - j - p)) := by rw [← pow_add, ← pow_add, show j + (p + (8 - j - p)) = 8 by omega]; decide
  have hx : X = X % 256 + 2 ^ j * (2 ^ p * (2 ^ (8 - j - p) * (X / 256))) := by
    have := Int.emod_add_mul_ediv X 256
    rw [← Int.mul_assoc (2 ^ p), ← Int.mul_assoc (2 ^ j), ← e]; omega
  conv => lhs; rw [hx]
  rw [Int.add_mul_ediv_left _ _ (by have := two_pos j; omega), Int.add_mul_emod_self_left]
theorem ediv_pow (X : Int) (a b : Nat) : X / 2 ^ (a + b) = X / 2 ^ a / 2 ^ b := by
  rw [pow_add, Int.ediv_ediv_of_nonneg (by have := two_pos a; omega)]
theorem emod_split (X : Int) (a b : Nat) : X % 2 ^ (a + b) = X % 2 ^ a + (X / 2 ^ a % 2 ^ b) * 2 ^ a := by
  have h1 := Int.emod_add_mul_ediv X (2 ^ a)
  have h2 := Int.emod_add_mul_ediv (X / 2 ^ a) (2 ^ b)
  have h3 := Int.emod_add_mul_ediv X (2 ^ (a + b))
  rw [ediv_pow, pow_add] at h3
  rw [pow_add]
  generalize X / 2 ^ a / 2 ^ b = q at *
  generalize X / 2 ^ a % 2 ^ b = r at *
  rw [← h2] at h1
  rw [Int.mul_add] at h1
  rw [Int.mul_assoc] at h3
  rw [Int.mul_comm r]
  generalize 2 ^ a * r = u at *
  generalize 2 ^ a * (2 ^ b * q) = t at *
  omega
theorem litN_mod {zs : List Int} (h : Bytes zs) (k : Nat) : litN zs / 256 ^ k % 256 = zs[k]?.getD 0 := by
  induction zs generalizing k with
  | nil => simp [litN]
  | cons z r ih =>
    have hz := h z (by simp)
    have hr : Bytes r := fun y hy => h y (by simp [hy])
    cases k with
    | zero => simp [litN]; omega
    | succ k =>
      rw [Int.pow_succ, Int.mul_comm, ← Int.ediv_ediv_of_nonneg (by omega)]
      simp only [litN, List.getElem?_cons_succ]
      rw [show (z + 256 * litN r) / 256 = litN r by omega]
      exact ih hr k
theorem litN_drop {zs : List Int} (h : Bytes zs) (k : Nat) : litN (zs.drop k) = litN zs / 256 ^ k := by
  induction k generalizing zs with
  | zero => simp
  | succ k ih =>
    cases zs with
    | nil => simp [litN]
    | cons z r =>
      have hz := h z (by simp)
      have hr : Bytes r := fun y hy => h y (by simp [hy])
      rw [List.drop_succ_cons, ih hr, Int.pow_succ, Int.mul_comm, ← Int.ediv_ediv_of_nonneg (by omega)]
      simp only [litN]
      rw [show (z + 256 * litN r) / 256 = litN r by omega]
/-- The number of a reader's bits. -/
def bitV (zs : List Int) (gone : Nat) : Int := litN zs / 2 ^ gone
theorem bitV_pass {zs : List Int} (h : Bytes zs) (gone n : Nat) : bitV (zs.drop ((gone + n) / 8)) ((gone + n) % 8) = bitV zs gone / 2 ^ n := by
  unfold bitV
  rw [litN_drop h, ← ediv_pow, pow_256_two, ← ediv_pow, show 8 * ((gone + n) / 8) + (gone + n) % 8 = gone + n by omega]
theorem bitV_low {zs : List Int} (h : Bytes zs) (gone p : Nat) (hp : gone + p ≤ 8) : bitV zs gone % 2 ^ p = (zs[0]?.getD 0) / 2 ^ gone % 2 ^ p := by
  unfold bitV
  have := litN_mod h 0
  rw [Int.pow_zero, Int.ediv_one] at this
  rw [cut_bits _ _ _ hp, this]
theorem bitV_look {zs : List Int} (h : Bytes zs) (gone i : Nat) : bitV zs gone / 2 ^ i % 2 = (zs[(gone + i) / 8]?.getD 0) / 2 ^ ((gone + i) % 8) % 2 := by
  unfold bitV
  rw [← ediv_pow, ← litN_mod h ((gone + i) / 8), pow_256_two]
  have e : litN zs / 2 ^ (gone + i) = litN zs / 2 ^ (8 * ((gone + i) / 8)) / 2 ^ ((gone + i) % 8) := by
    rw [← ediv_pow, show 8 * ((gone + i) / 8) + (gone + i) % 8 = gone + i by omega]
  rw [e]
  have := cut_bits (litN zs / 2 ^ (8 * ((gone + i) / 8))) ((gone + i) % 8) 1 (by omega)
  rw [show (2 : Int) ^ 1 = 2 from rfl] at this
  exact this
/-- 'v & (1<<n - 1)', v below 2^64, n at most 32. -/
theorem and_low (v : Int) (n : Nat) (h0 : 0 ≤ v) (h1 : v < 18446744073709551616) (hn : n ≤ 32) (m : Int) (hm : m = 2 ^ n - 1) : bits .and .u64 v m = v % 2 ^ n := by
  have hp : (2 : Nat) ^ n ≤ 2 ^ 32 := Nat.pow_le_pow_right (by omega) hn
  have hq := Nat.two_pow_pos n
  have e : (2 : Int) ^ n = ((2 ^ n : Nat) : Int) := by rw [Int.natCast_pow]; rfl
  rw [hm, e]
  rw [u64_and _ _ h0 h1 (by omega) (by omega)]
  have e2 : (((2 ^ n : Nat) : Int) - 1).toNat = 2 ^ n - 1 := by omega
  rw [e2, Nat.and_two_pow_sub_one_eq_mod, Int.natCast_emod]
  congr 1
  omega
end Go.Proofs.Ytaibojmaghmfnaa
