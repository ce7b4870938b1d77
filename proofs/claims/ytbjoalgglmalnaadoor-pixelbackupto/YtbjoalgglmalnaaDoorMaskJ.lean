/- The lowest bits of an int. -/
import Derived.Test.YtbjoalgglmalnaaDoorBitM
namespace Go.Proofs.YtbjoalgglmalnaaDoor
open Go.RowKit

theorem i64_maskI (n : Int) (k : Nat) (m : Int) (hk : k ≤ 32) (hm : (BitVec.ofInt 64 m).toNat = 2 ^ k - 1) : bits .and .i64 n m = n % 2 ^ k := by
  have key : (BitVec.ofInt 64 n &&& BitVec.ofInt 64 m).toNat = (n % ((2 ^ 64 : Nat) : Int)).toNat % 2 ^ k := by
    rw [BitVec.toNat_and, BitVec.toNat_ofInt, hm, Nat.and_two_pow_sub_one_eq_mod]
  show IntKind.i64.wrap ((BitVec.ofInt 64 n &&& BitVec.ofInt 64 m).toNat : Nat) = n % 2 ^ k
  rw [key, IntKind.wrap_i64]
  have h1 : ((2 ^ k : Nat) : Int) = 2 ^ k := by rw [Int.natCast_pow]; rfl
  have h2 : (2 : Nat) ^ k ≤ 2 ^ 32 := Nat.pow_le_pow_right (by omega) hk
  have h3 : ((n % ((2 ^ 64 : Nat) : Int)).toNat : Int) = n % 18446744073709551616 := by omega
  have h4 : n % 18446744073709551616 % ((2 ^ k : Nat) : Int) = n % ((2 ^ k : Nat) : Int) := by
    rw [Int.emod_emod_of_dvd]
    have : (2 : Nat) ^ 64 = 2 ^ k * 2 ^ (64 - k) := by rw [← Nat.pow_add]; congr 1; omega
    exact ⟨((2 ^ (64 - k) : Nat) : Int), by rw [← Int.natCast_mul, ← this]; rfl⟩
  have h5 : (((n % ((2 ^ 64 : Nat) : Int)).toNat % 2 ^ k : Nat) : Int) = n % ((2 ^ k : Nat) : Int) := by
    rw [Int.natCast_emod, h3, h4]
  rw [h5, ← h1]
  have h6 := Int.emod_nonneg n (show ((2 ^ k : Nat) : Int) ≠ 0 by have := Nat.two_pow_pos k; omega)
  have h7 := Int.emod_lt_of_pos n (show (0 : Int) < ((2 ^ k : Nat) : Int) by have := Nat.two_pow_pos k; omega)
  generalize n % ((2 ^ k : Nat) : Int) = r at *
  omega
theorem want_eq (v : Int) (m : Nat) (hm : m ≤ 32) : bits .and .i64 v (wrap64 (wrap64 (2 ^ m) - 1)) = v % 2 ^ m := by
  have e : (2 : Int) ^ m = ((2 ^ m : Nat) : Int) := by rw [Int.natCast_pow]; rfl
  have h2 : (2 : Nat) ^ m ≤ 2 ^ 32 := Nat.pow_le_pow_right (by omega) hm
  have h3 := Nat.two_pow_pos m
  have hw : wrap64 (wrap64 (2 ^ m) - 1) = ((2 ^ m - 1 : Nat) : Int) := by
    rw [e]; unfold wrap64; generalize (2 : Nat) ^ m = q at *; omega
  rw [hw]
  refine i64_maskI v m _ hm ?_
  rw [BitVec.toNat_ofInt]
  generalize (2 : Nat) ^ m = q at *
  omega
end Go.Proofs.YtbjoalgglmalnaaDoor
