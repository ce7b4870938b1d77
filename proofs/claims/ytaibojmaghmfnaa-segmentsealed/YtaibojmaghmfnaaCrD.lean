import Derived.Test.YtaibojmaghmfnaaCrC
namespace Go.Proofs.Ytaibojmaghmfnaa
open Go.RowKit
theorem shrn_toNat (x : BitVec 32) (j : Nat) : ((x >>> j).toNat : Int) = (x.toNat : Int) / 2 ^ j := by
  rw [BitVec.toNat_ushiftRight, Nat.shiftRight_eq_div_pow]
  simp
theorem bit_one (x : BitVec 32) (j : Nat) (h : x.getLsbD j = true) : bits .and .u32 ((x.toNat : Int) / 2 ^ j) 1 = 1 := by
  rw [← shrn_toNat, bits_and1]
  have := lsb_mod (x >>> j)
  rw [BitVec.getLsbD_ushiftRight, Nat.add_zero, h] at this
  have := of_decide_eq_true this.symm
  rw [this]
  rfl
theorem bit_nil (x : BitVec 32) (j : Nat) (h : x.getLsbD j = false) : bits .and .u32 ((x.toNat : Int) / 2 ^ j) 1 = 0 := by
  rw [← shrn_toNat, bits_and1]
  have := lsb_mod (x >>> j)
  rw [BitVec.getLsbD_ushiftRight, Nat.add_zero, h] at this
  have := of_decide_eq_false this.symm
  have : (x >>> j).toNat % 2 = 0 := by omega
  rw [this]
  rfl
theorem i64_and1 (n : Int) : bits .and .i64 n 1 = n % 2 := by
  have h1 : (BitVec.ofInt 64 1).toNat = 2 ^ 1 - 1 := by decide
  have key : (BitVec.ofInt 64 n &&& BitVec.ofInt 64 1).toNat = (n % ((2 ^ 64 : Nat) : Int)).toNat % 2 ^ 1 := by
    rw [BitVec.toNat_and, BitVec.toNat_ofInt, h1, Nat.and_two_pow_sub_one_eq_mod]
  show IntKind.i64.wrap ((BitVec.ofInt 64 n &&& BitVec.ofInt 64 1).toNat : Nat) = n % 2
  rw [key, IntKind.wrap_i64]
  omega
/-- What Join answers: n bytes (at least 0) are the second's. -/
def joinW (a b : BitVec 32) (n : Nat) : BitVec 32 := hvn (8 * n) a ^^^ b
theorem hvn_comm (m n : Nat) (x : BitVec 32) : hvn m (hvn n x) = hvn (m + n) x := by rw [Nat.add_comm, hvn_add]
theorem byte_one : (hvn 8 one).toNat = 8388608 := by decide
end Go.Proofs.Ytaibojmaghmfnaa
