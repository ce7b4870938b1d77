/- Plain facts on a text with its sum behind it: no program in it. -/
import Derived.Test.YtinmkhdangknbaaCrB
namespace Go.Proofs.Ytinmkhdangknbaa
open Go.RowKit
theorem sealed_ne (A ts : List Int) (hA : Bytes A) (ht : Bytes ts) (h4 : ts.length = 4) (hs : crcM (BitVec.ofNat 32 0) A = wd (litN ts)) (k : Nat) (f : Nat → Int) (hne : A ++ ts ≠ turnB (A ++ ts) k f) :
    ¬ ((crcM (BitVec.ofNat 32 0) ((turnB (A ++ ts) k f).take A.length)).toNat : Int) = litN ((turnB (A ++ ts) k f).drop A.length) := by
  intro h
  have hT : Bytes (A ++ ts) := hA.append ht
  have hCl := turnB_len (A ++ ts) k f
  have hCb := turnB_bytes (A ++ ts) k f
  have hsame := turned_same (~~~ (BitVec.ofNat 32 0)) (A ++ ts) hT k f
  generalize turnB (A ++ ts) k f = C at *
  rw [List.length_append, h4] at hCl
  have hd4 : (C.drop A.length).length = 4 := by rw [List.length_drop]; omega
  have e1 := (seal_iff A ts ht h4).1 hs
  have hw : crcM (BitVec.ofNat 32 0) (C.take A.length) = wd (litN (C.drop A.length)) := by
    rw [← h]
    unfold wd
    rw [ofInt_toNat]
  have e2 := (seal_iff (C.take A.length) (C.drop A.length) (hCb.drop _) hd4).1 hw
  rw [List.take_append_drop] at e2
  exact hne (hsame (e1.trans e2.symm))
/-- A word's bytes, the lowest first. -/
def leB (s : BitVec 32) : List Int := [(s.toNat : Int) % 256, (s.toNat : Int) / 256 % 256, (s.toNat : Int) / 65536 % 256, (s.toNat : Int) / 16777216]
theorem leB_bytes (s : BitVec 32) : Bytes (leB s) := by
  have := s.isLt
  intro z hz
  simp only [leB, List.mem_cons, List.not_mem_nil, or_false] at hz
  omega
theorem leB_lit (s : BitVec 32) : litN (leB s) = (s.toNat : Int) := by
  have := s.isLt
  simp only [leB, litN]
  omega
theorem u32_or (a b : Int) (h0 : 0 ≤ a) (h1 : a < 4294967296) (h2 : 0 ≤ b) (h3 : b < 4294967296) : bits .or .u32 a b = (a.toNat ||| b.toNat : Nat) := by
  have e : (BitVec.ofInt 32 a ||| BitVec.ofInt 32 b).toNat = a.toNat ||| b.toNat := by
    rw [BitVec.toNat_or, BitVec.toNat_ofInt, BitVec.toNat_ofInt, Int.emod_eq_of_lt h0 (by omega), Int.emod_eq_of_lt h2 (by omega)]
  have hlt : a.toNat ||| b.toNat < 2 ^ 32 := Nat.or_lt_two_pow (by omega) (by omega)
  show IntKind.u32.wrap ((BitVec.ofInt 32 a ||| BitVec.ofInt 32 b).toNat : Nat) = _
  rw [e, IntKind.wrap_u32]
  omega
theorem or_8 (a b : Int) (h0 : 0 ≤ a) (h1 : a < 256) (h2 : 0 ≤ b) (h3 : b < 256) : bits .or .u32 a (b * 256) = a + b * 256 := by
  rw [u32_or _ _ h0 (by omega) (by omega) (by omega), Nat.or_comm, nat_join 8 _ _ (by omega) (by omega)]
  omega
theorem or_16 (a b : Int) (h0 : 0 ≤ a) (h1 : a < 65536) (h2 : 0 ≤ b) (h3 : b < 256) : bits .or .u32 a (b * 65536) = a + b * 65536 := by
  rw [u32_or _ _ h0 (by omega) (by omega) (by omega), Nat.or_comm, nat_join 16 _ _ (by omega) (by omega)]
  omega
theorem or_24 (a b : Int) (h0 : 0 ≤ a) (h1 : a < 16777216) (h2 : 0 ≤ b) (h3 : b < 256) : bits .or .u32 a (b * 16777216) = a + b * 16777216 := by
  rw [u32_or _ _ h0 (by omega) (by omega) (by omega), Nat.or_comm, nat_join 24 _ _ (by omega) (by omega)]
  omega
theorem four {l : List Int} (h : l.length = 4) : l = [l[0]?.getD 0, l[1]?.getD 0, l[2]?.getD 0, l[3]?.getD 0] := by
  match l, h with
  | [a, b, c, d], _ => rfl
end Go.Proofs.Ytinmkhdangknbaa
