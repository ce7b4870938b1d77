/- Plain facts on a row of bytes whose bits are put one behind the other: no program in it. -/
import Derived.Test.YtaibojmaghmfnaaBitM
namespace Go.Proofs.Ytaibojmaghmfnaa
open Go.RowKit

theorem litN_append (l m : List Int) : litN (l ++ m) = litN l + 256 ^ l.length * litN m := by
  induction l with
  | nil => simp [litN]
  | cons z r ih => simp only [List.cons_append, litN, ih, List.length_cons, Int.pow_succ]; rw [Int.mul_add, Int.mul_comm (256 ^ r.length) 256, Int.mul_assoc]; omega
theorem litN_set {zs : List Int} (k : Nat) (y : Int) (hk : k < zs.length) : litN (zs.set k y) = litN zs + (y - zs[k]?.getD 0) * 256 ^ k := by
  induction zs generalizing k with
  | nil => simp at hk
  | cons z r ih =>
    cases k with
    | zero => simp [litN]; omega
    | succ k =>
      have hk' : k < r.length := by simpa using hk
      simp only [List.set_cons_succ, litN, List.getElem?_cons_succ, ih k hk', Int.pow_succ]
      rw [Int.mul_add, Int.mul_comm (256 ^ k) 256, ← Int.mul_assoc (y - _), Int.mul_comm (y - _) 256, Int.mul_assoc]
      omega
/-- The last byte of a row whose number has few bits. -/
theorem last_small {zs : List Int} (h : Bytes zs) (k used : Nat) (hl : zs.length = k + 1) (hw : litN zs < 2 ^ (8 * k + used)) : 0 ≤ zs[k]?.getD 0 ∧ zs[k]?.getD 0 < 2 ^ used := by
  have h1 := h.at k
  refine ⟨h1.1, ?_⟩
  have h2 := litN_mod h k
  have h3 : litN zs / 256 ^ k < 256 := by
    have := (litN_bound h).2
    rw [hl, Int.pow_succ] at this
    exact Int.ediv_lt_of_lt_mul (pow_256_pos k) (by rw [Int.mul_comm]; exact this)
  have h4 : 0 ≤ litN zs / 256 ^ k := Int.ediv_nonneg (litN_bound h).1 (by have := pow_256_pos k; omega)
  have h5 : litN zs / 256 ^ k < 2 ^ used := by
    refine Int.ediv_lt_of_lt_mul (pow_256_pos k) ?_
    rw [pow_256_two, Int.mul_comm, ← pow_add]; exact hw
  omega
theorem pow_le_of (a b : Nat) (h : a ≤ b) : (2 : Int) ^ a ≤ 2 ^ b := by
  have e : ∀ n : Nat, (2 : Int) ^ n = ((2 ^ n : Nat) : Int) := fun n => by rw [Int.natCast_pow]; rfl
  rw [e, e]
  have := Nat.pow_le_pow_right (show 0 < 2 by omega) h
  omega
/-- 'last |= byte(x << used)', last below 2^used, x of p bits, used + p at most 8. -/
theorem or_byte (L x : Int) (used p : Nat) (h0 : 0 ≤ L) (h1 : L < 2 ^ used) (h2 : 0 ≤ x) (h3 : x < 2 ^ p) (hp : used + p ≤ 8) : bits .or .u8 L (x * 2 ^ used) = L + x * 2 ^ used ∧ 0 ≤ x * 2 ^ used ∧ x * 2 ^ used < 256 ∧ L + x * 2 ^ used < 256 := by
  have e : (2 : Int) ^ used = ((2 ^ used : Nat) : Int) := by rw [Int.natCast_pow]; rfl
  have hu := two_pos used
  have hx0 : 0 ≤ x * 2 ^ used := Int.mul_nonneg h2 (by omega)
  have hx1 : x * 2 ^ used ≤ (2 ^ p - 1) * 2 ^ used := Int.mul_le_mul_of_nonneg_right (by omega) (by omega)
  have hx2 : (2 ^ p - 1) * 2 ^ used = 2 ^ (p + used) - (2 : Int) ^ used := by rw [pow_add, Int.sub_mul, Int.one_mul]
  have hx3 : (2 : Int) ^ (p + used) ≤ 2 ^ 8 := pow_le_of _ _ (by omega)
  have h8 : (2 : Int) ^ 8 = 256 := by decide
  refine ⟨?_, hx0, by omega, by omega⟩
  rw [u8_or _ _ h0 (by omega) hx0 (by omega), Nat.or_comm]
  have et : (x * 2 ^ used).toNat = x.toNat * 2 ^ used := by rw [e, Int.toNat_mul h2 (by omega), Int.toNat_natCast]
  rw [nat_join used _ _ (by rw [et]; exact Nat.mul_mod_left _ _) (by rw [e] at h1; omega)]
  omega
/-- One part that is put. -/
theorem put_step {zs : List Int} (hb : Bytes zs) (k used p : Nat) (x : Int) (hl : zs.length = k + 1) (hw : litN zs < 2 ^ (8 * k + used)) (h2 : 0 ≤ x) (h3 : x < 2 ^ p) (hp : used + p ≤ 8) :
    litN (zs.set k (zs[k]?.getD 0 + x * 2 ^ used)) = litN zs + x * 2 ^ (8 * k + used) ∧ Bytes (zs.set k (zs[k]?.getD 0 + x * 2 ^ used)) ∧ litN (zs.set k (zs[k]?.getD 0 + x * 2 ^ used)) < 2 ^ (8 * k + used + p) := by
  have hL := last_small hb k used hl hw
  have ho := or_byte _ x used p hL.1 hL.2 h2 h3 hp
  have e1 : litN (zs.set k (zs[k]?.getD 0 + x * 2 ^ used)) = litN zs + x * 2 ^ (8 * k + used) := by
    rw [litN_set k _ (by omega), pow_256_two, show zs[k]?.getD 0 + x * 2 ^ used - zs[k]?.getD 0 = x * 2 ^ used by omega, Int.mul_assoc, ← pow_add, Nat.add_comm used]
  refine ⟨e1, fun z hz => ?_, ?_⟩
  · rcases List.mem_or_eq_of_mem_set hz with h | h
    · exact hb z h
    · rw [h]; omega
  · rw [e1, pow_add (8 * k + used) p]
    have : x * 2 ^ (8 * k + used) ≤ (2 ^ p - 1) * 2 ^ (8 * k + used) := Int.mul_le_mul_of_nonneg_right (by omega) (by have := two_pos (8 * k + used); omega)
    rw [Int.sub_mul, Int.one_mul] at this
    rw [Int.mul_comm (2 ^ (8 * k + used))]
    omega
end Go.Proofs.Ytaibojmaghmfnaa
