import Derived.Test.YtaenojkgdlpclaaPutA
namespace Go.Proofs.Ytaenojkgdlpclaa
open Go.RowKit

/-- The number and the count of bits behind one put. -/
def pst (s : Int × Nat) (p : Int × Int × Bool) : Int × Nat := if p.2.2 then (s.1, 8 * ((s.2 + 7) / 8)) else (s.1 + p.1 % 2 ^ clamp p.2.1 * 2 ^ s.2, s.2 + clamp p.2.1)
def pss (F : Nat → Int × Int × Bool) : Nat → Int × Nat
  | 0 => (0, 0)
  | i + 1 => pst (pss F i) (F i)
theorem pss_count (F : Nat → Int × Int × Bool) (i : Nat) : (pss F i).2 ≤ 40 * i := by
  induction i with
  | zero => simp [pss]
  | succ i ih =>
    have := clamp_le (F i).2.1
    simp only [pss, pst]
    split
    · simp only; omega
    · simp only; omega
theorem pss_lt (F : Nat → Int × Int × Bool) (i : Nat) : 0 ≤ (pss F i).1 ∧ (pss F i).1 < 2 ^ (pss F i).2 := by
  induction i with
  | zero => simp [pss]
  | succ i ih =>
    simp only [pss, pst]
    split
    · refine ⟨ih.1, Int.lt_of_lt_of_le ih.2 (pow_le_of _ _ ?_)⟩
      simp only; omega
    · simp only
      have hp := two_pos (clamp (F i).2.1)
      have hq := two_pos (pss F i).2
      have h0 := Int.emod_nonneg (F i).1 (show (2 : Int) ^ clamp (F i).2.1 ≠ 0 by omega)
      have h1 := Int.emod_lt_of_pos (F i).1 hp
      have h2 : (F i).1 % 2 ^ clamp (F i).2.1 * 2 ^ (pss F i).2 ≤ (2 ^ clamp (F i).2.1 - 1) * 2 ^ (pss F i).2 := Int.mul_le_mul_of_nonneg_right (by omega) (by omega)
      have h3 := Int.mul_nonneg h0 (show 0 ≤ (2 : Int) ^ (pss F i).2 by omega)
      rw [Int.sub_mul, Int.one_mul] at h2
      rw [pow_add, Int.mul_comm (2 ^ (pss F i).2)]
      omega
theorem pss_mono (F : Nat → Int × Int × Bool) (i : Nat) : (pss F i).2 ≤ (pss F (i + 1)).2 := by
  simp only [pss, pst]
  split <;> simp only <;> omega
/-- What is put later lies above. -/
theorem pss_later (F : Nat → Int × Int × Bool) (i d : Nat) : ∃ K : Int, (pss F (i + d)).1 = (pss F i).1 + 2 ^ (pss F i).2 * K ∧ (pss F i).2 ≤ (pss F (i + d)).2 := by
  induction d with
  | zero => exact ⟨0, by simp, Nat.le_refl _⟩
  | succ d ih =>
    obtain ⟨K, hK, hc⟩ := ih
    have hm := pss_mono F (i + d)
    have hstep : ∃ K', (pss F (i + d + 1)).1 = (pss F (i + d)).1 + 2 ^ (pss F (i + d)).2 * K' := by
      simp only [pss, pst]
      split
      · exact ⟨0, by simp⟩
      · exact ⟨(F (i + d)).1 % 2 ^ clamp (F (i + d)).2.1, by simp only; rw [Int.mul_comm (2 ^ _)]⟩
    obtain ⟨K', hK'⟩ := hstep
    refine ⟨K + 2 ^ ((pss F (i + d)).2 - (pss F i).2) * K', ?_, by rw [← Nat.add_assoc]; omega⟩
    rw [← Nat.add_assoc, hK', hK, Int.mul_add, ← Int.mul_assoc, ← pow_add, show (pss F i).2 + ((pss F (i + d)).2 - (pss F i).2) = (pss F (i + d)).2 by omega]
    omega
/-- So it is taken as it was put. -/
theorem pss_take (F : Nat → Int × Int × Bool) (i n : Nat) (hi : i < n) (hal : (F i).2.2 = false) : (pss F n).1 / 2 ^ (pss F i).2 % 2 ^ clamp (F i).2.1 = (F i).1 % 2 ^ clamp (F i).2.1 := by
  obtain ⟨K, hK, _⟩ := pss_later F (i + 1) (n - (i + 1))
  rw [show i + 1 + (n - (i + 1)) = n by omega] at hK
  have hs : pss F (i + 1) = ((pss F i).1 + (F i).1 % 2 ^ clamp (F i).2.1 * 2 ^ (pss F i).2, (pss F i).2 + clamp (F i).2.1) := by simp [pss, pst, hal]
  rw [hs] at hK
  simp only at hK
  have hl := pss_lt F i
  have hp := two_pos (pss F i).2
  have h0 := Int.emod_nonneg (F i).1 (show (2 : Int) ^ clamp (F i).2.1 ≠ 0 by have := two_pos (clamp (F i).2.1); omega)
  have h1 := Int.emod_lt_of_pos (F i).1 (two_pos (clamp (F i).2.1))
  have e : (pss F n).1 = (pss F i).1 + 2 ^ (pss F i).2 * ((F i).1 % 2 ^ clamp (F i).2.1 + 2 ^ clamp (F i).2.1 * K) := by
    rw [hK, pow_add, Int.mul_add, Int.mul_comm (2 ^ (pss F i).2) ((F i).1 % _), Int.mul_assoc]; omega
  rw [e, Int.add_mul_ediv_left _ _ (by omega), Int.ediv_eq_zero_of_lt hl.1 hl.2, Int.zero_add, Int.add_mul_emod_self_left]
  exact Int.emod_eq_of_lt h0 h1
theorem i64_mask (n : Int) (k : Nat) (m : Int) (hk : k ≤ 32) (hm : (BitVec.ofInt 64 m).toNat = 2 ^ k - 1) : bits .and .i64 n m = n % 2 ^ k := by
  have key : (BitVec.ofInt 64 n &&& BitVec.ofInt 64 m).toNat = (n % ((2 ^ 64 : Nat) : Int)).toNat % 2 ^ k := by
    rw [BitVec.toNat_and, BitVec.toNat_ofInt, hm, Nat.and_two_pow_sub_one_eq_mod]
  show IntKind.i64.wrap ((BitVec.ofInt 64 n &&& BitVec.ofInt 64 m).toNat : Nat) = n % 2 ^ k
  rw [key, IntKind.wrap_i64]
  have h1 : ((2 ^ k : Nat) : Int) = 2 ^ k := by rw [Int.natCast_pow]; rfl
  have h2 : (2 : Nat) ^ k ≤ 2 ^ 32 := Nat.pow_le_pow_right (by omega) hk
  have h3 : ((n % ((2 ^ 64 : Nat) : Int)).toNat : Int) = n % 18446744073709551616 := by omega
  have h4 : n % 18446744073709551616 % ((2 ^ k : Nat) : Int) = n % ((2 ^ k : Nat) : Int) := by
    rw [Int.emod_emod_of_dvd]
    have : (2 : Nat) ^ 64 = 2 ^ k * 2 ^ (64 - k) := by rw [← Nat.pow_add]; congr 1; omega
    exact ⟨((2 ^ (64 - k) : Nat) : Int), by rw [← Int.natCast_mul, ← this]; rfl⟩
  have h5 : (((n % ((2 ^ 64 : Nat) : Int)).toNat % 2 ^ k : Nat) : Int) = n % ((2 ^ k : Nat) : Int) := by
    rw [Int.natCast_emod, h3, h4]
  rw [h5, ← h1]
  have h6 := Int.emod_nonneg n (show ((2 ^ k : Nat) : Int) ≠ 0 by have := Nat.two_pow_pos k; omega)
  have h7 := Int.emod_lt_of_pos n (show (0 : Int) < ((2 ^ k : Nat) : Int) by have := Nat.two_pow_pos k; omega)
  generalize n % ((2 ^ k : Nat) : Int) = r at *
  omega
theorem want_eq (v : Int) (m : Nat) (hm : m ≤ 32) : bits .and .i64 v (wrap64 (wrap64 (2 ^ m) - 1)) = v % 2 ^ m := by
  have e : (2 : Int) ^ m = ((2 ^ m : Nat) : Int) := by rw [Int.natCast_pow]; rfl
  have h2 : (2 : Nat) ^ m ≤ 2 ^ 32 := Nat.pow_le_pow_right (by omega) hm
  have h3 := Nat.two_pow_pos m
  have hw : wrap64 (wrap64 (2 ^ m) - 1) = ((2 ^ m - 1 : Nat) : Int) := by
    rw [e]; unfold wrap64; generalize (2 : Nat) ^ m = q at *; omega
  rw [hw]
  refine i64_mask v m _ hm ?_
  rw [BitVec.toNat_ofInt]
  generalize (2 : Nat) ^ m = q at *
  omega
end Go.Proofs.Ytaenojkgdlpclaa
