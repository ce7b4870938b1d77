/- Bytes into samples: what the document gets is what the program gets. -/
import Derived.Test.YtbjoalgglmalnaaDoorPzA
namespace Go.Proofs.YtbjoalgglmalnaaDoor
open Go.RowKit
/-- The sample at a place: as the program gets it. -/
def getN (d i : Nat) (B : List Int) : Int := if d = 16 then B[2 * i]?.getD 0 * 256 + B[2 * i + 1]?.getD 0 else B[i * d / 8]?.getD 0 / 2 ^ (8 - d - i * d % 8) % 2 ^ d
def bitAt (B : List Int) (k : Nat) : Int := B[k / 8]?.getD 0 / 2 ^ (7 - k % 8) % 2
/-- The document's: bit by bit. -/
def rvN (B : List Int) (p : Nat) : Nat → Int
  | 0 => 0
  | t + 1 => 2 * rvN B p t + bitAt B (p + t)
theorem two_mod (y : Int) (t : Nat) : 2 * (y / 2 % 2 ^ t) + y % 2 = y % 2 ^ (t + 1) := by
  have hp : (0 : Int) < 2 ^ t := Int.pow_pos (by decide)
  rw [show (2 : Int) ^ (t + 1) = 2 * 2 ^ t by rw [Int.pow_succ]; omega]
  generalize (2 : Int) ^ t = P at *
  have h1 := Int.mul_ediv_add_emod (y / 2) P
  have h2 := Int.mul_ediv_add_emod y 2
  have h3 := Int.emod_nonneg (y / 2) (show P ≠ 0 by omega)
  have h4 := Int.emod_lt_of_pos (y / 2) hp
  have h5 : 2 * (y / 2 % P) + y % 2 = (2 * (y / 2 % P) + y % 2) % (2 * P) := (Int.emod_eq_of_lt (by omega) (by omega)).symm
  rw [h5]
  have h6 : y = 2 * (y / 2 % P) + y % 2 + 2 * P * (y / 2 / P) := by
    have : 2 * P * (y / 2 / P) = 2 * (P * (y / 2 / P)) := by rw [Int.mul_assoc]
    rw [this]; omega
  conv => rhs; rw [h6]
  rw [Int.add_mul_emod_self_left]
theorem half_pow (x : Int) (n : Nat) : x / 2 ^ n / 2 = x / 2 ^ (n + 1) := by
  rw [Int.pow_succ, Int.ediv_ediv_of_nonneg (Int.le_of_lt (Int.pow_pos (by decide)))]
theorem rv_in (B : List Int) (A o : Nat) : ∀ t, o + t ≤ 8 → rvN B (8 * A + o) t = B[A]?.getD 0 / 2 ^ (8 - o - t) % 2 ^ t := by
  intro t
  induction t with
  | zero => intro _; simp [rvN, Int.emod_one]
  | succ t ih =>
    intro h
    rw [rvN, ih (by omega)]
    unfold bitAt
    rw [show (8 * A + o + t) / 8 = A by omega, show 7 - (8 * A + o + t) % 8 = 8 - o - (t + 1) by omega, ← two_mod, half_pow, show 8 - o - (t + 1) + 1 = 8 - o - t by omega]
theorem rv_split (B : List Int) (p n : Nat) : ∀ t, rvN B p (n + t) = rvN B p n * 2 ^ t + rvN B (p + n) t := by
  intro t
  induction t with
  | zero => simp [rvN]
  | succ t ih =>
    rw [← Nat.add_assoc, rvN, ih, rvN, Int.pow_succ, Nat.add_assoc]
    rw [← Int.mul_assoc]
    omega
theorem rv_get (d : Nat) (hd : d = 1 ∨ d = 2 ∨ d = 4 ∨ d = 8 ∨ d = 16) (B : List Int) (hB : ∀ j : Nat, 0 ≤ B[j]?.getD 0 ∧ B[j]?.getD 0 < 256) (i : Nat) : rvN B (i * d) d = getN d i B := by
  unfold getN
  by_cases e : d = 16
  · subst e
    rw [if_pos rfl, rv_split B (i * 16) 8 8]
    have h1 := rv_in B (2 * i) 0 8 (by omega)
    have h2 := rv_in B (2 * i + 1) 0 8 (by omega)
    rw [show 8 * (2 * i) + 0 = i * 16 by omega] at h1
    rw [show 8 * (2 * i + 1) + 0 = i * 16 + 8 by omega] at h2
    rw [h1, h2]
    have b1 := hB (2 * i)
    have b2 := hB (2 * i + 1)
    generalize B[2 * i]?.getD 0 = x at *
    generalize B[2 * i + 1]?.getD 0 = y at *
    simp
    omega
  · rw [if_neg e]
    obtain ⟨A, hA⟩ : ∃ A, i * d / 8 = A := ⟨_, rfl⟩
    obtain ⟨o, ho⟩ : ∃ o, i * d % 8 = o := ⟨_, rfl⟩
    have hq : i * d = 8 * A + o := by omega
    have hod : o + d ≤ 8 := by rcases hd with rfl | rfl | rfl | rfl | rfl <;> omega
    rw [hA, ho, hq, rv_in B A o d hod, show 8 - o - d = 8 - d - o by omega]
end Go.Proofs.YtbjoalgglmalnaaDoor
