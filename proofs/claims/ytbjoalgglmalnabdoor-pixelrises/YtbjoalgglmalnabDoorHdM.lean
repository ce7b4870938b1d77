/- Heads, as numbers: no program in it. -/
import Derived.Test.YtbjoalgglmalnabDoorNum
namespace Go.Proofs.YtbjoalgglmalnabDoor
open Go.RowKit
def prL : List (Int × Int) := [(0, 1), (0, 2), (0, 4), (0, 8), (0, 16), (2, 8), (2, 16), (3, 1), (3, 2), (3, 4), (3, 8), (4, 8), (4, 16), (6, 8), (6, 16)]
def isPr (c d : Int) : Bool := prL.contains (c, d)
abbrev mayN (W H C D : Int) : Prop := (1 ≤ W ∧ W ≤ 2048) ∧ (1 ≤ H ∧ H ≤ 2048) ∧ isPr C D = true ∧ W * H ≤ 65536
def spL : List Int := [1, 0, 3, 1, 2, 0, 4]
def spN (c : Int) : Int := if 0 ≤ c then spL[c.toNat]?.getD 0 else 0
theorem isPr_cases {c d : Int} (h : isPr c d = true) : (c, d) ∈ prL := by simpa [isPr] using h
theorem isPr_bd {c d : Int} (h : isPr c d = true) : 0 ≤ c ∧ c ≤ 6 ∧ 1 ≤ d ∧ d ≤ 16 := by
  have : ∀ p ∈ prL, 0 ≤ p.1 ∧ p.1 ≤ 6 ∧ 1 ≤ p.2 ∧ p.2 ≤ 16 := by decide
  exact this _ (isPr_cases h)
theorem isPr_at (j : Nat) (c d : Int) (h : prL[j]? = some (c, d)) : isPr c d = true := by
  have := List.mem_of_getElem? h
  simpa [isPr] using this
theorem isPr_no (c d : Int) (h : ∀ j, j < 15 → prL[j]? ≠ some (c, d)) : isPr c d = false := by
  rw [Bool.eq_false_iff]
  intro hc
  obtain ⟨j, hj⟩ := List.mem_iff_getElem?.1 (isPr_cases hc)
  by_cases hl : j < 15
  · exact h j hl hj
  · rw [List.getElem?_eq_none (by simp [prL]; omega)] at hj; cases hj
end Go.Proofs.YtbjoalgglmalnabDoor
