/- What a raster must be: the document's numbers; Check of both sides. -/
import Derived.Test.YtbjoalgglmalnabDoorPyG
namespace Go.Proofs.YtbjoalgglmalnabDoor
open Go.RowKit
def nmE (C D : Int) (tn : Nat) (l : List Int) (n : Int) : Int := if (l.length : Int) = n ∧ allB (2 ^ D.toNat) l then (if C = 3 ∧ ¬ allB tn l then 14 else 0) else 1
def chE (W H C D : Int) (tn : Nat) (A K S : List Int) : Int := if ckE W H C D tn A K = 0 then nmE C D tn S (W * H * spN C) else ckE W H C D tn A K
theorem smE_nmE (C D : Int) (tn : Nat) (l : List Int) (px : Int) : smE C D tn l px = nmE C D tn l (px * spN C) := rfl
theorem ckE_may {W H C D : Int} {tn : Nat} {A K : List Int} (h : ckE W H C D tn A K = 0) : mayN W H C D := by
  by_cases q : mayN W H C D
  · exact q
  · unfold ckE at h; rw [if_neg q] at h; omega
theorem may_facts {W H C D : Int} (h : mayN W H C D) : (1 ≤ D ∧ D ≤ 16) ∧ (1 ≤ W * H ∧ W * H ≤ 65536) ∧ (1 ≤ spN C ∧ spN C ≤ 4) := by
  obtain ⟨d1, d2, d3⟩ := isPr_d h.2.2.1
  refine ⟨d1, ⟨?_, h.2.2.2⟩, ?_⟩
  · have h1 : 1 * 1 ≤ W * H := Int.mul_le_mul h.1.1 h.2.1.1 (by omega) (by have := h.1.1; omega)
    omega
  · rcases d3 with q | q | q | q | q <;> rw [q] <;> decide
end Go.Proofs.YtbjoalgglmalnabDoor
