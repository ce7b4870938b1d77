/-
  DERIVED. GIVEN WITH THE SEED: THE CARDS: each row of YtbjoalgglmalnabDoorRows.lean that lists a variable, with what it lists TIED to the program's text (the seventh form; the later family's looks); each row that meets fmt, with fmt's text TOLD by the authors' own Lean function (tested against real Go, not proved from fmt's source: count such statements apart). THE CARD IS WHAT COUNTS. Prove the row's statement (the work); the ties are given (YtbjoalgglmalnabDoorTie.lean); close each card by the builder's one call (the guide's Derived/Test/ToyasCard.lean, 'card_holds'). Laid BY PROGRAM, IN A SANDBOX (cutbox-door.mjs). By AI agents, Wed Nov 11 2026. No macro, syntax, notation, axiom, sorry.
-/
import Derived.Test.YtbjoalgglmalnabDoorRows
import GoSem.ClaimSeven
namespace Go.Proofs.YtbjoalgglmalnabDoor
namespace Rows

/-- THE TIED CARD OF 'halftonelaw15.PixelRises'. -/
def pixelRisesCard : Claim7 := { stood := { row := pixelRisesRow, standIns := [], harness := (true, "4b893c45e43e13ce13c1a917c9c840d9b744d00979dd40e7894d2505f0ef5cce"), looks := false }, kinds := [], alts := [], laidByText := true, laidKinds := [.data, .data], laidTests := true, laidLooks := .later }
def PixelRisesCardSaid : Prop := Claim7.holds Tryd.pinned (.plain (OpenSpec.ofChange pixelRisesSpec)) pixelRisesCard

/-- THE SECOND FORM's CARD OF 'halftonelaw15.PixelRises'. -/
def pixelRisesUptoCard : Claim7 := { stood := { row := pixelRisesUptoRow, standIns := [], harness := (true, "4b893c45e43e13ce13c1a917c9c840d9b744d00979dd40e7894d2505f0ef5cce"), looks := false }, kinds := [], alts := [], laidByText := true, laidKinds := [.data, .data], laidTests := true, laidLooks := .later }
def PixelRisesUptoCardSaid : Prop := Claim7.holds Tryd.pinned (.plain (OpenSpec.upto pixelRisesSpec)) pixelRisesUptoCard
end Rows
end Go.Proofs.YtbjoalgglmalnabDoor
