/-
  DERIVED. GIVEN WITH THE SEED: THE CARDS: each row of YtfoacohonpiooaaGreatDoorRows.lean that lists a variable, with what it lists TIED to the program's text (the seventh form; the later family's looks); each row that meets fmt, with fmt's text TOLD by the authors' own Lean function (tested against real Go, not proved from fmt's source: count such statements apart). THE CARD IS WHAT COUNTS. Prove the row's statement (the work); the ties are given (YtfoacohonpiooaaGreatDoorTie.lean); close each card by the builder's one call (the guide's Derived/Test/ToyasCard.lean, 'card_holds'). Laid BY PROGRAM, IN A SANDBOX (cutbox-door.mjs). By AI agents, Wed Nov 11 2026. No macro, syntax, notation, axiom, sorry.
-/
import Derived.Test.YtfoacohonpiooaaGreatDoorRows
import GoSem.ClaimSeven
namespace Go.Proofs.YtfoacohonpiooaaGreatDoor
namespace Rows

/-- THE TIED CARD OF 'halftonelaw18.GifNil'. -/
def gifNilCard : Claim7 := { stood := { row := gifNilRow, standIns := [], harness := (true, "a38b7d8892af6700bf1422f134cddab436f9f6f1f484f6d043d5d0bd75eb782c"), looks := false }, kinds := [], alts := [], laidByText := true, laidKinds := [.data, .data], laidTests := true, laidLooks := .later }
def GifNilCardSaid : Prop := Claim7.holds Tryz.pinned (.plain (OpenSpec.ofChange gifNilSpec)) gifNilCard

/-- THE SECOND FORM's CARD OF 'halftonelaw18.GifNil'. -/
def gifNilUptoCard : Claim7 := { stood := { row := gifNilUptoRow, standIns := [], harness := (true, "a38b7d8892af6700bf1422f134cddab436f9f6f1f484f6d043d5d0bd75eb782c"), looks := false }, kinds := [], alts := [], laidByText := true, laidKinds := [.data, .data], laidTests := true, laidLooks := .later }
def GifNilUptoCardSaid : Prop := Claim7.holds Tryz.pinned (.plain (OpenSpec.upto gifNilSpec)) gifNilUptoCard
end Rows
end Go.Proofs.YtfoacohonpiooaaGreatDoor
