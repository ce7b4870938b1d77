/-
  DERIVED. GIVEN WITH THE SEED: THE CARDS: each row of YtpjcdfinlclhoaaGreatDoorRows.lean that lists a variable, with what it lists TIED to the program's text (the seventh form; the later family's looks); each row that meets fmt, with fmt's text TOLD by the authors' own Lean function (tested against real Go, not proved from fmt's source: count such statements apart). THE CARD IS WHAT COUNTS. Prove the row's statement (the work); the ties are given (YtpjcdfinlclhoaaGreatDoorTie.lean); close each card by the builder's one call (the guide's Derived/Test/ToyasCard.lean, 'card_holds'). Laid BY PROGRAM, IN A SANDBOX (cutbox-door.mjs). By AI agents, Wed Nov 11 2026. No macro, syntax, notation, axiom, sorry.
-/
import Derived.Test.YtpjcdfinlclhoaaGreatDoorRows
import GoSem.ClaimSeven
namespace Go.Proofs.YtpjcdfinlclhoaaGreatDoor
namespace Rows

/-- THE TIED CARD OF 'halftonelaw16.PngNil'. -/
def pngNilCard : Claim7 := { stood := { row := pngNilRow, standIns := [], harness := (true, "7bb1fc518cc0dbd42651e2c798c94da1d5dc71e32bf70748ed46f0ecc7dff143"), looks := false }, kinds := [], alts := [], laidByText := true, laidKinds := [.data, .data, .data], laidTests := true, laidLooks := .later }
def PngNilCardSaid : Prop := Claim7.holds Tryz.pinned (.plain (OpenSpec.ofChange pngNilSpec)) pngNilCard

/-- THE SECOND FORM's CARD OF 'halftonelaw16.PngNil'. -/
def pngNilUptoCard : Claim7 := { stood := { row := pngNilUptoRow, standIns := [], harness := (true, "7bb1fc518cc0dbd42651e2c798c94da1d5dc71e32bf70748ed46f0ecc7dff143"), looks := false }, kinds := [], alts := [], laidByText := true, laidKinds := [.data, .data, .data], laidTests := true, laidLooks := .later }
def PngNilUptoCardSaid : Prop := Claim7.holds Tryz.pinned (.plain (OpenSpec.upto pngNilSpec)) pngNilUptoCard
end Rows
end Go.Proofs.YtpjcdfinlclhoaaGreatDoor
