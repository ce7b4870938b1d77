/-
  DERIVED. GIVEN WITH THE SEED: THE CARDS: each row of YtomoolipegmlcaaDoorRows.lean that lists a variable, with what it lists TIED to the program's text (the seventh form; the later family's looks); each row that meets fmt, with fmt's text TOLD by the authors' own Lean function (tested against real Go, not proved from fmt's source: count such statements apart). THE CARD IS WHAT COUNTS. Prove the row's statement (the work); the ties are given (YtomoolipegmlcaaDoorTie.lean); close each card by the builder's one call (the guide's Derived/Test/ToyasCard.lean, 'card_holds'). Laid BY PROGRAM, IN A SANDBOX (cutbox-door.mjs). By AI agents, Wed Nov 11 2026. No macro, syntax, notation, axiom, sorry.
-/
import Derived.Test.YtomoolipegmlcaaDoorRows
import GoSem.ClaimSeven
namespace Go.Proofs.YtomoolipegmlcaaDoor
namespace Rows

/-- THE TIED CARD OF 'halftonelaw06.InflateReads'. -/
def inflateReadsCard : Claim7 := { stood := { row := inflateReadsRow, standIns := [], harness := (true, "3bbc923cae91fa847a0ea062da24283953d88e6f60eb91da0eeee2b5450162b7"), looks := false }, kinds := [], alts := [], laidByText := true, laidKinds := [.data], laidTests := true, laidLooks := .later }
def InflateReadsCardSaid : Prop := Claim7.holds Tryd.pinned (.plain (OpenSpec.ofChange inflateReadsSpec)) inflateReadsCard

/-- THE TIED CARD OF 'halftonelaw06.InflateCuts'. -/
def inflateCutsCard : Claim7 := { stood := { row := inflateCutsRow, standIns := [], harness := (true, "3bbc923cae91fa847a0ea062da24283953d88e6f60eb91da0eeee2b5450162b7"), looks := false }, kinds := [], alts := [], laidByText := true, laidKinds := [.data], laidTests := true, laidLooks := .later }
def InflateCutsCardSaid : Prop := Claim7.holds Tryd.pinned (.plain (OpenSpec.ofChange inflateCutsSpec)) inflateCutsCard

/-- THE TIED CARD OF 'halftonelaw06.InflateBehind'. -/
def inflateBehindCard : Claim7 := { stood := { row := inflateBehindRow, standIns := [], harness := (true, "3bbc923cae91fa847a0ea062da24283953d88e6f60eb91da0eeee2b5450162b7"), looks := false }, kinds := [], alts := [], laidByText := true, laidKinds := [.data], laidTests := true, laidLooks := .later }
def InflateBehindCardSaid : Prop := Claim7.holds Tryd.pinned (.plain (OpenSpec.ofChange inflateBehindSpec)) inflateBehindCard

/-- THE TIED CARD OF 'halftonelaw06.InflateStored'. -/
def inflateStoredCard : Claim7 := { stood := { row := inflateStoredRow, standIns := [], harness := (true, "3bbc923cae91fa847a0ea062da24283953d88e6f60eb91da0eeee2b5450162b7"), looks := false }, kinds := [], alts := [], laidByText := true, laidKinds := [.data], laidTests := true, laidLooks := .later }
def InflateStoredCardSaid : Prop := Claim7.holds Tryd.pinned (.plain (OpenSpec.ofChange inflateStoredSpec)) inflateStoredCard

/-- THE TIED CARD OF 'halftonelaw06.InflateBegins'. -/
def inflateBeginsCard : Claim7 := { stood := { row := inflateBeginsRow, standIns := [], harness := (true, "3bbc923cae91fa847a0ea062da24283953d88e6f60eb91da0eeee2b5450162b7"), looks := false }, kinds := [], alts := [], laidByText := true, laidKinds := [.data], laidTests := true, laidLooks := .later }
def InflateBeginsCardSaid : Prop := Claim7.holds Tryd.pinned (.plain (OpenSpec.ofChange inflateBeginsSpec)) inflateBeginsCard

/-- THE TIED CARD OF 'halftonelaw06.InflateNil'. -/
def inflateNilCard : Claim7 := { stood := { row := inflateNilRow, standIns := [], harness := (true, "3bbc923cae91fa847a0ea062da24283953d88e6f60eb91da0eeee2b5450162b7"), looks := false }, kinds := [], alts := [], laidByText := true, laidKinds := [.data], laidTests := true, laidLooks := .later }
def InflateNilCardSaid : Prop := Claim7.holds Tryd.pinned (.plain (OpenSpec.ofChange inflateNilSpec)) inflateNilCard

/-- THE SECOND FORM's CARD OF 'halftonelaw06.InflateReads'. -/
def inflateReadsUptoCard : Claim7 := { stood := { row := inflateReadsUptoRow, standIns := [], harness := (true, "3bbc923cae91fa847a0ea062da24283953d88e6f60eb91da0eeee2b5450162b7"), looks := false }, kinds := [], alts := [], laidByText := true, laidKinds := [.data], laidTests := true, laidLooks := .later }
def InflateReadsUptoCardSaid : Prop := Claim7.holds Tryd.pinned (.plain (OpenSpec.upto inflateReadsSpec)) inflateReadsUptoCard

/-- THE SECOND FORM's CARD OF 'halftonelaw06.InflateCuts'. -/
def inflateCutsUptoCard : Claim7 := { stood := { row := inflateCutsUptoRow, standIns := [], harness := (true, "3bbc923cae91fa847a0ea062da24283953d88e6f60eb91da0eeee2b5450162b7"), looks := false }, kinds := [], alts := [], laidByText := true, laidKinds := [.data], laidTests := true, laidLooks := .later }
def InflateCutsUptoCardSaid : Prop := Claim7.holds Tryd.pinned (.plain (OpenSpec.upto inflateCutsSpec)) inflateCutsUptoCard

/-- THE SECOND FORM's CARD OF 'halftonelaw06.InflateBehind'. -/
def inflateBehindUptoCard : Claim7 := { stood := { row := inflateBehindUptoRow, standIns := [], harness := (true, "3bbc923cae91fa847a0ea062da24283953d88e6f60eb91da0eeee2b5450162b7"), looks := false }, kinds := [], alts := [], laidByText := true, laidKinds := [.data], laidTests := true, laidLooks := .later }
def InflateBehindUptoCardSaid : Prop := Claim7.holds Tryd.pinned (.plain (OpenSpec.upto inflateBehindSpec)) inflateBehindUptoCard

/-- THE SECOND FORM's CARD OF 'halftonelaw06.InflateStored'. -/
def inflateStoredUptoCard : Claim7 := { stood := { row := inflateStoredUptoRow, standIns := [], harness := (true, "3bbc923cae91fa847a0ea062da24283953d88e6f60eb91da0eeee2b5450162b7"), looks := false }, kinds := [], alts := [], laidByText := true, laidKinds := [.data], laidTests := true, laidLooks := .later }
def InflateStoredUptoCardSaid : Prop := Claim7.holds Tryd.pinned (.plain (OpenSpec.upto inflateStoredSpec)) inflateStoredUptoCard

/-- THE SECOND FORM's CARD OF 'halftonelaw06.InflateBegins'. -/
def inflateBeginsUptoCard : Claim7 := { stood := { row := inflateBeginsUptoRow, standIns := [], harness := (true, "3bbc923cae91fa847a0ea062da24283953d88e6f60eb91da0eeee2b5450162b7"), looks := false }, kinds := [], alts := [], laidByText := true, laidKinds := [.data], laidTests := true, laidLooks := .later }
def InflateBeginsUptoCardSaid : Prop := Claim7.holds Tryd.pinned (.plain (OpenSpec.upto inflateBeginsSpec)) inflateBeginsUptoCard

/-- THE SECOND FORM's CARD OF 'halftonelaw06.InflateNil'. -/
def inflateNilUptoCard : Claim7 := { stood := { row := inflateNilUptoRow, standIns := [], harness := (true, "3bbc923cae91fa847a0ea062da24283953d88e6f60eb91da0eeee2b5450162b7"), looks := false }, kinds := [], alts := [], laidByText := true, laidKinds := [.data], laidTests := true, laidLooks := .later }
def InflateNilUptoCardSaid : Prop := Claim7.holds Tryd.pinned (.plain (OpenSpec.upto inflateNilSpec)) inflateNilUptoCard
end Rows
end Go.Proofs.YtomoolipegmlcaaDoor
