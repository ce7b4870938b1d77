/-
  DERIVED. GIVEN WITH THE SEED: THE CARDS: each row of YtloagniacjfkfaaGreatDoorRows.lean that lists a variable, with what it lists TIED to the program's text (the seventh form; the later family's looks); each row that meets fmt, with fmt's text TOLD by the authors' own Lean function (tested against real Go, not proved from fmt's source: count such statements apart). THE CARD IS WHAT COUNTS. Prove the row's statement (the work); the ties are given (YtloagniacjfkfaaGreatDoorTie.lean); close each card by the builder's one call (the guide's Derived/Test/ToyasCard.lean, 'card_holds'). Laid BY PROGRAM, IN A SANDBOX (cutbox-door.mjs). By AI agents, Wed Nov 11 2026. No macro, syntax, notation, axiom, sorry.
-/
import Derived.Test.YtloagniacjfkfaaGreatDoorRows
import GoSem.ClaimSeven
namespace Go.Proofs.YtloagniacjfkfaaGreatDoor
namespace Rows

/-- THE TIED CARD OF 'halftonelaw08.ZlibReads'. -/
def zlibReadsCard : Claim7 := { stood := { row := zlibReadsRow, standIns := [], harness := (true, "1b6745c917928f840ef7f9d42b89d4f280899e758b0695c6773b777147eb66a7"), looks := false }, kinds := [], alts := [], laidByText := true, laidKinds := [.data, .data, .data], laidTests := true, laidLooks := .later }
def ZlibReadsCardSaid : Prop := Claim7.holds Tryz.pinned (.plain (OpenSpec.ofChange zlibReadsSpec)) zlibReadsCard

/-- THE TIED CARD OF 'halftonelaw08.ZlibCuts'. -/
def zlibCutsCard : Claim7 := { stood := { row := zlibCutsRow, standIns := [], harness := (true, "1b6745c917928f840ef7f9d42b89d4f280899e758b0695c6773b777147eb66a7"), looks := false }, kinds := [], alts := [], laidByText := true, laidKinds := [.data, .data, .data], laidTests := true, laidLooks := .later }
def ZlibCutsCardSaid : Prop := Claim7.holds Tryz.pinned (.plain (OpenSpec.ofChange zlibCutsSpec)) zlibCutsCard

/-- THE TIED CARD OF 'halftonelaw08.ZlibBack'. -/
def zlibBackCard : Claim7 := { stood := { row := zlibBackRow, standIns := [], harness := (true, "1b6745c917928f840ef7f9d42b89d4f280899e758b0695c6773b777147eb66a7"), looks := false }, kinds := [], alts := [], laidByText := true, laidKinds := [.data, .data, .data], laidTests := true, laidLooks := .later }
def ZlibBackCardSaid : Prop := Claim7.holds Tryz.pinned (.plain (OpenSpec.ofChange zlibBackSpec)) zlibBackCard

/-- THE TIED CARD OF 'halftonelaw08.ZlibFoot'. -/
def zlibFootCard : Claim7 := { stood := { row := zlibFootRow, standIns := [], harness := (true, "1b6745c917928f840ef7f9d42b89d4f280899e758b0695c6773b777147eb66a7"), looks := false }, kinds := [], alts := [], laidByText := true, laidKinds := [.data, .data, .data], laidTests := true, laidLooks := .later }
def ZlibFootCardSaid : Prop := Claim7.holds Tryz.pinned (.plain (OpenSpec.ofChange zlibFootSpec)) zlibFootCard

/-- THE TIED CARD OF 'halftonelaw08.ZlibHead'. -/
def zlibHeadCard : Claim7 := { stood := { row := zlibHeadRow, standIns := [], harness := (true, "1b6745c917928f840ef7f9d42b89d4f280899e758b0695c6773b777147eb66a7"), looks := false }, kinds := [], alts := [], laidByText := true, laidKinds := [.data, .data, .data], laidTests := true, laidLooks := .later }
def ZlibHeadCardSaid : Prop := Claim7.holds Tryz.pinned (.plain (OpenSpec.ofChange zlibHeadSpec)) zlibHeadCard

/-- THE TIED CARD OF 'halftonelaw08.ZlibNil'. -/
def zlibNilCard : Claim7 := { stood := { row := zlibNilRow, standIns := [], harness := (true, "1b6745c917928f840ef7f9d42b89d4f280899e758b0695c6773b777147eb66a7"), looks := false }, kinds := [], alts := [], laidByText := true, laidKinds := [.data, .data, .data], laidTests := true, laidLooks := .later }
def ZlibNilCardSaid : Prop := Claim7.holds Tryz.pinned (.plain (OpenSpec.ofChange zlibNilSpec)) zlibNilCard

/-- THE SECOND FORM's CARD OF 'halftonelaw08.ZlibReads'. -/
def zlibReadsUptoCard : Claim7 := { stood := { row := zlibReadsUptoRow, standIns := [], harness := (true, "1b6745c917928f840ef7f9d42b89d4f280899e758b0695c6773b777147eb66a7"), looks := false }, kinds := [], alts := [], laidByText := true, laidKinds := [.data, .data, .data], laidTests := true, laidLooks := .later }
def ZlibReadsUptoCardSaid : Prop := Claim7.holds Tryz.pinned (.plain (OpenSpec.upto zlibReadsSpec)) zlibReadsUptoCard

/-- THE SECOND FORM's CARD OF 'halftonelaw08.ZlibCuts'. -/
def zlibCutsUptoCard : Claim7 := { stood := { row := zlibCutsUptoRow, standIns := [], harness := (true, "1b6745c917928f840ef7f9d42b89d4f280899e758b0695c6773b777147eb66a7"), looks := false }, kinds := [], alts := [], laidByText := true, laidKinds := [.data, .data, .data], laidTests := true, laidLooks := .later }
def ZlibCutsUptoCardSaid : Prop := Claim7.holds Tryz.pinned (.plain (OpenSpec.upto zlibCutsSpec)) zlibCutsUptoCard

/-- THE SECOND FORM's CARD OF 'halftonelaw08.ZlibBack'. -/
def zlibBackUptoCard : Claim7 := { stood := { row := zlibBackUptoRow, standIns := [], harness := (true, "1b6745c917928f840ef7f9d42b89d4f280899e758b0695c6773b777147eb66a7"), looks := false }, kinds := [], alts := [], laidByText := true, laidKinds := [.data, .data, .data], laidTests := true, laidLooks := .later }
def ZlibBackUptoCardSaid : Prop := Claim7.holds Tryz.pinned (.plain (OpenSpec.upto zlibBackSpec)) zlibBackUptoCard

/-- THE SECOND FORM's CARD OF 'halftonelaw08.ZlibFoot'. -/
def zlibFootUptoCard : Claim7 := { stood := { row := zlibFootUptoRow, standIns := [], harness := (true, "1b6745c917928f840ef7f9d42b89d4f280899e758b0695c6773b777147eb66a7"), looks := false }, kinds := [], alts := [], laidByText := true, laidKinds := [.data, .data, .data], laidTests := true, laidLooks := .later }
def ZlibFootUptoCardSaid : Prop := Claim7.holds Tryz.pinned (.plain (OpenSpec.upto zlibFootSpec)) zlibFootUptoCard

/-- THE SECOND FORM's CARD OF 'halftonelaw08.ZlibHead'. -/
def zlibHeadUptoCard : Claim7 := { stood := { row := zlibHeadUptoRow, standIns := [], harness := (true, "1b6745c917928f840ef7f9d42b89d4f280899e758b0695c6773b777147eb66a7"), looks := false }, kinds := [], alts := [], laidByText := true, laidKinds := [.data, .data, .data], laidTests := true, laidLooks := .later }
def ZlibHeadUptoCardSaid : Prop := Claim7.holds Tryz.pinned (.plain (OpenSpec.upto zlibHeadSpec)) zlibHeadUptoCard

/-- THE SECOND FORM's CARD OF 'halftonelaw08.ZlibNil'. -/
def zlibNilUptoCard : Claim7 := { stood := { row := zlibNilUptoRow, standIns := [], harness := (true, "1b6745c917928f840ef7f9d42b89d4f280899e758b0695c6773b777147eb66a7"), looks := false }, kinds := [], alts := [], laidByText := true, laidKinds := [.data, .data, .data], laidTests := true, laidLooks := .later }
def ZlibNilUptoCardSaid : Prop := Claim7.holds Tryz.pinned (.plain (OpenSpec.upto zlibNilSpec)) zlibNilUptoCard
end Rows
end Go.Proofs.YtloagniacjfkfaaGreatDoor
