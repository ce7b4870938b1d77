/-
  DERIVED. GIVEN WITH THE SEED: THE CARDS: each row of YticdpibaojhpiaaDoorRows.lean that lists a variable, with what it lists TIED to the program's text (the seventh form; the later family's looks); each row that meets fmt, with fmt's text TOLD by the authors' own Lean function (tested against real Go, not proved from fmt's source: count such statements apart). THE CARD IS WHAT COUNTS. Prove the row's statement (the work); the ties are given (YticdpibaojhpiaaDoorTie.lean); close each card by the builder's one call (the guide's Derived/Test/ToyasCard.lean, 'card_holds'). Laid BY PROGRAM, IN A SANDBOX (cutbox-door.mjs). By AI agents, Wed Nov 11 2026. No macro, syntax, notation, axiom, sorry.
-/
import Derived.Test.YticdpibaojhpiaaDoorRows
import GoSem.ClaimSeven
namespace Go.Proofs.YticdpibaojhpiaaDoor
namespace Rows

/-- THE TIED CARD OF 'halftonelaw12.HeadMay'. -/
def headMayCard : Claim7 := { stood := { row := headMayRow, standIns := [], harness := (true, "c5851212363e381677cf50b267bfbefe4ae67c613099595938641b0661f5aa6d"), looks := false }, kinds := [], alts := [], laidByText := true, laidKinds := [.data, .data], laidTests := true, laidLooks := .later }
def HeadMayCardSaid : Prop := Claim7.holds Tryd.pinned (.plain (OpenSpec.ofChange headMaySpec)) headMayCard

/-- THE TIED CARD OF 'halftonelaw12.HeadReads'. -/
def headReadsCard : Claim7 := { stood := { row := headReadsRow, standIns := [], harness := (true, "c5851212363e381677cf50b267bfbefe4ae67c613099595938641b0661f5aa6d"), looks := false }, kinds := [], alts := [], laidByText := true, laidKinds := [.data, .data], laidTests := true, laidLooks := .later }
def HeadReadsCardSaid : Prop := Claim7.holds Tryd.pinned (.plain (OpenSpec.ofChange headReadsSpec)) headReadsCard

/-- THE TIED CARD OF 'halftonelaw12.HeadTints'. -/
def headTintsCard : Claim7 := { stood := { row := headTintsRow, standIns := [], harness := (true, "c5851212363e381677cf50b267bfbefe4ae67c613099595938641b0661f5aa6d"), looks := false }, kinds := [], alts := [], laidByText := true, laidKinds := [.data, .data], laidTests := true, laidLooks := .later }
def HeadTintsCardSaid : Prop := Claim7.holds Tryd.pinned (.plain (OpenSpec.ofChange headTintsSpec)) headTintsCard

/-- THE TIED CARD OF 'halftonelaw12.HeadClears'. -/
def headClearsCard : Claim7 := { stood := { row := headClearsRow, standIns := [], harness := (true, "c5851212363e381677cf50b267bfbefe4ae67c613099595938641b0661f5aa6d"), looks := false }, kinds := [], alts := [], laidByText := true, laidKinds := [.data, .data], laidTests := true, laidLooks := .later }
def HeadClearsCardSaid : Prop := Claim7.holds Tryd.pinned (.plain (OpenSpec.ofChange headClearsSpec)) headClearsCard

/-- THE TIED CARD OF 'halftonelaw12.HeadWrites'. -/
def headWritesCard : Claim7 := { stood := { row := headWritesRow, standIns := [], harness := (true, "c5851212363e381677cf50b267bfbefe4ae67c613099595938641b0661f5aa6d"), looks := false }, kinds := [], alts := [], laidByText := true, laidKinds := [.data, .data], laidTests := true, laidLooks := .later }
def HeadWritesCardSaid : Prop := Claim7.holds Tryd.pinned (.plain (OpenSpec.ofChange headWritesSpec)) headWritesCard

/-- THE TIED CARD OF 'halftonelaw12.HeadBack'. -/
def headBackCard : Claim7 := { stood := { row := headBackRow, standIns := [], harness := (true, "c5851212363e381677cf50b267bfbefe4ae67c613099595938641b0661f5aa6d"), looks := false }, kinds := [], alts := [], laidByText := true, laidKinds := [.data, .data], laidTests := true, laidLooks := .later }
def HeadBackCardSaid : Prop := Claim7.holds Tryd.pinned (.plain (OpenSpec.ofChange headBackSpec)) headBackCard

/-- THE SECOND FORM's CARD OF 'halftonelaw12.HeadMay'. -/
def headMayUptoCard : Claim7 := { stood := { row := headMayUptoRow, standIns := [], harness := (true, "c5851212363e381677cf50b267bfbefe4ae67c613099595938641b0661f5aa6d"), looks := false }, kinds := [], alts := [], laidByText := true, laidKinds := [.data, .data], laidTests := true, laidLooks := .later }
def HeadMayUptoCardSaid : Prop := Claim7.holds Tryd.pinned (.plain (OpenSpec.upto headMaySpec)) headMayUptoCard

/-- THE SECOND FORM's CARD OF 'halftonelaw12.HeadReads'. -/
def headReadsUptoCard : Claim7 := { stood := { row := headReadsUptoRow, standIns := [], harness := (true, "c5851212363e381677cf50b267bfbefe4ae67c613099595938641b0661f5aa6d"), looks := false }, kinds := [], alts := [], laidByText := true, laidKinds := [.data, .data], laidTests := true, laidLooks := .later }
def HeadReadsUptoCardSaid : Prop := Claim7.holds Tryd.pinned (.plain (OpenSpec.upto headReadsSpec)) headReadsUptoCard

/-- THE SECOND FORM's CARD OF 'halftonelaw12.HeadTints'. -/
def headTintsUptoCard : Claim7 := { stood := { row := headTintsUptoRow, standIns := [], harness := (true, "c5851212363e381677cf50b267bfbefe4ae67c613099595938641b0661f5aa6d"), looks := false }, kinds := [], alts := [], laidByText := true, laidKinds := [.data, .data], laidTests := true, laidLooks := .later }
def HeadTintsUptoCardSaid : Prop := Claim7.holds Tryd.pinned (.plain (OpenSpec.upto headTintsSpec)) headTintsUptoCard

/-- THE SECOND FORM's CARD OF 'halftonelaw12.HeadClears'. -/
def headClearsUptoCard : Claim7 := { stood := { row := headClearsUptoRow, standIns := [], harness := (true, "c5851212363e381677cf50b267bfbefe4ae67c613099595938641b0661f5aa6d"), looks := false }, kinds := [], alts := [], laidByText := true, laidKinds := [.data, .data], laidTests := true, laidLooks := .later }
def HeadClearsUptoCardSaid : Prop := Claim7.holds Tryd.pinned (.plain (OpenSpec.upto headClearsSpec)) headClearsUptoCard

/-- THE SECOND FORM's CARD OF 'halftonelaw12.HeadWrites'. -/
def headWritesUptoCard : Claim7 := { stood := { row := headWritesUptoRow, standIns := [], harness := (true, "c5851212363e381677cf50b267bfbefe4ae67c613099595938641b0661f5aa6d"), looks := false }, kinds := [], alts := [], laidByText := true, laidKinds := [.data, .data], laidTests := true, laidLooks := .later }
def HeadWritesUptoCardSaid : Prop := Claim7.holds Tryd.pinned (.plain (OpenSpec.upto headWritesSpec)) headWritesUptoCard

/-- THE SECOND FORM's CARD OF 'halftonelaw12.HeadBack'. -/
def headBackUptoCard : Claim7 := { stood := { row := headBackUptoRow, standIns := [], harness := (true, "c5851212363e381677cf50b267bfbefe4ae67c613099595938641b0661f5aa6d"), looks := false }, kinds := [], alts := [], laidByText := true, laidKinds := [.data, .data], laidTests := true, laidLooks := .later }
def HeadBackUptoCardSaid : Prop := Claim7.holds Tryd.pinned (.plain (OpenSpec.upto headBackSpec)) headBackUptoCard
end Rows
end Go.Proofs.YticdpibaojhpiaaDoor
