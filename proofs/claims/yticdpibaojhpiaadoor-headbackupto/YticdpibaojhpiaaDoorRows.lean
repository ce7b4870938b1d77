/-
  NARROWER THAN 'FOR EVERY INPUT', by the rows' own cells (each row's printed sentence says how): HeadMay: laid · HeadReads: laid · HeadTints: laid · HeadClears: laid · HeadWrites: laid · HeadBack: laid.
  DERIVED. THE GIVEN ROWS OF THIS SEAT. 6 by the template 'for every input the law returns true; each argument reads behind the call as it read before'; 0 by the template 'total and deterministic' (their statements: YticdpibaojhpiaaDoorTotals.lean).
  GIVEN WITH THE SEED: the statements are not yours to turn. If you find one false, say at which input.
  Laid BY PROGRAM, IN A SANDBOX (cutbox-rows.mjs): the forced cells as the released guide's own fill.sh prints them over the translation cc456f63148400f0… (all of the seat's roots in one cut). By AI agents, Wed Nov 11 2026. No macro, syntax, notation, axiom, sorry.
-/
import Derived.Test.YticdpibaojhpiaaDoorChecked
import GoSem.Claim
import GoSem.ClaimJoined
import GoSem.ClaimMapViews
import Derived.JoinedTies
import Derived.KernelRfl
namespace Go.Proofs.YticdpibaojhpiaaDoor
/- THE CELL 'sum', in the pinned program and in every row, IS THE sha256 OF THE DUMP (.gsa) THAT YticdpibaojhpiaaDoorProg.lean LOADS. Nothing in Lean hashes anything: it is a label: what it is worth is what the hold of that sum in a sandbox is worth. -/
noncomputable def Tryd.pinned : Pinned := { name := "yticdpibaojhpiaadoor", sum := "cc456f63148400f0691e575ece91f1dc4c345a69b1efeb1c539a3b9ed088f0cc", checked := Tryd.checked }
namespace Rows
def none {H : Type} : Left H := { results := [], args := [] }

/- WHAT THE LISTED PACKAGE-LEVEL VARIABLES READ AS WHEN THE CALL BEGINS. Each datum BY PROGRAM (the guide's laid-datum.mjs) off the statement by which the dump's own 'gosem.cut.vars' lays the variable. In a bare row this is a premise. The card (YticdpibaojhpiaaDoorCards.lean) ties it to the program's text. -/
def laid_halftone_head_pairs {H : Type} : DataW H := .agg [.agg [.lit (.int .i64 0), .lit (.int .i64 1)], .agg [.lit (.int .i64 0), .lit (.int .i64 2)], .agg [.lit (.int .i64 0), .lit (.int .i64 4)], .agg [.lit (.int .i64 0), .lit (.int .i64 8)], .agg [.lit (.int .i64 0), .lit (.int .i64 16)], .agg [.lit (.int .i64 2), .lit (.int .i64 8)], .agg [.lit (.int .i64 2), .lit (.int .i64 16)], .agg [.lit (.int .i64 3), .lit (.int .i64 1)], .agg [.lit (.int .i64 3), .lit (.int .i64 2)], .agg [.lit (.int .i64 3), .lit (.int .i64 4)], .agg [.lit (.int .i64 3), .lit (.int .i64 8)], .agg [.lit (.int .i64 4), .lit (.int .i64 8)], .agg [.lit (.int .i64 4), .lit (.int .i64 16)], .agg [.lit (.int .i64 6), .lit (.int .i64 8)], .agg [.lit (.int .i64 6), .lit (.int .i64 16)]]
def laid_halftone_head_sampleCount {H : Type} : DataW H := .agg [.lit (.int .i64 1), .lit (.int .i64 0), .lit (.int .i64 3), .lit (.int .i64 1), .lit (.int .i64 2), .lit (.int .i64 0), .lit (.int .i64 4)]

/-- 'halftonelaw12.HeadMay': WHATEVER THE INPUT: true; the input reads as it did. -/
def headMaySpec : ChangeSpec := { name := "headMay", fn := fun _ => fun
  | [d] => { results := [.lit (.bool true)], args := [d] }
  | _ => none }
def headMayRow : OpenClaim := { program := "yticdpibaojhpiaadoor", sum := "cc456f63148400f0691e575ece91f1dc4c345a69b1efeb1c539a3b9ed088f0cc", func := "halftone/halftonelaw12.HeadMay", spec := "headMay", named := ["halftone/head.pairs", "halftone/head.sampleCount"], apart := false, laid := [("halftone/head.pairs", laid_halftone_head_pairs), ("halftone/head.sampleCount", laid_halftone_head_sampleCount)] }
def HeadMaySaid : Prop := headMayRow.holds Tryd.pinned (OpenSpec.ofChange headMaySpec)

/-- ITS FALSE NEIGHBOUR: 'it returns false'. Refute it at one input. -/
def headMayWrong : ChangeSpec := { name := "headMay", fn := fun _ => fun
  | [d] => { results := [.lit (.bool false)], args := [d] }
  | _ => none }
def HeadMayWrongFalsely : Prop := headMayRow.holds Tryd.pinned (OpenSpec.ofChange headMayWrong)

/-- 'halftonelaw12.HeadReads': WHATEVER THE INPUT: true; the input reads as it did. -/
def headReadsSpec : ChangeSpec := { name := "headReads", fn := fun _ => fun
  | [d1, d2] => { results := [.lit (.bool true)], args := [d1, d2] }
  | _ => none }
def headReadsRow : OpenClaim := { program := "yticdpibaojhpiaadoor", sum := "cc456f63148400f0691e575ece91f1dc4c345a69b1efeb1c539a3b9ed088f0cc", func := "halftone/halftonelaw12.HeadReads", spec := "headReads", named := ["halftone/head.pairs", "halftone/head.sampleCount"], apart := false, laid := [("halftone/head.pairs", laid_halftone_head_pairs), ("halftone/head.sampleCount", laid_halftone_head_sampleCount)] }
def HeadReadsSaid : Prop := headReadsRow.holds Tryd.pinned (OpenSpec.ofChange headReadsSpec)

/-- ITS FALSE NEIGHBOUR: 'it returns false'. Refute it at one input. -/
def headReadsWrong : ChangeSpec := { name := "headReads", fn := fun _ => fun
  | [d1, d2] => { results := [.lit (.bool false)], args := [d1, d2] }
  | _ => none }
def HeadReadsWrongFalsely : Prop := headReadsRow.holds Tryd.pinned (OpenSpec.ofChange headReadsWrong)

/-- 'halftonelaw12.HeadTints': WHATEVER THE INPUT: true; the input reads as it did. -/
def headTintsSpec : ChangeSpec := { name := "headTints", fn := fun _ => fun
  | [d1, d2, d3] => { results := [.lit (.bool true)], args := [d1, d2, d3] }
  | _ => none }
def headTintsRow : OpenClaim := { program := "yticdpibaojhpiaadoor", sum := "cc456f63148400f0691e575ece91f1dc4c345a69b1efeb1c539a3b9ed088f0cc", func := "halftone/halftonelaw12.HeadTints", spec := "headTints", named := ["halftone/head.pairs", "halftone/head.sampleCount"], apart := false, laid := [("halftone/head.pairs", laid_halftone_head_pairs), ("halftone/head.sampleCount", laid_halftone_head_sampleCount)] }
def HeadTintsSaid : Prop := headTintsRow.holds Tryd.pinned (OpenSpec.ofChange headTintsSpec)

/-- ITS FALSE NEIGHBOUR: 'it returns false'. Refute it at one input. -/
def headTintsWrong : ChangeSpec := { name := "headTints", fn := fun _ => fun
  | [d1, d2, d3] => { results := [.lit (.bool false)], args := [d1, d2, d3] }
  | _ => none }
def HeadTintsWrongFalsely : Prop := headTintsRow.holds Tryd.pinned (OpenSpec.ofChange headTintsWrong)

/-- 'halftonelaw12.HeadClears': WHATEVER THE INPUT: true; the input reads as it did. -/
def headClearsSpec : ChangeSpec := { name := "headClears", fn := fun _ => fun
  | [d1, d2, d3] => { results := [.lit (.bool true)], args := [d1, d2, d3] }
  | _ => none }
def headClearsRow : OpenClaim := { program := "yticdpibaojhpiaadoor", sum := "cc456f63148400f0691e575ece91f1dc4c345a69b1efeb1c539a3b9ed088f0cc", func := "halftone/halftonelaw12.HeadClears", spec := "headClears", named := ["halftone/head.pairs", "halftone/head.sampleCount"], apart := false, laid := [("halftone/head.pairs", laid_halftone_head_pairs), ("halftone/head.sampleCount", laid_halftone_head_sampleCount)] }
def HeadClearsSaid : Prop := headClearsRow.holds Tryd.pinned (OpenSpec.ofChange headClearsSpec)

/-- ITS FALSE NEIGHBOUR: 'it returns false'. Refute it at one input. -/
def headClearsWrong : ChangeSpec := { name := "headClears", fn := fun _ => fun
  | [d1, d2, d3] => { results := [.lit (.bool false)], args := [d1, d2, d3] }
  | _ => none }
def HeadClearsWrongFalsely : Prop := headClearsRow.holds Tryd.pinned (OpenSpec.ofChange headClearsWrong)

/-- 'halftonelaw12.HeadWrites': WHATEVER THE INPUT: true; the input reads as it did. -/
def headWritesSpec : ChangeSpec := { name := "headWrites", fn := fun _ => fun
  | [d1, d2, d3] => { results := [.lit (.bool true)], args := [d1, d2, d3] }
  | _ => none }
def headWritesRow : OpenClaim := { program := "yticdpibaojhpiaadoor", sum := "cc456f63148400f0691e575ece91f1dc4c345a69b1efeb1c539a3b9ed088f0cc", func := "halftone/halftonelaw12.HeadWrites", spec := "headWrites", named := ["halftone/head.pairs", "halftone/head.sampleCount"], apart := false, laid := [("halftone/head.pairs", laid_halftone_head_pairs), ("halftone/head.sampleCount", laid_halftone_head_sampleCount)] }
def HeadWritesSaid : Prop := headWritesRow.holds Tryd.pinned (OpenSpec.ofChange headWritesSpec)

/-- ITS FALSE NEIGHBOUR: 'it returns false'. Refute it at one input. -/
def headWritesWrong : ChangeSpec := { name := "headWrites", fn := fun _ => fun
  | [d1, d2, d3] => { results := [.lit (.bool false)], args := [d1, d2, d3] }
  | _ => none }
def HeadWritesWrongFalsely : Prop := headWritesRow.holds Tryd.pinned (OpenSpec.ofChange headWritesWrong)

/-- 'halftonelaw12.HeadBack': WHATEVER THE INPUT: true; the input reads as it did. -/
def headBackSpec : ChangeSpec := { name := "headBack", fn := fun _ => fun
  | [d1, d2, d3] => { results := [.lit (.bool true)], args := [d1, d2, d3] }
  | _ => none }
def headBackRow : OpenClaim := { program := "yticdpibaojhpiaadoor", sum := "cc456f63148400f0691e575ece91f1dc4c345a69b1efeb1c539a3b9ed088f0cc", func := "halftone/halftonelaw12.HeadBack", spec := "headBack", named := ["halftone/head.pairs", "halftone/head.sampleCount"], apart := false, laid := [("halftone/head.pairs", laid_halftone_head_pairs), ("halftone/head.sampleCount", laid_halftone_head_sampleCount)] }
def HeadBackSaid : Prop := headBackRow.holds Tryd.pinned (OpenSpec.ofChange headBackSpec)

/-- ITS FALSE NEIGHBOUR: 'it returns false'. Refute it at one input. -/
def headBackWrong : ChangeSpec := { name := "headBack", fn := fun _ => fun
  | [d1, d2, d3] => { results := [.lit (.bool false)], args := [d1, d2, d3] }
  | _ => none }
def HeadBackWrongFalsely : Prop := headBackRow.holds Tryd.pinned (OpenSpec.ofChange headBackWrong)

/- THE SECOND FORM. 'bulk': how many values and letters a reading holds, each counted each time it is reached (what is shared counts as often as it is met; a slice's spare places count too). A statement '..UptoSaid' is the law's where the arguments, and the package variables that the reading takes, are together of bulk at most 1048576: NARROWER than '..Said'. Prove '..Said' where nothing that the law and all that it calls make is longer than what came in: it says more and counts as full. Else prove '..UptoSaid'. A law counts once. -/
mutual
def uptoBulk {H : Type} : DataW H → Nat
  | .lit (.string bytes) => bytes.length + 1
  | .lit _ => 1
  | .nil => 1
  | .ptr d => uptoBulk d + 1
  | .slice elems spare => uptoBulkAll elems + uptoBulkAll spare + 1
  | .agg parts => uptoBulkAll parts + 1
  | .iface _ d => uptoBulk d + 1
  | .map entries => uptoBulkEntries entries + 1
  | .held _ => 1
def uptoBulkAll {H : Type} : List (DataW H) → Nat
  | [] => 0
  | d :: r => uptoBulk d + uptoBulkAll r
def uptoBulkEntries {H : Type} : List (Lit × DataW H) → Nat
  | [] => 0
  | x :: r => uptoBulkEntry x + uptoBulkEntries r
def uptoBulkEntry {H : Type} : Lit × DataW H → Nat
  | (.string bytes, d) => bytes.length + uptoBulk d + 1
  | (_, d) => uptoBulk d + 1
 end
def uptoSmall : (H : Type) → List (DataW H) → Bool := fun _ ds => decide (uptoBulkAll ds ≤ 1048576)
def OpenSpec.upto (s : _root_.Go.ChangeSpec) : _root_.Go.OpenSpec := { _root_.Go.OpenSpec.ofChange s with cond := some uptoSmall }

/-- 'halftonelaw12.HeadMay', WHERE WHAT IT READS IS OF BULK AT MOST 1048576: true; the input reads as it did. -/
def headMayUptoRow : OpenClaim := { program := "yticdpibaojhpiaadoor", sum := "cc456f63148400f0691e575ece91f1dc4c345a69b1efeb1c539a3b9ed088f0cc", func := "halftone/halftonelaw12.HeadMay", spec := "headMay", named := ["halftone/head.pairs", "halftone/head.sampleCount"], apart := false, laid := [("halftone/head.pairs", laid_halftone_head_pairs), ("halftone/head.sampleCount", laid_halftone_head_sampleCount)], narrowed := true }
def HeadMayUptoSaid : Prop := headMayUptoRow.holds Tryd.pinned (OpenSpec.upto headMaySpec)

/-- 'halftonelaw12.HeadReads', WHERE WHAT IT READS IS OF BULK AT MOST 1048576: true; the input reads as it did. -/
def headReadsUptoRow : OpenClaim := { program := "yticdpibaojhpiaadoor", sum := "cc456f63148400f0691e575ece91f1dc4c345a69b1efeb1c539a3b9ed088f0cc", func := "halftone/halftonelaw12.HeadReads", spec := "headReads", named := ["halftone/head.pairs", "halftone/head.sampleCount"], apart := false, laid := [("halftone/head.pairs", laid_halftone_head_pairs), ("halftone/head.sampleCount", laid_halftone_head_sampleCount)], narrowed := true }
def HeadReadsUptoSaid : Prop := headReadsUptoRow.holds Tryd.pinned (OpenSpec.upto headReadsSpec)

/-- 'halftonelaw12.HeadTints', WHERE WHAT IT READS IS OF BULK AT MOST 1048576: true; the input reads as it did. -/
def headTintsUptoRow : OpenClaim := { program := "yticdpibaojhpiaadoor", sum := "cc456f63148400f0691e575ece91f1dc4c345a69b1efeb1c539a3b9ed088f0cc", func := "halftone/halftonelaw12.HeadTints", spec := "headTints", named := ["halftone/head.pairs", "halftone/head.sampleCount"], apart := false, laid := [("halftone/head.pairs", laid_halftone_head_pairs), ("halftone/head.sampleCount", laid_halftone_head_sampleCount)], narrowed := true }
def HeadTintsUptoSaid : Prop := headTintsUptoRow.holds Tryd.pinned (OpenSpec.upto headTintsSpec)

/-- 'halftonelaw12.HeadClears', WHERE WHAT IT READS IS OF BULK AT MOST 1048576: true; the input reads as it did. -/
def headClearsUptoRow : OpenClaim := { program := "yticdpibaojhpiaadoor", sum := "cc456f63148400f0691e575ece91f1dc4c345a69b1efeb1c539a3b9ed088f0cc", func := "halftone/halftonelaw12.HeadClears", spec := "headClears", named := ["halftone/head.pairs", "halftone/head.sampleCount"], apart := false, laid := [("halftone/head.pairs", laid_halftone_head_pairs), ("halftone/head.sampleCount", laid_halftone_head_sampleCount)], narrowed := true }
def HeadClearsUptoSaid : Prop := headClearsUptoRow.holds Tryd.pinned (OpenSpec.upto headClearsSpec)

/-- 'halftonelaw12.HeadWrites', WHERE WHAT IT READS IS OF BULK AT MOST 1048576: true; the input reads as it did. -/
def headWritesUptoRow : OpenClaim := { program := "yticdpibaojhpiaadoor", sum := "cc456f63148400f0691e575ece91f1dc4c345a69b1efeb1c539a3b9ed088f0cc", func := "halftone/halftonelaw12.HeadWrites", spec := "headWrites", named := ["halftone/head.pairs", "halftone/head.sampleCount"], apart := false, laid := [("halftone/head.pairs", laid_halftone_head_pairs), ("halftone/head.sampleCount", laid_halftone_head_sampleCount)], narrowed := true }
def HeadWritesUptoSaid : Prop := headWritesUptoRow.holds Tryd.pinned (OpenSpec.upto headWritesSpec)

/-- 'halftonelaw12.HeadBack', WHERE WHAT IT READS IS OF BULK AT MOST 1048576: true; the input reads as it did. -/
def headBackUptoRow : OpenClaim := { program := "yticdpibaojhpiaadoor", sum := "cc456f63148400f0691e575ece91f1dc4c345a69b1efeb1c539a3b9ed088f0cc", func := "halftone/halftonelaw12.HeadBack", spec := "headBack", named := ["halftone/head.pairs", "halftone/head.sampleCount"], apart := false, laid := [("halftone/head.pairs", laid_halftone_head_pairs), ("halftone/head.sampleCount", laid_halftone_head_sampleCount)], narrowed := true }
def HeadBackUptoSaid : Prop := headBackUptoRow.holds Tryd.pinned (OpenSpec.upto headBackSpec)

end Rows
end Go.Proofs.YticdpibaojhpiaaDoor
