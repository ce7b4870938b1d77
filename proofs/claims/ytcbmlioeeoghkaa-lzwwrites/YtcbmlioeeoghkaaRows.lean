/-
  No cell of these rows narrows 'for every input' (looked for: loops, veiled, ifaces, maps, wideKeys, modest, calm, conditions, laid).
  DERIVED. THE GIVEN ROWS OF THIS SEAT. 6 by the template 'for every input the law returns true; each argument reads behind the call as it read before'; 0 by the template 'total and deterministic' (their statements: YtcbmlioeeoghkaaTotals.lean).
  GIVEN WITH THE SEED: the statements are not yours to turn. If you find one false, say at which input.
  Laid BY PROGRAM, IN A SANDBOX (cutbox-rows.mjs): the forced cells as the released guide's own fill.sh prints them over the translation 1ccad18613272bc6… (all of the seat's roots in one cut). By AI agents, Wed Nov 11 2026. No macro, syntax, notation, axiom, sorry.
-/
import Derived.Test.YtcbmlioeeoghkaaChecked
import GoSem.Claim
import GoSem.ClaimJoined
import GoSem.ClaimMapViews
import Derived.JoinedTies
import Derived.KernelRfl
namespace Go.Proofs.Ytcbmlioeeoghkaa
/- THE CELL 'sum', in the pinned program and in every row, IS THE sha256 OF THE DUMP (.gsa) THAT YtcbmlioeeoghkaaProg.lean LOADS. Nothing in Lean hashes anything: it is a label: what it is worth is what the hold of that sum in a sandbox is worth. -/
noncomputable def Try.pinned : Pinned := { name := "ytcbmlioeeoghkaa", sum := "1ccad18613272bc648ad0d594d4f57273088c2ae0d5044b100011d29ad70a777", checked := Try.checked }
namespace Rows
def none {H : Type} : Left H := { results := [], args := [] }

/-- 'halftonelaw09.LzwReads': WHATEVER THE INPUT: true; the input reads as it did. -/
def lzwReadsSpec : ChangeSpec := { name := "lzwReads", fn := fun _ => fun
  | [d1, d2, d3, d4] => { results := [.lit (.bool true)], args := [d1, d2, d3, d4] }
  | _ => none }
def lzwReadsRow : OpenClaim := { program := "ytcbmlioeeoghkaa", sum := "1ccad18613272bc648ad0d594d4f57273088c2ae0d5044b100011d29ad70a777", func := "halftone/halftonelaw09.LzwReads", spec := "lzwReads", unfollowed := true, recurses := true, plainKeys := false, apart := false }
def LzwReadsSaid : Prop := lzwReadsRow.holds Try.pinned (OpenSpec.ofChange lzwReadsSpec)

/-- ITS FALSE NEIGHBOUR: 'it returns false'. Refute it at one input. -/
def lzwReadsWrong : ChangeSpec := { name := "lzwReads", fn := fun _ => fun
  | [d1, d2, d3, d4] => { results := [.lit (.bool false)], args := [d1, d2, d3, d4] }
  | _ => none }
def LzwReadsWrongFalsely : Prop := lzwReadsRow.holds Try.pinned (OpenSpec.ofChange lzwReadsWrong)

/-- 'halftonelaw09.LzwCuts': WHATEVER THE INPUT: true; the input reads as it did. -/
def lzwCutsSpec : ChangeSpec := { name := "lzwCuts", fn := fun _ => fun
  | [d1, d2, d3, d4] => { results := [.lit (.bool true)], args := [d1, d2, d3, d4] }
  | _ => none }
def lzwCutsRow : OpenClaim := { program := "ytcbmlioeeoghkaa", sum := "1ccad18613272bc648ad0d594d4f57273088c2ae0d5044b100011d29ad70a777", func := "halftone/halftonelaw09.LzwCuts", spec := "lzwCuts", unfollowed := true, recurses := true, plainKeys := false, apart := false }
def LzwCutsSaid : Prop := lzwCutsRow.holds Try.pinned (OpenSpec.ofChange lzwCutsSpec)

/-- ITS FALSE NEIGHBOUR: 'it returns false'. Refute it at one input. -/
def lzwCutsWrong : ChangeSpec := { name := "lzwCuts", fn := fun _ => fun
  | [d1, d2, d3, d4] => { results := [.lit (.bool false)], args := [d1, d2, d3, d4] }
  | _ => none }
def LzwCutsWrongFalsely : Prop := lzwCutsRow.holds Try.pinned (OpenSpec.ofChange lzwCutsWrong)

/-- 'halftonelaw09.LzwWrites': WHATEVER THE INPUT: true; the input reads as it did. -/
def lzwWritesSpec : ChangeSpec := { name := "lzwWrites", fn := fun _ => fun
  | [d1, d2, d3] => { results := [.lit (.bool true)], args := [d1, d2, d3] }
  | _ => none }
def lzwWritesRow : OpenClaim := { program := "ytcbmlioeeoghkaa", sum := "1ccad18613272bc648ad0d594d4f57273088c2ae0d5044b100011d29ad70a777", func := "halftone/halftonelaw09.LzwWrites", spec := "lzwWrites", unfollowed := true, recurses := true, plainKeys := false, apart := false }
def LzwWritesSaid : Prop := lzwWritesRow.holds Try.pinned (OpenSpec.ofChange lzwWritesSpec)

/-- ITS FALSE NEIGHBOUR: 'it returns false'. Refute it at one input. -/
def lzwWritesWrong : ChangeSpec := { name := "lzwWrites", fn := fun _ => fun
  | [d1, d2, d3] => { results := [.lit (.bool false)], args := [d1, d2, d3] }
  | _ => none }
def LzwWritesWrongFalsely : Prop := lzwWritesRow.holds Try.pinned (OpenSpec.ofChange lzwWritesWrong)

/-- 'halftonelaw09.LzwLong': WHATEVER THE INPUT: true; the input reads as it did. -/
def lzwLongSpec : ChangeSpec := { name := "lzwLong", fn := fun _ => fun
  | [d1, d2, d3, d4] => { results := [.lit (.bool true)], args := [d1, d2, d3, d4] }
  | _ => none }
def lzwLongRow : OpenClaim := { program := "ytcbmlioeeoghkaa", sum := "1ccad18613272bc648ad0d594d4f57273088c2ae0d5044b100011d29ad70a777", func := "halftone/halftonelaw09.LzwLong", spec := "lzwLong", unfollowed := true, recurses := true, plainKeys := false, apart := false }
def LzwLongSaid : Prop := lzwLongRow.holds Try.pinned (OpenSpec.ofChange lzwLongSpec)

/-- ITS FALSE NEIGHBOUR: 'it returns false'. Refute it at one input. -/
def lzwLongWrong : ChangeSpec := { name := "lzwLong", fn := fun _ => fun
  | [d1, d2, d3, d4] => { results := [.lit (.bool false)], args := [d1, d2, d3, d4] }
  | _ => none }
def LzwLongWrongFalsely : Prop := lzwLongRow.holds Try.pinned (OpenSpec.ofChange lzwLongWrong)

/-- 'halftonelaw09.LzwBack': WHATEVER THE INPUT: true; the input reads as it did. -/
def lzwBackSpec : ChangeSpec := { name := "lzwBack", fn := fun _ => fun
  | [d1, d2, d3, d4] => { results := [.lit (.bool true)], args := [d1, d2, d3, d4] }
  | _ => none }
def lzwBackRow : OpenClaim := { program := "ytcbmlioeeoghkaa", sum := "1ccad18613272bc648ad0d594d4f57273088c2ae0d5044b100011d29ad70a777", func := "halftone/halftonelaw09.LzwBack", spec := "lzwBack", unfollowed := true, recurses := true, plainKeys := false, apart := false }
def LzwBackSaid : Prop := lzwBackRow.holds Try.pinned (OpenSpec.ofChange lzwBackSpec)

/-- ITS FALSE NEIGHBOUR: 'it returns false'. Refute it at one input. -/
def lzwBackWrong : ChangeSpec := { name := "lzwBack", fn := fun _ => fun
  | [d1, d2, d3, d4] => { results := [.lit (.bool false)], args := [d1, d2, d3, d4] }
  | _ => none }
def LzwBackWrongFalsely : Prop := lzwBackRow.holds Try.pinned (OpenSpec.ofChange lzwBackWrong)

/-- 'halftonelaw09.LzwNil': WHATEVER THE INPUT: true; the input reads as it did. -/
def lzwNilSpec : ChangeSpec := { name := "lzwNil", fn := fun _ => fun
  | [d1, d2] => { results := [.lit (.bool true)], args := [d1, d2] }
  | _ => none }
def lzwNilRow : OpenClaim := { program := "ytcbmlioeeoghkaa", sum := "1ccad18613272bc648ad0d594d4f57273088c2ae0d5044b100011d29ad70a777", func := "halftone/halftonelaw09.LzwNil", spec := "lzwNil", unfollowed := true, recurses := true, plainKeys := false, apart := false }
def LzwNilSaid : Prop := lzwNilRow.holds Try.pinned (OpenSpec.ofChange lzwNilSpec)

/-- ITS FALSE NEIGHBOUR: 'it returns false'. Refute it at one input. -/
def lzwNilWrong : ChangeSpec := { name := "lzwNil", fn := fun _ => fun
  | [d1, d2] => { results := [.lit (.bool false)], args := [d1, d2] }
  | _ => none }
def LzwNilWrongFalsely : Prop := lzwNilRow.holds Try.pinned (OpenSpec.ofChange lzwNilWrong)

/- THE SECOND FORM. 'bulk': how many values and letters a reading holds, each counted each time it is reached (what is shared counts as often as it is met; a slice's spare places count too). A statement '..UptoSaid' is the law's where the arguments, and the package variables that the reading takes, are together of bulk at most 1048576: NARROWER than '..Said'. Prove '..Said' where nothing that the law and all that it calls make is longer than what came in: it says more and counts as full. Else prove '..UptoSaid'. A law counts once. -/
mutual
def uptoBulk {H : Type} : DataW H → Nat
  | .lit (.string bytes) => bytes.length + 1
  | .lit _ => 1
  | .nil => 1
  | .ptr d => uptoBulk d + 1
  | .slice elems spare => uptoBulkAll elems + uptoBulkAll spare + 1
  | .agg parts => uptoBulkAll parts + 1
  | .iface _ d => uptoBulk d + 1
  | .map entries => uptoBulkEntries entries + 1
  | .held _ => 1
def uptoBulkAll {H : Type} : List (DataW H) → Nat
  | [] => 0
  | d :: r => uptoBulk d + uptoBulkAll r
def uptoBulkEntries {H : Type} : List (Lit × DataW H) → Nat
  | [] => 0
  | x :: r => uptoBulkEntry x + uptoBulkEntries r
def uptoBulkEntry {H : Type} : Lit × DataW H → Nat
  | (.string bytes, d) => bytes.length + uptoBulk d + 1
  | (_, d) => uptoBulk d + 1
 end
def uptoSmall : (H : Type) → List (DataW H) → Bool := fun _ ds => decide (uptoBulkAll ds ≤ 1048576)
def OpenSpec.upto (s : _root_.Go.ChangeSpec) : _root_.Go.OpenSpec := { _root_.Go.OpenSpec.ofChange s with cond := some uptoSmall }

/-- 'halftonelaw09.LzwReads', WHERE WHAT IT READS IS OF BULK AT MOST 1048576: true; the input reads as it did. -/
def lzwReadsUptoRow : OpenClaim := { program := "ytcbmlioeeoghkaa", sum := "1ccad18613272bc648ad0d594d4f57273088c2ae0d5044b100011d29ad70a777", func := "halftone/halftonelaw09.LzwReads", spec := "lzwReads", unfollowed := true, recurses := true, plainKeys := false, apart := false, narrowed := true }
def LzwReadsUptoSaid : Prop := lzwReadsUptoRow.holds Try.pinned (OpenSpec.upto lzwReadsSpec)

/-- 'halftonelaw09.LzwCuts', WHERE WHAT IT READS IS OF BULK AT MOST 1048576: true; the input reads as it did. -/
def lzwCutsUptoRow : OpenClaim := { program := "ytcbmlioeeoghkaa", sum := "1ccad18613272bc648ad0d594d4f57273088c2ae0d5044b100011d29ad70a777", func := "halftone/halftonelaw09.LzwCuts", spec := "lzwCuts", unfollowed := true, recurses := true, plainKeys := false, apart := false, narrowed := true }
def LzwCutsUptoSaid : Prop := lzwCutsUptoRow.holds Try.pinned (OpenSpec.upto lzwCutsSpec)

/-- 'halftonelaw09.LzwWrites', WHERE WHAT IT READS IS OF BULK AT MOST 1048576: true; the input reads as it did. -/
def lzwWritesUptoRow : OpenClaim := { program := "ytcbmlioeeoghkaa", sum := "1ccad18613272bc648ad0d594d4f57273088c2ae0d5044b100011d29ad70a777", func := "halftone/halftonelaw09.LzwWrites", spec := "lzwWrites", unfollowed := true, recurses := true, plainKeys := false, apart := false, narrowed := true }
def LzwWritesUptoSaid : Prop := lzwWritesUptoRow.holds Try.pinned (OpenSpec.upto lzwWritesSpec)

/-- 'halftonelaw09.LzwLong', WHERE WHAT IT READS IS OF BULK AT MOST 1048576: true; the input reads as it did. -/
def lzwLongUptoRow : OpenClaim := { program := "ytcbmlioeeoghkaa", sum := "1ccad18613272bc648ad0d594d4f57273088c2ae0d5044b100011d29ad70a777", func := "halftone/halftonelaw09.LzwLong", spec := "lzwLong", unfollowed := true, recurses := true, plainKeys := false, apart := false, narrowed := true }
def LzwLongUptoSaid : Prop := lzwLongUptoRow.holds Try.pinned (OpenSpec.upto lzwLongSpec)

/-- 'halftonelaw09.LzwBack', WHERE WHAT IT READS IS OF BULK AT MOST 1048576: true; the input reads as it did. -/
def lzwBackUptoRow : OpenClaim := { program := "ytcbmlioeeoghkaa", sum := "1ccad18613272bc648ad0d594d4f57273088c2ae0d5044b100011d29ad70a777", func := "halftone/halftonelaw09.LzwBack", spec := "lzwBack", unfollowed := true, recurses := true, plainKeys := false, apart := false, narrowed := true }
def LzwBackUptoSaid : Prop := lzwBackUptoRow.holds Try.pinned (OpenSpec.upto lzwBackSpec)

/-- 'halftonelaw09.LzwNil', WHERE WHAT IT READS IS OF BULK AT MOST 1048576: true; the input reads as it did. -/
def lzwNilUptoRow : OpenClaim := { program := "ytcbmlioeeoghkaa", sum := "1ccad18613272bc648ad0d594d4f57273088c2ae0d5044b100011d29ad70a777", func := "halftone/halftonelaw09.LzwNil", spec := "lzwNil", unfollowed := true, recurses := true, plainKeys := false, apart := false, narrowed := true }
def LzwNilUptoSaid : Prop := lzwNilUptoRow.holds Try.pinned (OpenSpec.upto lzwNilSpec)

end Rows
end Go.Proofs.Ytcbmlioeeoghkaa
