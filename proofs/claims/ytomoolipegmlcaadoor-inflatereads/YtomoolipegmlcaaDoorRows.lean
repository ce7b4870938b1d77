/-
  NARROWER THAN 'FOR EVERY INPUT', by the rows' own cells (each row's printed sentence says how): InflateReads: laid · InflateCuts: laid · InflateBehind: laid · InflateStored: laid · InflateBegins: laid · InflateNil: laid.
  DERIVED. THE GIVEN ROWS OF THIS SEAT. 6 by the template 'for every input the law returns true; each argument reads behind the call as it read before'; 0 by the template 'total and deterministic' (their statements: YtomoolipegmlcaaDoorTotals.lean).
  GIVEN WITH THE SEED: the statements are not yours to turn. If you find one false, say at which input.
  Laid BY PROGRAM, IN A SANDBOX (cutbox-rows.mjs): the forced cells as the released guide's own fill.sh prints them over the translation 916261c65a824f01… (all of the seat's roots in one cut). By AI agents, Wed Nov 11 2026. No macro, syntax, notation, axiom, sorry.
-/
import Derived.Test.YtomoolipegmlcaaDoorChecked
import GoSem.Claim
import GoSem.ClaimJoined
import GoSem.ClaimMapViews
import Derived.JoinedTies
import Derived.KernelRfl
namespace Go.Proofs.YtomoolipegmlcaaDoor
/- THE CELL 'sum', in the pinned program and in every row, IS THE sha256 OF THE DUMP (.gsa) THAT YtomoolipegmlcaaDoorProg.lean LOADS. Nothing in Lean hashes anything: it is a label: what it is worth is what the hold of that sum in a sandbox is worth. -/
noncomputable def Tryd.pinned : Pinned := { name := "ytomoolipegmlcaadoor", sum := "916261c65a824f01901b2ba999909b264a4f94781132d543fcc1882181a31d50", checked := Tryd.checked }
namespace Rows
def none {H : Type} : Left H := { results := [], args := [] }

/- WHAT THE LISTED PACKAGE-LEVEL VARIABLES READ AS WHEN THE CALL BEGINS. Each datum BY PROGRAM (the guide's laid-datum.mjs) off the statement by which the dump's own 'gosem.cut.vars' lays the variable. In a bare row this is a premise. The card (YtomoolipegmlcaaDoorCards.lean) ties it to the program's text. -/
def laid_halftone_inflate_codeOrder {H : Type} : DataW H := .agg [.lit (.int .i64 16), .lit (.int .i64 17), .lit (.int .i64 18), .lit (.int .i64 0), .lit (.int .i64 8), .lit (.int .i64 7), .lit (.int .i64 9), .lit (.int .i64 6), .lit (.int .i64 10), .lit (.int .i64 5), .lit (.int .i64 11), .lit (.int .i64 4), .lit (.int .i64 12), .lit (.int .i64 3), .lit (.int .i64 13), .lit (.int .i64 2), .lit (.int .i64 14), .lit (.int .i64 1), .lit (.int .i64 15)]

/-- 'halftonelaw06.InflateReads': WHATEVER THE INPUT: true; the input reads as it did. -/
def inflateReadsSpec : ChangeSpec := { name := "inflateReads", fn := fun _ => fun
  | [d1, d2, d3] => { results := [.lit (.bool true)], args := [d1, d2, d3] }
  | _ => none }
def inflateReadsRow : OpenClaim := { program := "ytomoolipegmlcaadoor", sum := "916261c65a824f01901b2ba999909b264a4f94781132d543fcc1882181a31d50", func := "halftone/halftonelaw06.InflateReads", spec := "inflateReads", unfollowed := true, recurses := true, named := ["halftone/inflate.codeOrder"], plainKeys := false, apart := false, laid := [("halftone/inflate.codeOrder", laid_halftone_inflate_codeOrder)] }
def InflateReadsSaid : Prop := inflateReadsRow.holds Tryd.pinned (OpenSpec.ofChange inflateReadsSpec)

/-- ITS FALSE NEIGHBOUR: 'it returns false'. Refute it at one input. -/
def inflateReadsWrong : ChangeSpec := { name := "inflateReads", fn := fun _ => fun
  | [d1, d2, d3] => { results := [.lit (.bool false)], args := [d1, d2, d3] }
  | _ => none }
def InflateReadsWrongFalsely : Prop := inflateReadsRow.holds Tryd.pinned (OpenSpec.ofChange inflateReadsWrong)

/-- 'halftonelaw06.InflateCuts': WHATEVER THE INPUT: true; the input reads as it did. -/
def inflateCutsSpec : ChangeSpec := { name := "inflateCuts", fn := fun _ => fun
  | [d1, d2, d3] => { results := [.lit (.bool true)], args := [d1, d2, d3] }
  | _ => none }
def inflateCutsRow : OpenClaim := { program := "ytomoolipegmlcaadoor", sum := "916261c65a824f01901b2ba999909b264a4f94781132d543fcc1882181a31d50", func := "halftone/halftonelaw06.InflateCuts", spec := "inflateCuts", unfollowed := true, recurses := true, named := ["halftone/inflate.codeOrder"], plainKeys := false, apart := false, laid := [("halftone/inflate.codeOrder", laid_halftone_inflate_codeOrder)] }
def InflateCutsSaid : Prop := inflateCutsRow.holds Tryd.pinned (OpenSpec.ofChange inflateCutsSpec)

/-- ITS FALSE NEIGHBOUR: 'it returns false'. Refute it at one input. -/
def inflateCutsWrong : ChangeSpec := { name := "inflateCuts", fn := fun _ => fun
  | [d1, d2, d3] => { results := [.lit (.bool false)], args := [d1, d2, d3] }
  | _ => none }
def InflateCutsWrongFalsely : Prop := inflateCutsRow.holds Tryd.pinned (OpenSpec.ofChange inflateCutsWrong)

/-- 'halftonelaw06.InflateBehind': WHATEVER THE INPUT: true; the input reads as it did. -/
def inflateBehindSpec : ChangeSpec := { name := "inflateBehind", fn := fun _ => fun
  | [d1, d2] => { results := [.lit (.bool true)], args := [d1, d2] }
  | _ => none }
def inflateBehindRow : OpenClaim := { program := "ytomoolipegmlcaadoor", sum := "916261c65a824f01901b2ba999909b264a4f94781132d543fcc1882181a31d50", func := "halftone/halftonelaw06.InflateBehind", spec := "inflateBehind", unfollowed := true, recurses := true, named := ["halftone/inflate.codeOrder"], plainKeys := false, apart := false, laid := [("halftone/inflate.codeOrder", laid_halftone_inflate_codeOrder)] }
def InflateBehindSaid : Prop := inflateBehindRow.holds Tryd.pinned (OpenSpec.ofChange inflateBehindSpec)

/-- ITS FALSE NEIGHBOUR: 'it returns false'. Refute it at one input. -/
def inflateBehindWrong : ChangeSpec := { name := "inflateBehind", fn := fun _ => fun
  | [d1, d2] => { results := [.lit (.bool false)], args := [d1, d2] }
  | _ => none }
def InflateBehindWrongFalsely : Prop := inflateBehindRow.holds Tryd.pinned (OpenSpec.ofChange inflateBehindWrong)

/-- 'halftonelaw06.InflateStored': WHATEVER THE INPUT: true; the input reads as it did. -/
def inflateStoredSpec : ChangeSpec := { name := "inflateStored", fn := fun _ => fun
  | [d1, d2, d3] => { results := [.lit (.bool true)], args := [d1, d2, d3] }
  | _ => none }
def inflateStoredRow : OpenClaim := { program := "ytomoolipegmlcaadoor", sum := "916261c65a824f01901b2ba999909b264a4f94781132d543fcc1882181a31d50", func := "halftone/halftonelaw06.InflateStored", spec := "inflateStored", unfollowed := true, recurses := true, named := ["halftone/inflate.codeOrder"], plainKeys := false, apart := false, laid := [("halftone/inflate.codeOrder", laid_halftone_inflate_codeOrder)] }
def InflateStoredSaid : Prop := inflateStoredRow.holds Tryd.pinned (OpenSpec.ofChange inflateStoredSpec)

/-- ITS FALSE NEIGHBOUR: 'it returns false'. Refute it at one input. -/
def inflateStoredWrong : ChangeSpec := { name := "inflateStored", fn := fun _ => fun
  | [d1, d2, d3] => { results := [.lit (.bool false)], args := [d1, d2, d3] }
  | _ => none }
def InflateStoredWrongFalsely : Prop := inflateStoredRow.holds Tryd.pinned (OpenSpec.ofChange inflateStoredWrong)

/-- 'halftonelaw06.InflateBegins': WHATEVER THE INPUT: true; the input reads as it did. -/
def inflateBeginsSpec : ChangeSpec := { name := "inflateBegins", fn := fun _ => fun
  | [d1, d2] => { results := [.lit (.bool true)], args := [d1, d2] }
  | _ => none }
def inflateBeginsRow : OpenClaim := { program := "ytomoolipegmlcaadoor", sum := "916261c65a824f01901b2ba999909b264a4f94781132d543fcc1882181a31d50", func := "halftone/halftonelaw06.InflateBegins", spec := "inflateBegins", unfollowed := true, recurses := true, named := ["halftone/inflate.codeOrder"], plainKeys := false, apart := false, laid := [("halftone/inflate.codeOrder", laid_halftone_inflate_codeOrder)] }
def InflateBeginsSaid : Prop := inflateBeginsRow.holds Tryd.pinned (OpenSpec.ofChange inflateBeginsSpec)

/-- ITS FALSE NEIGHBOUR: 'it returns false'. Refute it at one input. -/
def inflateBeginsWrong : ChangeSpec := { name := "inflateBegins", fn := fun _ => fun
  | [d1, d2] => { results := [.lit (.bool false)], args := [d1, d2] }
  | _ => none }
def InflateBeginsWrongFalsely : Prop := inflateBeginsRow.holds Tryd.pinned (OpenSpec.ofChange inflateBeginsWrong)

/-- 'halftonelaw06.InflateNil': WHATEVER THE INPUT: true; the input reads as it did. -/
def inflateNilSpec : ChangeSpec := { name := "inflateNil", fn := fun _ => fun
  | [d1, d2] => { results := [.lit (.bool true)], args := [d1, d2] }
  | _ => none }
def inflateNilRow : OpenClaim := { program := "ytomoolipegmlcaadoor", sum := "916261c65a824f01901b2ba999909b264a4f94781132d543fcc1882181a31d50", func := "halftone/halftonelaw06.InflateNil", spec := "inflateNil", unfollowed := true, recurses := true, named := ["halftone/inflate.codeOrder"], plainKeys := false, apart := false, laid := [("halftone/inflate.codeOrder", laid_halftone_inflate_codeOrder)] }
def InflateNilSaid : Prop := inflateNilRow.holds Tryd.pinned (OpenSpec.ofChange inflateNilSpec)

/-- ITS FALSE NEIGHBOUR: 'it returns false'. Refute it at one input. -/
def inflateNilWrong : ChangeSpec := { name := "inflateNil", fn := fun _ => fun
  | [d1, d2] => { results := [.lit (.bool false)], args := [d1, d2] }
  | _ => none }
def InflateNilWrongFalsely : Prop := inflateNilRow.holds Tryd.pinned (OpenSpec.ofChange inflateNilWrong)

/- THE SECOND FORM. 'bulk': how many values and letters a reading holds, each counted each time it is reached (what is shared counts as often as it is met; a slice's spare places count too). A statement '..UptoSaid' is the law's where the arguments, and the package variables that the reading takes, are together of bulk at most 1048576: NARROWER than '..Said'. Prove '..Said' where nothing that the law and all that it calls make is longer than what came in: it says more and counts as full. Else prove '..UptoSaid'. A law counts once. -/
mutual
def uptoBulk {H : Type} : DataW H → Nat
  | .lit (.string bytes) => bytes.length + 1
  | .lit _ => 1
  | .nil => 1
  | .ptr d => uptoBulk d + 1
  | .slice elems spare => uptoBulkAll elems + uptoBulkAll spare + 1
  | .agg parts => uptoBulkAll parts + 1
  | .iface _ d => uptoBulk d + 1
  | .map entries => uptoBulkEntries entries + 1
  | .held _ => 1
def uptoBulkAll {H : Type} : List (DataW H) → Nat
  | [] => 0
  | d :: r => uptoBulk d + uptoBulkAll r
def uptoBulkEntries {H : Type} : List (Lit × DataW H) → Nat
  | [] => 0
  | x :: r => uptoBulkEntry x + uptoBulkEntries r
def uptoBulkEntry {H : Type} : Lit × DataW H → Nat
  | (.string bytes, d) => bytes.length + uptoBulk d + 1
  | (_, d) => uptoBulk d + 1
 end
def uptoSmall : (H : Type) → List (DataW H) → Bool := fun _ ds => decide (uptoBulkAll ds ≤ 1048576)
def OpenSpec.upto (s : _root_.Go.ChangeSpec) : _root_.Go.OpenSpec := { _root_.Go.OpenSpec.ofChange s with cond := some uptoSmall }

/-- 'halftonelaw06.InflateReads', WHERE WHAT IT READS IS OF BULK AT MOST 1048576: true; the input reads as it did. -/
def inflateReadsUptoRow : OpenClaim := { program := "ytomoolipegmlcaadoor", sum := "916261c65a824f01901b2ba999909b264a4f94781132d543fcc1882181a31d50", func := "halftone/halftonelaw06.InflateReads", spec := "inflateReads", unfollowed := true, recurses := true, named := ["halftone/inflate.codeOrder"], plainKeys := false, apart := false, laid := [("halftone/inflate.codeOrder", laid_halftone_inflate_codeOrder)], narrowed := true }
def InflateReadsUptoSaid : Prop := inflateReadsUptoRow.holds Tryd.pinned (OpenSpec.upto inflateReadsSpec)

/-- 'halftonelaw06.InflateCuts', WHERE WHAT IT READS IS OF BULK AT MOST 1048576: true; the input reads as it did. -/
def inflateCutsUptoRow : OpenClaim := { program := "ytomoolipegmlcaadoor", sum := "916261c65a824f01901b2ba999909b264a4f94781132d543fcc1882181a31d50", func := "halftone/halftonelaw06.InflateCuts", spec := "inflateCuts", unfollowed := true, recurses := true, named := ["halftone/inflate.codeOrder"], plainKeys := false, apart := false, laid := [("halftone/inflate.codeOrder", laid_halftone_inflate_codeOrder)], narrowed := true }
def InflateCutsUptoSaid : Prop := inflateCutsUptoRow.holds Tryd.pinned (OpenSpec.upto inflateCutsSpec)

/-- 'halftonelaw06.InflateBehind', WHERE WHAT IT READS IS OF BULK AT MOST 1048576: true; the input reads as it did. -/
def inflateBehindUptoRow : OpenClaim := { program := "ytomoolipegmlcaadoor", sum := "916261c65a824f01901b2ba999909b264a4f94781132d543fcc1882181a31d50", func := "halftone/halftonelaw06.InflateBehind", spec := "inflateBehind", unfollowed := true, recurses := true, named := ["halftone/inflate.codeOrder"], plainKeys := false, apart := false, laid := [("halftone/inflate.codeOrder", laid_halftone_inflate_codeOrder)], narrowed := true }
def InflateBehindUptoSaid : Prop := inflateBehindUptoRow.holds Tryd.pinned (OpenSpec.upto inflateBehindSpec)

/-- 'halftonelaw06.InflateStored', WHERE WHAT IT READS IS OF BULK AT MOST 1048576: true; the input reads as it did. -/
def inflateStoredUptoRow : OpenClaim := { program := "ytomoolipegmlcaadoor", sum := "916261c65a824f01901b2ba999909b264a4f94781132d543fcc1882181a31d50", func := "halftone/halftonelaw06.InflateStored", spec := "inflateStored", unfollowed := true, recurses := true, named := ["halftone/inflate.codeOrder"], plainKeys := false, apart := false, laid := [("halftone/inflate.codeOrder", laid_halftone_inflate_codeOrder)], narrowed := true }
def InflateStoredUptoSaid : Prop := inflateStoredUptoRow.holds Tryd.pinned (OpenSpec.upto inflateStoredSpec)

/-- 'halftonelaw06.InflateBegins', WHERE WHAT IT READS IS OF BULK AT MOST 1048576: true; the input reads as it did. -/
def inflateBeginsUptoRow : OpenClaim := { program := "ytomoolipegmlcaadoor", sum := "916261c65a824f01901b2ba999909b264a4f94781132d543fcc1882181a31d50", func := "halftone/halftonelaw06.InflateBegins", spec := "inflateBegins", unfollowed := true, recurses := true, named := ["halftone/inflate.codeOrder"], plainKeys := false, apart := false, laid := [("halftone/inflate.codeOrder", laid_halftone_inflate_codeOrder)], narrowed := true }
def InflateBeginsUptoSaid : Prop := inflateBeginsUptoRow.holds Tryd.pinned (OpenSpec.upto inflateBeginsSpec)

/-- 'halftonelaw06.InflateNil', WHERE WHAT IT READS IS OF BULK AT MOST 1048576: true; the input reads as it did. -/
def inflateNilUptoRow : OpenClaim := { program := "ytomoolipegmlcaadoor", sum := "916261c65a824f01901b2ba999909b264a4f94781132d543fcc1882181a31d50", func := "halftone/halftonelaw06.InflateNil", spec := "inflateNil", unfollowed := true, recurses := true, named := ["halftone/inflate.codeOrder"], plainKeys := false, apart := false, laid := [("halftone/inflate.codeOrder", laid_halftone_inflate_codeOrder)], narrowed := true }
def InflateNilUptoSaid : Prop := inflateNilUptoRow.holds Tryd.pinned (OpenSpec.upto inflateNilSpec)

end Rows
end Go.Proofs.YtomoolipegmlcaaDoor
