/-
  NARROWER THAN 'FOR EVERY INPUT', by the rows' own cells (each row's printed sentence says how): ZlibReads: laid · ZlibCuts: laid · ZlibBack: laid · ZlibFoot: laid · ZlibHead: laid · ZlibNil: laid.
  DERIVED. THE GIVEN ROWS OF THIS SEAT. 6 by the template 'for every input the law returns true; each argument reads behind the call as it read before'; 0 by the template 'total and deterministic' (their statements: YtloagniacjfkfaaGreatDoorTotals.lean).
  GIVEN WITH THE SEED: the statements are not yours to turn. If you find one false, say at which input.
  Laid BY PROGRAM, IN A SANDBOX (cutbox-rows.mjs): the forced cells as the released guide's own fill.sh prints them over the translation c0150c365cc7ac34… (all of the seat's roots in one cut). By AI agents, Wed Nov 11 2026. No macro, syntax, notation, axiom, sorry.
-/
import Derived.Test.YtloagniacjfkfaaGreatDoorChecked
import GoSem.Claim
import GoSem.ClaimJoined
import GoSem.ClaimMapViews
import Derived.JoinedTies
import Derived.KernelRfl
namespace Go.Proofs.YtloagniacjfkfaaGreatDoor
/- THE CELL 'sum', in the pinned program and in every row, IS THE sha256 OF THE DUMP (.gsa) THAT YtloagniacjfkfaaGreatDoorProg.lean LOADS. Nothing in Lean hashes anything: it is a label: what it is worth is what the hold of that sum in a sandbox is worth. -/
noncomputable def Tryz.pinned : Pinned := { name := "ytloagniacjfkfaagreatdoor", sum := "c0150c365cc7ac343f39e174b6aab66065bba2cdea997e55b29e14157875d7ba", checked := Tryz.checked }
namespace Rows
def none {H : Type} : Left H := { results := [], args := [] }

/- WHAT THE LISTED PACKAGE-LEVEL VARIABLES READ AS WHEN THE CALL BEGINS. Each datum BY PROGRAM (the guide's laid-datum.mjs) off the statement by which the dump's own 'gosem.cut.vars' lays the variable. In a bare row this is a premise. The card (YtloagniacjfkfaaGreatDoorCards.lean) ties it to the program's text. -/
def laid_halftone_deflate_codeOrder {H : Type} : DataW H := .agg [.lit (.int .i64 16), .lit (.int .i64 17), .lit (.int .i64 18), .lit (.int .i64 0), .lit (.int .i64 8), .lit (.int .i64 7), .lit (.int .i64 9), .lit (.int .i64 6), .lit (.int .i64 10), .lit (.int .i64 5), .lit (.int .i64 11), .lit (.int .i64 4), .lit (.int .i64 12), .lit (.int .i64 3), .lit (.int .i64 13), .lit (.int .i64 2), .lit (.int .i64 14), .lit (.int .i64 1), .lit (.int .i64 15)]
def laid_halftone_inflate_codeOrder {H : Type} : DataW H := .agg [.lit (.int .i64 16), .lit (.int .i64 17), .lit (.int .i64 18), .lit (.int .i64 0), .lit (.int .i64 8), .lit (.int .i64 7), .lit (.int .i64 9), .lit (.int .i64 6), .lit (.int .i64 10), .lit (.int .i64 5), .lit (.int .i64 11), .lit (.int .i64 4), .lit (.int .i64 12), .lit (.int .i64 3), .lit (.int .i64 13), .lit (.int .i64 2), .lit (.int .i64 14), .lit (.int .i64 1), .lit (.int .i64 15)]
def laid_halftone_zlib_secondByte {H : Type} : DataW H := .agg [.lit (.int .u8 1), .lit (.int .u8 94), .lit (.int .u8 156), .lit (.int .u8 218)]

/-- 'halftonelaw08.ZlibReads': WHATEVER THE INPUT: true; the input reads as it did. -/
def zlibReadsSpec : ChangeSpec := { name := "zlibReads", fn := fun _ => fun
  | [d1, d2, d3] => { results := [.lit (.bool true)], args := [d1, d2, d3] }
  | _ => none }
def zlibReadsRow : OpenClaim := { program := "ytloagniacjfkfaagreatdoor", sum := "c0150c365cc7ac343f39e174b6aab66065bba2cdea997e55b29e14157875d7ba", func := "halftone/halftonelaw08.ZlibReads", spec := "zlibReads", unfollowed := true, recurses := true, named := ["halftone/zlib.secondByte", "halftone/deflate.codeOrder", "halftone/inflate.codeOrder"], plainKeys := false, apart := false, laid := [("halftone/deflate.codeOrder", laid_halftone_deflate_codeOrder), ("halftone/inflate.codeOrder", laid_halftone_inflate_codeOrder), ("halftone/zlib.secondByte", laid_halftone_zlib_secondByte)] }
def ZlibReadsSaid : Prop := zlibReadsRow.holds Tryz.pinned (OpenSpec.ofChange zlibReadsSpec)

/-- ITS FALSE NEIGHBOUR: 'it returns false'. Refute it at one input. -/
def zlibReadsWrong : ChangeSpec := { name := "zlibReads", fn := fun _ => fun
  | [d1, d2, d3] => { results := [.lit (.bool false)], args := [d1, d2, d3] }
  | _ => none }
def ZlibReadsWrongFalsely : Prop := zlibReadsRow.holds Tryz.pinned (OpenSpec.ofChange zlibReadsWrong)

/-- 'halftonelaw08.ZlibCuts': WHATEVER THE INPUT: true; the input reads as it did. -/
def zlibCutsSpec : ChangeSpec := { name := "zlibCuts", fn := fun _ => fun
  | [d1, d2, d3] => { results := [.lit (.bool true)], args := [d1, d2, d3] }
  | _ => none }
def zlibCutsRow : OpenClaim := { program := "ytloagniacjfkfaagreatdoor", sum := "c0150c365cc7ac343f39e174b6aab66065bba2cdea997e55b29e14157875d7ba", func := "halftone/halftonelaw08.ZlibCuts", spec := "zlibCuts", unfollowed := true, recurses := true, named := ["halftone/zlib.secondByte", "halftone/deflate.codeOrder", "halftone/inflate.codeOrder"], plainKeys := false, apart := false, laid := [("halftone/deflate.codeOrder", laid_halftone_deflate_codeOrder), ("halftone/inflate.codeOrder", laid_halftone_inflate_codeOrder), ("halftone/zlib.secondByte", laid_halftone_zlib_secondByte)] }
def ZlibCutsSaid : Prop := zlibCutsRow.holds Tryz.pinned (OpenSpec.ofChange zlibCutsSpec)

/-- ITS FALSE NEIGHBOUR: 'it returns false'. Refute it at one input. -/
def zlibCutsWrong : ChangeSpec := { name := "zlibCuts", fn := fun _ => fun
  | [d1, d2, d3] => { results := [.lit (.bool false)], args := [d1, d2, d3] }
  | _ => none }
def ZlibCutsWrongFalsely : Prop := zlibCutsRow.holds Tryz.pinned (OpenSpec.ofChange zlibCutsWrong)

/-- 'halftonelaw08.ZlibBack': WHATEVER THE INPUT: true; the input reads as it did. -/
def zlibBackSpec : ChangeSpec := { name := "zlibBack", fn := fun _ => fun
  | [d1, d2, d3] => { results := [.lit (.bool true)], args := [d1, d2, d3] }
  | _ => none }
def zlibBackRow : OpenClaim := { program := "ytloagniacjfkfaagreatdoor", sum := "c0150c365cc7ac343f39e174b6aab66065bba2cdea997e55b29e14157875d7ba", func := "halftone/halftonelaw08.ZlibBack", spec := "zlibBack", unfollowed := true, recurses := true, named := ["halftone/zlib.secondByte", "halftone/deflate.codeOrder", "halftone/inflate.codeOrder"], plainKeys := false, apart := false, laid := [("halftone/deflate.codeOrder", laid_halftone_deflate_codeOrder), ("halftone/inflate.codeOrder", laid_halftone_inflate_codeOrder), ("halftone/zlib.secondByte", laid_halftone_zlib_secondByte)] }
def ZlibBackSaid : Prop := zlibBackRow.holds Tryz.pinned (OpenSpec.ofChange zlibBackSpec)

/-- ITS FALSE NEIGHBOUR: 'it returns false'. Refute it at one input. -/
def zlibBackWrong : ChangeSpec := { name := "zlibBack", fn := fun _ => fun
  | [d1, d2, d3] => { results := [.lit (.bool false)], args := [d1, d2, d3] }
  | _ => none }
def ZlibBackWrongFalsely : Prop := zlibBackRow.holds Tryz.pinned (OpenSpec.ofChange zlibBackWrong)

/-- 'halftonelaw08.ZlibFoot': WHATEVER THE INPUT: true; the input reads as it did. -/
def zlibFootSpec : ChangeSpec := { name := "zlibFoot", fn := fun _ => fun
  | [d1, d2, d3, d4] => { results := [.lit (.bool true)], args := [d1, d2, d3, d4] }
  | _ => none }
def zlibFootRow : OpenClaim := { program := "ytloagniacjfkfaagreatdoor", sum := "c0150c365cc7ac343f39e174b6aab66065bba2cdea997e55b29e14157875d7ba", func := "halftone/halftonelaw08.ZlibFoot", spec := "zlibFoot", unfollowed := true, recurses := true, named := ["halftone/zlib.secondByte", "halftone/deflate.codeOrder", "halftone/inflate.codeOrder"], plainKeys := false, apart := false, laid := [("halftone/deflate.codeOrder", laid_halftone_deflate_codeOrder), ("halftone/inflate.codeOrder", laid_halftone_inflate_codeOrder), ("halftone/zlib.secondByte", laid_halftone_zlib_secondByte)] }
def ZlibFootSaid : Prop := zlibFootRow.holds Tryz.pinned (OpenSpec.ofChange zlibFootSpec)

/-- ITS FALSE NEIGHBOUR: 'it returns false'. Refute it at one input. -/
def zlibFootWrong : ChangeSpec := { name := "zlibFoot", fn := fun _ => fun
  | [d1, d2, d3, d4] => { results := [.lit (.bool false)], args := [d1, d2, d3, d4] }
  | _ => none }
def ZlibFootWrongFalsely : Prop := zlibFootRow.holds Tryz.pinned (OpenSpec.ofChange zlibFootWrong)

/-- 'halftonelaw08.ZlibHead': WHATEVER THE INPUT: true; the input reads as it did. -/
def zlibHeadSpec : ChangeSpec := { name := "zlibHead", fn := fun _ => fun
  | [d1, d2, d3] => { results := [.lit (.bool true)], args := [d1, d2, d3] }
  | _ => none }
def zlibHeadRow : OpenClaim := { program := "ytloagniacjfkfaagreatdoor", sum := "c0150c365cc7ac343f39e174b6aab66065bba2cdea997e55b29e14157875d7ba", func := "halftone/halftonelaw08.ZlibHead", spec := "zlibHead", unfollowed := true, recurses := true, named := ["halftone/zlib.secondByte", "halftone/deflate.codeOrder", "halftone/inflate.codeOrder"], plainKeys := false, apart := false, laid := [("halftone/deflate.codeOrder", laid_halftone_deflate_codeOrder), ("halftone/inflate.codeOrder", laid_halftone_inflate_codeOrder), ("halftone/zlib.secondByte", laid_halftone_zlib_secondByte)] }
def ZlibHeadSaid : Prop := zlibHeadRow.holds Tryz.pinned (OpenSpec.ofChange zlibHeadSpec)

/-- ITS FALSE NEIGHBOUR: 'it returns false'. Refute it at one input. -/
def zlibHeadWrong : ChangeSpec := { name := "zlibHead", fn := fun _ => fun
  | [d1, d2, d3] => { results := [.lit (.bool false)], args := [d1, d2, d3] }
  | _ => none }
def ZlibHeadWrongFalsely : Prop := zlibHeadRow.holds Tryz.pinned (OpenSpec.ofChange zlibHeadWrong)

/-- 'halftonelaw08.ZlibNil': WHATEVER THE INPUT: true; the input reads as it did. -/
def zlibNilSpec : ChangeSpec := { name := "zlibNil", fn := fun _ => fun
  | [d1, d2] => { results := [.lit (.bool true)], args := [d1, d2] }
  | _ => none }
def zlibNilRow : OpenClaim := { program := "ytloagniacjfkfaagreatdoor", sum := "c0150c365cc7ac343f39e174b6aab66065bba2cdea997e55b29e14157875d7ba", func := "halftone/halftonelaw08.ZlibNil", spec := "zlibNil", unfollowed := true, recurses := true, named := ["halftone/zlib.secondByte", "halftone/deflate.codeOrder", "halftone/inflate.codeOrder"], plainKeys := false, apart := false, laid := [("halftone/deflate.codeOrder", laid_halftone_deflate_codeOrder), ("halftone/inflate.codeOrder", laid_halftone_inflate_codeOrder), ("halftone/zlib.secondByte", laid_halftone_zlib_secondByte)] }
def ZlibNilSaid : Prop := zlibNilRow.holds Tryz.pinned (OpenSpec.ofChange zlibNilSpec)

/-- ITS FALSE NEIGHBOUR: 'it returns false'. Refute it at one input. -/
def zlibNilWrong : ChangeSpec := { name := "zlibNil", fn := fun _ => fun
  | [d1, d2] => { results := [.lit (.bool false)], args := [d1, d2] }
  | _ => none }
def ZlibNilWrongFalsely : Prop := zlibNilRow.holds Tryz.pinned (OpenSpec.ofChange zlibNilWrong)

/- THE SECOND FORM. 'bulk': how many values and letters a reading holds, each counted each time it is reached (what is shared counts as often as it is met; a slice's spare places count too). A statement '..UptoSaid' is the law's where the arguments, and the package variables that the reading takes, are together of bulk at most 1048576: NARROWER than '..Said'. Prove '..Said' where nothing that the law and all that it calls make is longer than what came in: it says more and counts as full. Else prove '..UptoSaid'. A law counts once. -/
mutual
def uptoBulk {H : Type} : DataW H → Nat
  | .lit (.string bytes) => bytes.length + 1
  | .lit _ => 1
  | .nil => 1
  | .ptr d => uptoBulk d + 1
  | .slice elems spare => uptoBulkAll elems + uptoBulkAll spare + 1
  | .agg parts => uptoBulkAll parts + 1
  | .iface _ d => uptoBulk d + 1
  | .map entries => uptoBulkEntries entries + 1
  | .held _ => 1
def uptoBulkAll {H : Type} : List (DataW H) → Nat
  | [] => 0
  | d :: r => uptoBulk d + uptoBulkAll r
def uptoBulkEntries {H : Type} : List (Lit × DataW H) → Nat
  | [] => 0
  | x :: r => uptoBulkEntry x + uptoBulkEntries r
def uptoBulkEntry {H : Type} : Lit × DataW H → Nat
  | (.string bytes, d) => bytes.length + uptoBulk d + 1
  | (_, d) => uptoBulk d + 1
 end
def uptoSmall : (H : Type) → List (DataW H) → Bool := fun _ ds => decide (uptoBulkAll ds ≤ 1048576)
def OpenSpec.upto (s : _root_.Go.ChangeSpec) : _root_.Go.OpenSpec := { _root_.Go.OpenSpec.ofChange s with cond := some uptoSmall }

/-- 'halftonelaw08.ZlibReads', WHERE WHAT IT READS IS OF BULK AT MOST 1048576: true; the input reads as it did. -/
def zlibReadsUptoRow : OpenClaim := { program := "ytloagniacjfkfaagreatdoor", sum := "c0150c365cc7ac343f39e174b6aab66065bba2cdea997e55b29e14157875d7ba", func := "halftone/halftonelaw08.ZlibReads", spec := "zlibReads", unfollowed := true, recurses := true, named := ["halftone/zlib.secondByte", "halftone/deflate.codeOrder", "halftone/inflate.codeOrder"], plainKeys := false, apart := false, laid := [("halftone/deflate.codeOrder", laid_halftone_deflate_codeOrder), ("halftone/inflate.codeOrder", laid_halftone_inflate_codeOrder), ("halftone/zlib.secondByte", laid_halftone_zlib_secondByte)], narrowed := true }
def ZlibReadsUptoSaid : Prop := zlibReadsUptoRow.holds Tryz.pinned (OpenSpec.upto zlibReadsSpec)

/-- 'halftonelaw08.ZlibCuts', WHERE WHAT IT READS IS OF BULK AT MOST 1048576: true; the input reads as it did. -/
def zlibCutsUptoRow : OpenClaim := { program := "ytloagniacjfkfaagreatdoor", sum := "c0150c365cc7ac343f39e174b6aab66065bba2cdea997e55b29e14157875d7ba", func := "halftone/halftonelaw08.ZlibCuts", spec := "zlibCuts", unfollowed := true, recurses := true, named := ["halftone/zlib.secondByte", "halftone/deflate.codeOrder", "halftone/inflate.codeOrder"], plainKeys := false, apart := false, laid := [("halftone/deflate.codeOrder", laid_halftone_deflate_codeOrder), ("halftone/inflate.codeOrder", laid_halftone_inflate_codeOrder), ("halftone/zlib.secondByte", laid_halftone_zlib_secondByte)], narrowed := true }
def ZlibCutsUptoSaid : Prop := zlibCutsUptoRow.holds Tryz.pinned (OpenSpec.upto zlibCutsSpec)

/-- 'halftonelaw08.ZlibBack', WHERE WHAT IT READS IS OF BULK AT MOST 1048576: true; the input reads as it did. -/
def zlibBackUptoRow : OpenClaim := { program := "ytloagniacjfkfaagreatdoor", sum := "c0150c365cc7ac343f39e174b6aab66065bba2cdea997e55b29e14157875d7ba", func := "halftone/halftonelaw08.ZlibBack", spec := "zlibBack", unfollowed := true, recurses := true, named := ["halftone/zlib.secondByte", "halftone/deflate.codeOrder", "halftone/inflate.codeOrder"], plainKeys := false, apart := false, laid := [("halftone/deflate.codeOrder", laid_halftone_deflate_codeOrder), ("halftone/inflate.codeOrder", laid_halftone_inflate_codeOrder), ("halftone/zlib.secondByte", laid_halftone_zlib_secondByte)], narrowed := true }
def ZlibBackUptoSaid : Prop := zlibBackUptoRow.holds Tryz.pinned (OpenSpec.upto zlibBackSpec)

/-- 'halftonelaw08.ZlibFoot', WHERE WHAT IT READS IS OF BULK AT MOST 1048576: true; the input reads as it did. -/
def zlibFootUptoRow : OpenClaim := { program := "ytloagniacjfkfaagreatdoor", sum := "c0150c365cc7ac343f39e174b6aab66065bba2cdea997e55b29e14157875d7ba", func := "halftone/halftonelaw08.ZlibFoot", spec := "zlibFoot", unfollowed := true, recurses := true, named := ["halftone/zlib.secondByte", "halftone/deflate.codeOrder", "halftone/inflate.codeOrder"], plainKeys := false, apart := false, laid := [("halftone/deflate.codeOrder", laid_halftone_deflate_codeOrder), ("halftone/inflate.codeOrder", laid_halftone_inflate_codeOrder), ("halftone/zlib.secondByte", laid_halftone_zlib_secondByte)], narrowed := true }
def ZlibFootUptoSaid : Prop := zlibFootUptoRow.holds Tryz.pinned (OpenSpec.upto zlibFootSpec)

/-- 'halftonelaw08.ZlibHead', WHERE WHAT IT READS IS OF BULK AT MOST 1048576: true; the input reads as it did. -/
def zlibHeadUptoRow : OpenClaim := { program := "ytloagniacjfkfaagreatdoor", sum := "c0150c365cc7ac343f39e174b6aab66065bba2cdea997e55b29e14157875d7ba", func := "halftone/halftonelaw08.ZlibHead", spec := "zlibHead", unfollowed := true, recurses := true, named := ["halftone/zlib.secondByte", "halftone/deflate.codeOrder", "halftone/inflate.codeOrder"], plainKeys := false, apart := false, laid := [("halftone/deflate.codeOrder", laid_halftone_deflate_codeOrder), ("halftone/inflate.codeOrder", laid_halftone_inflate_codeOrder), ("halftone/zlib.secondByte", laid_halftone_zlib_secondByte)], narrowed := true }
def ZlibHeadUptoSaid : Prop := zlibHeadUptoRow.holds Tryz.pinned (OpenSpec.upto zlibHeadSpec)

/-- 'halftonelaw08.ZlibNil', WHERE WHAT IT READS IS OF BULK AT MOST 1048576: true; the input reads as it did. -/
def zlibNilUptoRow : OpenClaim := { program := "ytloagniacjfkfaagreatdoor", sum := "c0150c365cc7ac343f39e174b6aab66065bba2cdea997e55b29e14157875d7ba", func := "halftone/halftonelaw08.ZlibNil", spec := "zlibNil", unfollowed := true, recurses := true, named := ["halftone/zlib.secondByte", "halftone/deflate.codeOrder", "halftone/inflate.codeOrder"], plainKeys := false, apart := false, laid := [("halftone/deflate.codeOrder", laid_halftone_deflate_codeOrder), ("halftone/inflate.codeOrder", laid_halftone_inflate_codeOrder), ("halftone/zlib.secondByte", laid_halftone_zlib_secondByte)], narrowed := true }
def ZlibNilUptoSaid : Prop := zlibNilUptoRow.holds Tryz.pinned (OpenSpec.upto zlibNilSpec)

end Rows
end Go.Proofs.YtloagniacjfkfaaGreatDoor
