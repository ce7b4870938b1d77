/-
  NARROWER THAN 'FOR EVERY INPUT', by the rows' own cells (each row's printed sentence says how): PngNil: laid.
  DERIVED. THE GIVEN ROWS OF THIS SEAT. 1 by the template 'for every input the law returns true; each argument reads behind the call as it read before'; 0 by the template 'total and deterministic' (their statements: YtpjcdfinlclhoaaGreatDoorTotals.lean).
  GIVEN WITH THE SEED: the statements are not yours to turn. If you find one false, say at which input.
  Laid BY PROGRAM, IN A SANDBOX (cutbox-rows.mjs): the forced cells as the released guide's own fill.sh prints them over the translation 5a9a64775d0d1f5d… (all of the seat's roots in one cut). By AI agents, Wed Nov 11 2026. No macro, syntax, notation, axiom, sorry.
-/
import Derived.Test.YtpjcdfinlclhoaaGreatDoorChecked
import GoSem.Claim
import GoSem.ClaimJoined
import GoSem.ClaimMapViews
import Derived.JoinedTies
import Derived.KernelRfl
namespace Go.Proofs.YtpjcdfinlclhoaaGreatDoor
/- THE CELL 'sum', in the pinned program and in every row, IS THE sha256 OF THE DUMP (.gsa) THAT YtpjcdfinlclhoaaGreatDoorProg.lean LOADS. Nothing in Lean hashes anything: it is a label: what it is worth is what the hold of that sum in a sandbox is worth. -/
noncomputable def Tryz.pinned : Pinned := { name := "ytpjcdfinlclhoaagreatdoor", sum := "5a9a64775d0d1f5d2807813d1727d2106a3aa7792617fe28e003474c93351924", checked := Tryz.checked }
namespace Rows
def none {H : Type} : Left H := { results := [], args := [] }

/- WHAT THE LISTED PACKAGE-LEVEL VARIABLES READ AS WHEN THE CALL BEGINS. Each datum BY PROGRAM (the guide's laid-datum.mjs) off the statement by which the dump's own 'gosem.cut.vars' lays the variable. In a bare row this is a premise. The card (YtpjcdfinlclhoaaGreatDoorCards.lean) ties it to the program's text. -/
def laid_halftone_head_pairs {H : Type} : DataW H := .agg [.agg [.lit (.int .i64 0), .lit (.int .i64 1)], .agg [.lit (.int .i64 0), .lit (.int .i64 2)], .agg [.lit (.int .i64 0), .lit (.int .i64 4)], .agg [.lit (.int .i64 0), .lit (.int .i64 8)], .agg [.lit (.int .i64 0), .lit (.int .i64 16)], .agg [.lit (.int .i64 2), .lit (.int .i64 8)], .agg [.lit (.int .i64 2), .lit (.int .i64 16)], .agg [.lit (.int .i64 3), .lit (.int .i64 1)], .agg [.lit (.int .i64 3), .lit (.int .i64 2)], .agg [.lit (.int .i64 3), .lit (.int .i64 4)], .agg [.lit (.int .i64 3), .lit (.int .i64 8)], .agg [.lit (.int .i64 4), .lit (.int .i64 8)], .agg [.lit (.int .i64 4), .lit (.int .i64 16)], .agg [.lit (.int .i64 6), .lit (.int .i64 8)], .agg [.lit (.int .i64 6), .lit (.int .i64 16)]]
def laid_halftone_head_sampleCount {H : Type} : DataW H := .agg [.lit (.int .i64 1), .lit (.int .i64 0), .lit (.int .i64 3), .lit (.int .i64 1), .lit (.int .i64 2), .lit (.int .i64 0), .lit (.int .i64 4)]
def laid_halftone_inflate_codeOrder {H : Type} : DataW H := .agg [.lit (.int .i64 16), .lit (.int .i64 17), .lit (.int .i64 18), .lit (.int .i64 0), .lit (.int .i64 8), .lit (.int .i64 7), .lit (.int .i64 9), .lit (.int .i64 6), .lit (.int .i64 10), .lit (.int .i64 5), .lit (.int .i64 11), .lit (.int .i64 4), .lit (.int .i64 12), .lit (.int .i64 3), .lit (.int .i64 13), .lit (.int .i64 2), .lit (.int .i64 14), .lit (.int .i64 1), .lit (.int .i64 15)]

/-- 'halftonelaw16.PngNil': WHATEVER THE INPUT: true; the input reads as it did. -/
def pngNilSpec : ChangeSpec := { name := "pngNil", fn := fun _ => fun
  | [d] => { results := [.lit (.bool true)], args := [d] }
  | _ => none }
def pngNilRow : OpenClaim := { program := "ytpjcdfinlclhoaagreatdoor", sum := "5a9a64775d0d1f5d2807813d1727d2106a3aa7792617fe28e003474c93351924", func := "halftone/halftonelaw16.PngNil", spec := "pngNil", unfollowed := true, recurses := true, named := ["halftone/inflate.codeOrder", "halftone/head.sampleCount", "halftone/head.pairs"], plainKeys := false, apart := false, laid := [("halftone/head.pairs", laid_halftone_head_pairs), ("halftone/head.sampleCount", laid_halftone_head_sampleCount), ("halftone/inflate.codeOrder", laid_halftone_inflate_codeOrder)] }
def PngNilSaid : Prop := pngNilRow.holds Tryz.pinned (OpenSpec.ofChange pngNilSpec)

/-- ITS FALSE NEIGHBOUR: 'it returns false'. Refute it at one input. -/
def pngNilWrong : ChangeSpec := { name := "pngNil", fn := fun _ => fun
  | [d] => { results := [.lit (.bool false)], args := [d] }
  | _ => none }
def PngNilWrongFalsely : Prop := pngNilRow.holds Tryz.pinned (OpenSpec.ofChange pngNilWrong)

/- THE SECOND FORM. 'bulk': how many values and letters a reading holds, each counted each time it is reached (what is shared counts as often as it is met; a slice's spare places count too). A statement '..UptoSaid' is the law's where the arguments, and the package variables that the reading takes, are together of bulk at most 1048576: NARROWER than '..Said'. Prove '..Said' where nothing that the law and all that it calls make is longer than what came in: it says more and counts as full. Else prove '..UptoSaid'. A law counts once. -/
mutual
def uptoBulk {H : Type} : DataW H → Nat
  | .lit (.string bytes) => bytes.length + 1
  | .lit _ => 1
  | .nil => 1
  | .ptr d => uptoBulk d + 1
  | .slice elems spare => uptoBulkAll elems + uptoBulkAll spare + 1
  | .agg parts => uptoBulkAll parts + 1
  | .iface _ d => uptoBulk d + 1
  | .map entries => uptoBulkEntries entries + 1
  | .held _ => 1
def uptoBulkAll {H : Type} : List (DataW H) → Nat
  | [] => 0
  | d :: r => uptoBulk d + uptoBulkAll r
def uptoBulkEntries {H : Type} : List (Lit × DataW H) → Nat
  | [] => 0
  | x :: r => uptoBulkEntry x + uptoBulkEntries r
def uptoBulkEntry {H : Type} : Lit × DataW H → Nat
  | (.string bytes, d) => bytes.length + uptoBulk d + 1
  | (_, d) => uptoBulk d + 1
 end
def uptoSmall : (H : Type) → List (DataW H) → Bool := fun _ ds => decide (uptoBulkAll ds ≤ 1048576)
def OpenSpec.upto (s : _root_.Go.ChangeSpec) : _root_.Go.OpenSpec := { _root_.Go.OpenSpec.ofChange s with cond := some uptoSmall }

/-- 'halftonelaw16.PngNil', WHERE WHAT IT READS IS OF BULK AT MOST 1048576: true; the input reads as it did. -/
def pngNilUptoRow : OpenClaim := { program := "ytpjcdfinlclhoaagreatdoor", sum := "5a9a64775d0d1f5d2807813d1727d2106a3aa7792617fe28e003474c93351924", func := "halftone/halftonelaw16.PngNil", spec := "pngNil", unfollowed := true, recurses := true, named := ["halftone/inflate.codeOrder", "halftone/head.sampleCount", "halftone/head.pairs"], plainKeys := false, apart := false, laid := [("halftone/head.pairs", laid_halftone_head_pairs), ("halftone/head.sampleCount", laid_halftone_head_sampleCount), ("halftone/inflate.codeOrder", laid_halftone_inflate_codeOrder)], narrowed := true }
def PngNilUptoSaid : Prop := pngNilUptoRow.holds Tryz.pinned (OpenSpec.upto pngNilSpec)

end Rows
end Go.Proofs.YtpjcdfinlclhoaaGreatDoor
