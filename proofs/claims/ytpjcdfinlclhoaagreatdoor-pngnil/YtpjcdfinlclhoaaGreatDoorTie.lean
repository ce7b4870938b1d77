/-
  DERIVED. GIVEN WITH THE SEED: THE PROGRAM's TIES (one call each: nine closed facts by the kernel) AND EACH ROW's TIE, after the 31st guide's Derived/Test/Toyas{Tie, Card}.lean. No idea stands in it: it is a product of the set-up. Laid BY PROGRAM, IN A SANDBOX (cutbox-door.mjs). By AI agents, Wed Nov 11 2026. No macro, syntax, notation, axiom, sorry.
-/
import Derived.Test.YtpjcdfinlclhoaaGreatDoorRows
import Derived.LaidByTextLater
import Derived.SevenTiedAt
import Derived.LaidSub
import Derived.LaidOnce
namespace Go.Proofs.YtpjcdfinlclhoaaGreatDoor
open Go
set_option maxRecDepth 100000
theorem seatTie1 : Tryz.prog.laidByTextLater [("halftone/head.pairs", Rows.laid_halftone_head_pairs), ("halftone/head.sampleCount", Rows.laid_halftone_head_sampleCount), ("halftone/inflate.codeOrder", Rows.laid_halftone_inflate_codeOrder)] [.data, .data, .data] true :=
  Program.laidByTextLater_by_one 39 8 31 (by kernel_rfl) (by kernel_rfl) (by kernel_rfl) (by kernel_rfl) (by kernel_rfl) (by kernel_rfl) (fun _ _ => by kernel_rfl)
theorem noOwnUnsafe : Tryz.pinned.checked.prog.headLifts.contains "ownunsafe" = false := by kernel_rfl
theorem tie : Tryz.prog.laidByTextLater [("halftone/head.pairs", Rows.laid_halftone_head_pairs), ("halftone/head.sampleCount", Rows.laid_halftone_head_sampleCount), ("halftone/inflate.codeOrder", Rows.laid_halftone_inflate_codeOrder)] [.data, .data, .data] true :=
  Program.laidByTextLater.sub seatTie1 ["halftone/head.pairs", "halftone/head.sampleCount", "halftone/inflate.codeOrder"] (by kernel_rfl) (by kernel_rfl)
theorem pngNil_row_tie : Rows.pngNilRow.laidByTextAt .later Tryz.pinned [.data, .data, .data] true :=
  OpenClaim.laidByTextAt_later rfl rfl tie noOwnUnsafe
theorem pngNilUpto_row_tie : Rows.pngNilUptoRow.laidByTextAt .later Tryz.pinned [.data, .data, .data] true :=
  OpenClaim.laidByTextAt_later rfl rfl tie noOwnUnsafe
end Go.Proofs.YtpjcdfinlclhoaaGreatDoor
