/-
  DERIVED. GIVEN WITH THE SEED: THE CARDS: each row of YtbjoalgglmalnaaDoorRows.lean that lists a variable, with what it lists TIED to the program's text (the seventh form; the later family's looks); each row that meets fmt, with fmt's text TOLD by the authors' own Lean function (tested against real Go, not proved from fmt's source: count such statements apart). THE CARD IS WHAT COUNTS. Prove the row's statement (the work); the ties are given (YtbjoalgglmalnaaDoorTie.lean); close each card by the builder's one call (the guide's Derived/Test/ToyasCard.lean, 'card_holds'). Laid BY PROGRAM, IN A SANDBOX (cutbox-door.mjs). By AI agents, Wed Nov 11 2026. No macro, syntax, notation, axiom, sorry.
-/
import Derived.Test.YtbjoalgglmalnaaDoorRows
import GoSem.ClaimSeven
namespace Go.Proofs.YtbjoalgglmalnaaDoor
namespace Rows

/-- THE TIED CARD OF 'halftonelaw15.PixelPacks'. -/
def pixelPacksCard : Claim7 := { stood := { row := pixelPacksRow, standIns := [], harness := (true, "675e9c3c26f33ef3cd6e004a4099306e5d70b86896ba096f4378b2a63df0d8ed"), looks := false }, kinds := [], alts := [], laidByText := true, laidKinds := [.data, .data], laidTests := true, laidLooks := .later }
def PixelPacksCardSaid : Prop := Claim7.holds Tryd.pinned (.plain (OpenSpec.ofChange pixelPacksSpec)) pixelPacksCard

/-- THE TIED CARD OF 'halftonelaw15.PixelUnpacks'. -/
def pixelUnpacksCard : Claim7 := { stood := { row := pixelUnpacksRow, standIns := [], harness := (true, "675e9c3c26f33ef3cd6e004a4099306e5d70b86896ba096f4378b2a63df0d8ed"), looks := false }, kinds := [], alts := [], laidByText := true, laidKinds := [.data, .data], laidTests := true, laidLooks := .later }
def PixelUnpacksCardSaid : Prop := Claim7.holds Tryd.pinned (.plain (OpenSpec.ofChange pixelUnpacksSpec)) pixelUnpacksCard

/-- THE TIED CARD OF 'halftonelaw15.PixelBack'. -/
def pixelBackCard : Claim7 := { stood := { row := pixelBackRow, standIns := [], harness := (true, "675e9c3c26f33ef3cd6e004a4099306e5d70b86896ba096f4378b2a63df0d8ed"), looks := false }, kinds := [], alts := [], laidByText := true, laidKinds := [.data, .data], laidTests := true, laidLooks := .later }
def PixelBackCardSaid : Prop := Claim7.holds Tryd.pinned (.plain (OpenSpec.ofChange pixelBackSpec)) pixelBackCard

/-- THE TIED CARD OF 'halftonelaw15.PixelChecks'. -/
def pixelChecksCard : Claim7 := { stood := { row := pixelChecksRow, standIns := [], harness := (true, "675e9c3c26f33ef3cd6e004a4099306e5d70b86896ba096f4378b2a63df0d8ed"), looks := false }, kinds := [], alts := [], laidByText := true, laidKinds := [.data, .data], laidTests := true, laidLooks := .later }
def PixelChecksCardSaid : Prop := Claim7.holds Tryd.pinned (.plain (OpenSpec.ofChange pixelChecksSpec)) pixelChecksCard

/-- THE TIED CARD OF 'halftonelaw15.PixelColors'. -/
def pixelColorsCard : Claim7 := { stood := { row := pixelColorsRow, standIns := [], harness := (true, "675e9c3c26f33ef3cd6e004a4099306e5d70b86896ba096f4378b2a63df0d8ed"), looks := false }, kinds := [], alts := [], laidByText := true, laidKinds := [.data, .data], laidTests := true, laidLooks := .later }
def PixelColorsCardSaid : Prop := Claim7.holds Tryd.pinned (.plain (OpenSpec.ofChange pixelColorsSpec)) pixelColorsCard

/-- THE TIED CARD OF 'halftonelaw15.PixelImages'. -/
def pixelImagesCard : Claim7 := { stood := { row := pixelImagesRow, standIns := [], harness := (true, "675e9c3c26f33ef3cd6e004a4099306e5d70b86896ba096f4378b2a63df0d8ed"), looks := false }, kinds := [], alts := [], laidByText := true, laidKinds := [.data, .data], laidTests := true, laidLooks := .later }
def PixelImagesCardSaid : Prop := Claim7.holds Tryd.pinned (.plain (OpenSpec.ofChange pixelImagesSpec)) pixelImagesCard

/-- THE SECOND FORM's CARD OF 'halftonelaw15.PixelPacks'. -/
def pixelPacksUptoCard : Claim7 := { stood := { row := pixelPacksUptoRow, standIns := [], harness := (true, "675e9c3c26f33ef3cd6e004a4099306e5d70b86896ba096f4378b2a63df0d8ed"), looks := false }, kinds := [], alts := [], laidByText := true, laidKinds := [.data, .data], laidTests := true, laidLooks := .later }
def PixelPacksUptoCardSaid : Prop := Claim7.holds Tryd.pinned (.plain (OpenSpec.upto pixelPacksSpec)) pixelPacksUptoCard

/-- THE SECOND FORM's CARD OF 'halftonelaw15.PixelUnpacks'. -/
def pixelUnpacksUptoCard : Claim7 := { stood := { row := pixelUnpacksUptoRow, standIns := [], harness := (true, "675e9c3c26f33ef3cd6e004a4099306e5d70b86896ba096f4378b2a63df0d8ed"), looks := false }, kinds := [], alts := [], laidByText := true, laidKinds := [.data, .data], laidTests := true, laidLooks := .later }
def PixelUnpacksUptoCardSaid : Prop := Claim7.holds Tryd.pinned (.plain (OpenSpec.upto pixelUnpacksSpec)) pixelUnpacksUptoCard

/-- THE SECOND FORM's CARD OF 'halftonelaw15.PixelBack'. -/
def pixelBackUptoCard : Claim7 := { stood := { row := pixelBackUptoRow, standIns := [], harness := (true, "675e9c3c26f33ef3cd6e004a4099306e5d70b86896ba096f4378b2a63df0d8ed"), looks := false }, kinds := [], alts := [], laidByText := true, laidKinds := [.data, .data], laidTests := true, laidLooks := .later }
def PixelBackUptoCardSaid : Prop := Claim7.holds Tryd.pinned (.plain (OpenSpec.upto pixelBackSpec)) pixelBackUptoCard

/-- THE SECOND FORM's CARD OF 'halftonelaw15.PixelChecks'. -/
def pixelChecksUptoCard : Claim7 := { stood := { row := pixelChecksUptoRow, standIns := [], harness := (true, "675e9c3c26f33ef3cd6e004a4099306e5d70b86896ba096f4378b2a63df0d8ed"), looks := false }, kinds := [], alts := [], laidByText := true, laidKinds := [.data, .data], laidTests := true, laidLooks := .later }
def PixelChecksUptoCardSaid : Prop := Claim7.holds Tryd.pinned (.plain (OpenSpec.upto pixelChecksSpec)) pixelChecksUptoCard

/-- THE SECOND FORM's CARD OF 'halftonelaw15.PixelColors'. -/
def pixelColorsUptoCard : Claim7 := { stood := { row := pixelColorsUptoRow, standIns := [], harness := (true, "675e9c3c26f33ef3cd6e004a4099306e5d70b86896ba096f4378b2a63df0d8ed"), looks := false }, kinds := [], alts := [], laidByText := true, laidKinds := [.data, .data], laidTests := true, laidLooks := .later }
def PixelColorsUptoCardSaid : Prop := Claim7.holds Tryd.pinned (.plain (OpenSpec.upto pixelColorsSpec)) pixelColorsUptoCard

/-- THE SECOND FORM's CARD OF 'halftonelaw15.PixelImages'. -/
def pixelImagesUptoCard : Claim7 := { stood := { row := pixelImagesUptoRow, standIns := [], harness := (true, "675e9c3c26f33ef3cd6e004a4099306e5d70b86896ba096f4378b2a63df0d8ed"), looks := false }, kinds := [], alts := [], laidByText := true, laidKinds := [.data, .data], laidTests := true, laidLooks := .later }
def PixelImagesUptoCardSaid : Prop := Claim7.holds Tryd.pinned (.plain (OpenSpec.upto pixelImagesSpec)) pixelImagesUptoCard
end Rows
end Go.Proofs.YtbjoalgglmalnaaDoor
