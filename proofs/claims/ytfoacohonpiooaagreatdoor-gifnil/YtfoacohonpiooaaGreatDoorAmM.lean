/- The passes of a picture, as numbers: no program in it. -/
import Derived.Test.YtfoacohonpiooaaGreatDoorNum
namespace Go.Proofs.YtfoacohonpiooaaGreatDoor
open Go.RowKit

/-- How many of from, from + step, .. are below end. -/
def plc (f s e : Int) : Int := if e ≤ f then 0 else (e - f - 1) / s + 1
/-- A pass's first place and steps. -/
structure Stp where
  x : Int
  y : Int
  dx : Int
  dy : Int
def pngL : List Stp := [⟨0, 0, 8, 8⟩, ⟨4, 0, 8, 8⟩, ⟨0, 4, 4, 8⟩, ⟨2, 0, 4, 4⟩, ⟨0, 2, 2, 4⟩, ⟨1, 0, 2, 2⟩, ⟨0, 1, 1, 2⟩]
def gifL : List Stp := [⟨0, 0, 1, 8⟩, ⟨0, 4, 1, 8⟩, ⟨0, 2, 1, 4⟩, ⟨0, 1, 1, 2⟩]
def oneL : List Stp := [⟨0, 0, 1, 1⟩]
def pngOf (b : Bool) : List Stp := if b then pngL else oneL
def gifOf (b : Bool) : List Stp := if b then gifL else oneL
abbrev Stp.ok (p : Stp) : Prop := 0 ≤ p.x ∧ p.x < 8 ∧ 0 ≤ p.y ∧ p.y < 8 ∧ 1 ≤ p.dx ∧ p.dx ≤ 8 ∧ 1 ≤ p.dy ∧ p.dy ≤ 8
abbrev picN (w h : Int) : Prop := 1 ≤ w ∧ w ≤ 2048 ∧ 1 ≤ h ∧ h ≤ 2048 ∧ w * h ≤ 65536
/-- How many places in a row, how many rows. -/
def wid (p : Stp) (w h : Int) : Int := if 0 < plc p.x p.dx w ∧ 0 < plc p.y p.dy h then plc p.x p.dx w else 0
def hig (p : Stp) (w h : Int) : Int := if 0 < plc p.x p.dx w ∧ 0 < plc p.y p.dy h then plc p.y p.dy h else 0
theorem pngOf_ok (b : Bool) : ∀ p ∈ pngOf b, p.ok := by cases b <;> decide
theorem gifOf_ok (b : Bool) : ∀ p ∈ gifOf b, p.ok := by cases b <;> decide
theorem plc_bd {f s e : Int} (hf : 0 ≤ f) (hs : 1 ≤ s) (he : e ≤ 2048) : 0 ≤ plc f s e ∧ plc f s e ≤ 2048 := by
  unfold plc
  split
  · omega
  · have h1 : (e - f - 1) / s ≤ e - f - 1 := Int.ediv_le_self _ (by omega)
    have h0 : 0 ≤ (e - f - 1) / s := Int.ediv_nonneg (by omega) (by omega)
    omega
theorem wid_bd {p : Stp} (hp : p.ok) {w h : Int} (hw : w ≤ 2048) : 0 ≤ wid p w h ∧ wid p w h ≤ 2048 := by
  have := plc_bd (f := p.x) (s := p.dx) (e := w) hp.1 hp.2.2.2.2.1 hw
  unfold wid; split <;> omega
theorem hig_bd {p : Stp} (hp : p.ok) {w h : Int} (hh : h ≤ 2048) : 0 ≤ hig p w h ∧ hig p w h ≤ 2048 := by
  have := plc_bd (f := p.y) (s := p.dy) (e := h) hp.2.2.1 hp.2.2.2.2.2.2.1 hh
  unfold hig; split <;> omega
end Go.Proofs.YtfoacohonpiooaaGreatDoor
