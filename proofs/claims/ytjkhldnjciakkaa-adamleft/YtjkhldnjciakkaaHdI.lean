/- Slices of int (of ArgI). -/
import Derived.Test.YtjkhldnjciakkaaArgB
namespace Go.Proofs.Ytjkhldnjciakkaa
open Go.ChangeShapes Go.WideShapes Go.ChangeAt Go.RowKit

def IRow (w : World) (a : Option Addr) (l : List Int) : Prop :=
  l = [] ∨ ∃ b off, a = some ⟨b, off, none⟩ ∧ ∀ i, i < l.length → w.cell? ⟨b, off + i, none⟩ = some (.int .i64 (l[i]?.getD 0))
theorem IRow.old {w w' : World} {a : Option Addr} {l : List Int} (h : IRow w a l) (hb : Below w.heap.size w w') : IRow w' a l := by
  rcases h with h | ⟨b, off, e, hc⟩
  · exact .inl h
  · by_cases hz : l = []
    · exact .inl hz
    · have hlt := cell_lt (hc 0 (List.length_pos_iff.2 hz))
      exact .inr ⟨b, off, e, fun i hi => (World.cell?_of_block (a := ⟨b, off + i, none⟩) (hb.block b hlt)).trans (hc i hi)⟩
theorem IRow.at {w : World} {a : Option Addr} {l : List Int} (h : IRow w a l) (k : Nat) (hk : k < l.length) : ∃ b off, a = some ⟨b, off, none⟩ ∧ w.cell? ⟨b, off + k, none⟩ = some (.int .i64 (l[k]?.getD 0)) := by
  rcases h with h | ⟨b, off, e, hc⟩
  · subst h; simp at hk
  · exact ⟨b, off, e, hc k hk⟩


theorem irow_of_arg {w : World} {k : Nat} {zs : List Int} {x : Addr} (hk : k ≤ zs.length) (h : ∀ i, i < zs.length → w.cell? (x.add i) = some (.int .i64 (zs.getD i 0))) : IRow w (some x) (zs.take k) := by
  by_cases h0 : k = 0
  · subst h0; exact .inl rfl
  · obtain ⟨b, off, spot⟩ := x
    have hc := h 0 (by omega)
    have hspot : spot = none := by simpa [Addr.add] using World.cell?_spot hc
    subst hspot
    refine .inr ⟨b, off, rfl, fun i hi => ?_⟩
    rw [List.length_take] at hi
    have h1 : i < k := by omega
    have hq := h i (by omega)
    simp only [List.getElem?_take, h1, if_true]
    cases i with
    | zero => simpa [Addr.add] using hq
    | succ j => simpa [Addr.add] using hq
theorem Try.bytes3 : Try.prog.bytesOf 3 = 8 := by kernel_rfl
theorem Try.cells3 : Try.prog.cellsOf 3 = 1 := by kernel_rfl
/-- What is known of numbers that came in. -/
def IArg (W : World) (a : Option Addr) (len cap : Nat) : Prop :=
  ∃ zs : List Int, zs.length = len ∧ len ≤ cap ∧ cap ≤ 17592186044416 ∧ (a = none → cap = 0) ∧ IRow W a zs
end Go.Proofs.Ytjkhldnjciakkaa
