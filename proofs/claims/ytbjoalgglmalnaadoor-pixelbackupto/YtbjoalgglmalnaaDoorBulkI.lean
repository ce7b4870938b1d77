/- Rows of int that came in, where what is read is of no great bulk. -/
import Derived.Test.YtbjoalgglmalnaaDoorBulkB
import Derived.Test.YtbjoalgglmalnaaDoorHdI
namespace Go.Proofs.YtbjoalgglmalnaaDoor
open Go.ChangeShapes Go.WideShapes Go.ChangeAt Go.RowKit
theorem open_nums_upto {H : Type} {enc : TypeId × Value → H} {W : World} {a : Option Addr} {len cap : Nat} {d : DataW H} {p : List MemPlace} {ds : List (DataW H)}
    (h0 : DataW.Trod enc Tryd.prog W 0 (fun _ => true) true 22 (.slice a len cap) d p) (hk : Rows.uptoSmall H ds = true) (hd : d ∈ ds) : IArg W a len cap ∧ cap ≤ 1048576 := by
  have hb : Rows.uptoBulkAll ds ≤ 1048576 := of_decide_eq_true hk
  have hm := bulk_mem hd
  obtain ⟨fuel, hf⟩ := h0
  rcases open_ints Tryd.underlying22 Tryd.underlying3 Tryd.cells3 hf with ⟨hcs, _⟩ | ⟨x, l, c, zs, hcs, _, hl, hm', hz, hx, hcell, hwz⟩
  · simp [Value.cells] at hcs
    obtain ⟨rfl, rfl, rfl⟩ := hcs
    exact ⟨⟨[], rfl, Nat.le_refl _, by omega, fun _ => rfl, .inl rfl⟩, by omega⟩
  · simp [Value.cells] at hcs
    obtain ⟨rfl, rfl, rfl⟩ := hcs
    simp only [Prod.mk.injEq] at hx
    obtain ⟨rfl, rfl⟩ := hx
    simp only [if_true] at hz
    have h1 := bulk_count (lits (H := H) .i64 (zs.take len))
    have h2 := bulk_count (lits (H := H) .i64 (zs.drop len))
    simp only [Rows.uptoBulk] at hm
    simp only [lits, List.length_map, List.length_take, List.length_drop] at h1 h2
    simp only [lits] at hm
    exact ⟨⟨zs.take len, by rw [List.length_take]; omega, hl, by omega, (by intro h; cases h), irow_of_arg (by omega) hcell⟩, by omega⟩
end Go.Proofs.YtbjoalgglmalnaaDoor
