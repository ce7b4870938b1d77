import Derived.Test.YtbjoalgglmalnaaDoorArgB
import Derived.JoinedCond
namespace Go.Proofs.YtbjoalgglmalnaaDoor
open Go.ChangeShapes Go.WideShapes Go.ChangeAt Go.RowKit

theorem bulk_pos {H : Type} (d : DataW H) : 1 ≤ Rows.uptoBulk d := by
  cases d with
  | lit l => cases l <;> simp [Rows.uptoBulk]
  | _ => simp [Rows.uptoBulk]
theorem bulk_count {H : Type} : ∀ l : List (DataW H), l.length ≤ Rows.uptoBulkAll l
  | [] => Nat.zero_le _
  | d :: r => by have h1 := bulk_pos d; have h2 := bulk_count r; simp only [Rows.uptoBulkAll, List.length_cons]; omega
theorem bulk_mem {H : Type} {d : DataW H} : ∀ {l : List (DataW H)}, d ∈ l → Rows.uptoBulk d ≤ Rows.uptoBulkAll l
  | x :: r, h => by
    simp only [Rows.uptoBulkAll]
    rcases List.mem_cons.1 h with rfl | h
    · omega
    · have := bulk_mem h; omega

theorem open_bytes_upto {H : Type} {enc : TypeId × Value → H} {W : World} {a : Option Addr} {len cap : Nat} {d : DataW H} {p : List MemPlace} {ds : List (DataW H)}
    (h0 : DataW.Trod enc Tryd.prog W 0 (fun _ => true) true 24 (.slice a len cap) d p) (hk : Rows.uptoSmall H ds = true) (hd : d ∈ ds) : BArg W a len cap ∧ cap ≤ 1048576 := by
  have hb : Rows.uptoBulkAll ds ≤ 1048576 := of_decide_eq_true hk
  have hm := bulk_mem hd
  obtain ⟨fuel, hf⟩ := h0
  rcases open_ints Tryd.underlying24 Tryd.underlying5 Tryd.cells5 hf with ⟨hcs, _⟩ | ⟨x, l, c, zs, hcs, _, hl, hm', hz, hx, hcell, hwz⟩
  · simp [Value.cells] at hcs
    obtain ⟨rfl, rfl, rfl⟩ := hcs
    exact ⟨⟨[], Bytes.nil, rfl, Nat.le_refl _, by omega, fun _ => rfl, .inl rfl⟩, by omega⟩
  · simp [Value.cells] at hcs
    obtain ⟨rfl, rfl, rfl⟩ := hcs
    simp only [Prod.mk.injEq] at hx
    obtain ⟨rfl, rfl⟩ := hx
    simp only [if_true] at hz
    have h1 := bulk_count (lits (H := H) .u8 (zs.take len))
    have h2 := bulk_count (lits (H := H) .u8 (zs.drop len))
    simp only [Rows.uptoBulk] at hm
    simp only [lits, List.length_map, List.length_take, List.length_drop] at h1 h2
    simp only [lits] at hm
    exact ⟨⟨zs.take len, (bytes_of_wf hwz).take _, by rw [List.length_take]; omega, hl, by omega, (by intro h; cases h), row_of_arg (by omega) hcell⟩, by omega⟩
end Go.Proofs.YtbjoalgglmalnaaDoor
