/- A chunk that came in. -/
import Derived.Test.YtoofpkcgiodfcaaCq2
import Derived.Test.YtoofpkcgiodfcaaArgB
import Derived.Lib.SmallJoins
import Derived.Deep.Slices
namespace Go.Proofs.Ytoofpkcgiodfcaa
open Go.ChangeShapes Go.WideShapes Go.ChangeAt Go.RowKit
theorem Try.cellsCk : Try.prog.cellsOf 40 = 2 := by kernel_rfl
/-- Bytes within memory, however many. -/
def PtW (W : World) (fa : Option Addr) (Z fc : Nat) (z : List Int) : Prop := z.length = Z ∧ Bytes z ∧ Z ≤ fc ∧ fc ≤ 9223372036854775807 ∧ (fa = none → fc = 0) ∧ Row W fa z
theorem PtW.ok {W : World} {fa : Option Addr} {Z fc : Nat} {z : List Int} (h : PtW W fa Z fc z) (hZ : Z ≤ 140737488351232) : PtOk W ⟨fa, fc, z⟩ := by
  obtain ⟨h1, h2, h3, h4, h5, h6⟩ := h
  exact ⟨h2, by show z.length ≤ fc; omega, ⟨by show z.length ≤ _; omega, h4⟩, h5, h6⟩
theorem trod_bytes {H : Type} {enc : TypeId × Value → H} {W : World} {n : Nat} {v : Value} {y : DataW H × List MemPlace} (h : DataW.trod enc Try.prog W 0 (fun _ => true) true n 26 [v] = some y) : ∃ fa Z fc z, v = .slice fa Z fc ∧ PtW W fa Z fc z := by
  rcases open_ints Try.underlying26 Try.underlying5 Try.cells5 h with ⟨hcs, _⟩ | ⟨x, l, c, zs, hcs, _, hl, hm, hz, hx, hcell, hwz⟩
  · simp at hcs
    exact ⟨none, 0, 0, [], hcs, rfl, Bytes.nil, Nat.le_refl _, by omega, fun _ => rfl, .inl rfl⟩
  · simp at hcs
    simp only [if_true] at hz
    refine ⟨some x, l, c, zs.take l, hcs, by rw [List.length_take]; omega, (bytes_of_wf hwz).take _, hl, by unfold maxLen at hm; omega, (by intro h; cases h), row_of_arg (by omega) hcell⟩
theorem open_chunk {H : Type} {enc : TypeId × Value → H} {W : World} {r : Reach} {b0 : Nat} {v : Value} {d : DataW H} {p : List MemPlace} (hv : Value.okWide Try.prog W r b0 40 v) (h : DataW.Trod enc Try.prog W 0 (fun _ => true) true 40 v d p) : ∃ kd fa Z fc z, v = .agg #[.string kd, .slice fa Z fc] ∧ PtW W fa Z fc z := by
  obtain ⟨v0, v1, y0, y1, n, rfl, _, _, h0, h1⟩ := Go.Joins.open_agg2 Try.underlying40 (by kernel_rfl) Try.cellsCk hv h
  obtain ⟨s, e0, _⟩ := DataW.trod_string Try.underlying9 h0
  simp at e0
  subst e0
  obtain ⟨fa, Z, fc, z, rfl, hw⟩ := trod_bytes h1
  exact ⟨s, fa, Z, fc, z, rfl, hw⟩
theorem cturned_law (kd : ByteArray) (fa : Option Addr) (Z fc : Nat) (z : List Int) (a b : Int) (w : World) (hp : PtW w fa Z fc z) (ha : (Lit.int .u16 a).wf = true) (hb : (Lit.int .u32 b).wf = true) :
    Calls Try.prog 6 #[.agg #[.string kd, .slice fa Z fc], .int .u16 a, .int .u32 b] w fun e w' => e = .returned (.bool true) ∧ Below w.heap.size w w' := by
  have h1 : 0 ≤ a ∧ a < 65536 := by have := bounds_u16 ha; omega
  have h2 : 0 ≤ b ∧ b < 4294967296 := by have := bounds_u32 hb; omega
  have hw := wd_toNat b h2.1 h2.2
  have := cturned_walk kd fa Z fc z a.toNat (wd b) w hp.1 (by
    by_cases hZ : 2000 < Z
    · exact .inl hZ
    · exact .inr (hp.ok (by omega))) (by omega)
  rw [hw, show ((a.toNat : Nat) : Int) = a by omega] at this
  exact this
end Go.Proofs.Ytoofpkcgiodfcaa
