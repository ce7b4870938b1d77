/- Slices of int that came in. -/
import Derived.Test.YtjellgkojmgmjaaHfA
namespace Go.Proofs.Ytjellgkojmgmjaa
open Go.ChangeShapes Go.WideShapes Go.ChangeAt Go.RowKit

theorem irow_of_arg {w : World} {k : Nat} {zs : List Int} {x : Addr} (hk : k ≤ zs.length) (h : ∀ i, i < zs.length → w.cell? (x.add i) = some (.int .i64 (zs.getD i 0))) : IRow w (some x) (zs.take k) := by
  by_cases h0 : k = 0
  · subst h0; exact .inl rfl
  · obtain ⟨b, off, spot⟩ := x
    have hc := h 0 (by omega)
    have hspot : spot = none := by simpa [Addr.add] using World.cell?_spot hc
    subst hspot
    refine .inr ⟨b, off, rfl, fun i hi => ?_⟩
    rw [List.length_take] at hi
    have h1 : i < k := by omega
    have hq := h i (by omega)
    simp only [List.getElem?_take, h1, if_true]
    cases i with
    | zero => simpa [Addr.add] using hq
    | succ j => simpa [Addr.add] using hq
theorem Try.bytes3 : Try.prog.bytesOf 3 = 8 := by kernel_rfl
theorem Try.cells3 : Try.prog.cellsOf 3 = 1 := by kernel_rfl
/-- What is known of numbers that came in. -/
def IArg (W : World) (a : Option Addr) (len cap : Nat) : Prop :=
  ∃ zs : List Int, zs.length = len ∧ len ≤ cap ∧ cap ≤ 17592186044416 ∧ (a = none → cap = 0) ∧ IRow W a zs
theorem open_nums {H : Type} {enc : TypeId × Value → H} {W : World} {a : Option Addr} {len cap j : Nat} {d : DataW H} {p : List MemPlace} {ts : List TypeId} {ds : List (DataW H)}
    (h0 : DataW.Trod enc Try.prog W 0 (fun _ => true) true 22 (.slice a len cap) d p) (hsz : (DataW.weightsEach Try.prog ts ds).all (· ≤ reachBytes) = true) (ht : ts[j]? = some 22) (hd : ds[j]? = some d) : IArg W a len cap := by
  obtain ⟨fuel, hf⟩ := h0
  rcases open_ints Try.underlying22 Try.underlying3 Try.cells3 hf with ⟨hcs, _⟩ | ⟨x, l, c, zs, hcs, _, hl, hm, hz, hx, hcell, hwz⟩
  · simp [Value.cells] at hcs
    obtain ⟨rfl, rfl, rfl⟩ := hcs
    exact ⟨[], rfl, Nat.le_refl _, by omega, fun _ => rfl, .inl rfl⟩
  · simp [Value.cells] at hcs
    obtain ⟨rfl, rfl, rfl⟩ := hcs
    simp only [Prod.mk.injEq] at hx
    obtain ⟨rfl, rfl⟩ := hx
    simp only [if_true] at hz
    have hr := sized_slice hsz (j := j) (t := 22) (e := 3) ht hd Try.underlying22
    rw [Try.bytes3] at hr
    simp only [lits, List.length_map, List.length_take, List.length_drop, reachBytes] at hr
    refine ⟨zs.take len, by rw [List.length_take]; omega, hl, by omega, (by intro h; cases h), irow_of_arg (by omega) hcell⟩
end Go.Proofs.Ytjellgkojmgmjaa
