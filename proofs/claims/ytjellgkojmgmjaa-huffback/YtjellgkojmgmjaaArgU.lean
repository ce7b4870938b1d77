/- Slices of uint16 that came in. -/
import Derived.Test.YtjellgkojmgmjaaArgI
namespace Go.Proofs.Ytjellgkojmgmjaa
open Go.ChangeShapes Go.WideShapes Go.ChangeAt Go.RowKit

/-- zs lie at a, as uint16. -/
def URow (w : World) (a : Option Addr) (zs : List Int) : Prop :=
  zs = [] ∨ ∃ b off, a = some ⟨b, off, none⟩ ∧ ∀ i, i < zs.length → w.cell? ⟨b, off + i, none⟩ = some (.int .u16 (zs[i]?.getD 0))
theorem URow.at {w : World} {a : Option Addr} {zs : List Int} (h : URow w a zs) (i : Nat) (hi : i < zs.length) : ∃ b off, a = some ⟨b, off, none⟩ ∧ w.cell? ⟨b, off + i, none⟩ = some (.int .u16 (zs[i]?.getD 0)) := by
  rcases h with rfl | ⟨b, off, e, hc⟩
  · simp at hi
  · exact ⟨b, off, e, hc i hi⟩
theorem urow_of_arg {w : World} {k : Nat} {zs : List Int} {x : Addr} (hk : k ≤ zs.length) (h : ∀ i, i < zs.length → w.cell? (x.add i) = some (.int .u16 (zs.getD i 0))) : URow w (some x) (zs.take k) := by
  by_cases h0 : k = 0
  · subst h0; exact .inl rfl
  · obtain ⟨b, off, spot⟩ := x
    have hc := h 0 (by omega)
    have hspot : spot = none := by simpa [Addr.add] using World.cell?_spot hc
    subst hspot
    refine .inr ⟨b, off, rfl, fun i hi => ?_⟩
    rw [List.length_take] at hi
    have h1 : i < k := by omega
    have hq := h i (by omega)
    simp only [List.getElem?_take, h1, if_true]
    cases i with
    | zero => simpa [Addr.add] using hq
    | succ j => simpa [Addr.add] using hq
theorem Try.bytesU : Try.prog.bytesOf 50 = 2 := by kernel_rfl
theorem Try.cellsU : Try.prog.cellsOf 50 = 1 := by kernel_rfl
def Short (zs : List Int) : Prop := ∀ z ∈ zs, 0 ≤ z ∧ z < 65536
def UArg (W : World) (a : Option Addr) (len cap : Nat) : Prop :=
  ∃ zs : List Int, Short zs ∧ zs.length = len ∧ len ≤ cap ∧ cap ≤ 70368744177664 ∧ (a = none → cap = 0) ∧ URow W a zs
theorem short_of_wf {zs : List Int} (h : ∀ n ∈ zs, (Lit.int .u16 n).wf = true) : Short zs := by
  intro z hz
  have := bounds_u16 (h z hz)
  omega
theorem open_u16s {H : Type} {enc : TypeId × Value → H} {W : World} {a : Option Addr} {len cap j : Nat} {d : DataW H} {p : List MemPlace} {ts : List TypeId} {ds : List (DataW H)}
    (h0 : DataW.Trod enc Try.prog W 0 (fun _ => true) true 47 (.slice a len cap) d p) (hsz : (DataW.weightsEach Try.prog ts ds).all (· ≤ reachBytes) = true) (ht : ts[j]? = some 47) (hd : ds[j]? = some d) : UArg W a len cap := by
  obtain ⟨fuel, hf⟩ := h0
  rcases open_ints Try.underlying47 Try.underlying50 Try.cellsU hf with ⟨hcs, _⟩ | ⟨x, l, c, zs, hcs, _, hl, hm, hz, hx, hcell, hwz⟩
  · simp [Value.cells] at hcs
    obtain ⟨rfl, rfl, rfl⟩ := hcs
    exact ⟨[], (by intro z hz; cases hz), rfl, Nat.le_refl _, by omega, fun _ => rfl, .inl rfl⟩
  · simp [Value.cells] at hcs
    obtain ⟨rfl, rfl, rfl⟩ := hcs
    simp only [Prod.mk.injEq] at hx
    obtain ⟨rfl, rfl⟩ := hx
    simp only [if_true] at hz
    have hr := sized_slice hsz (j := j) (t := 47) (e := 50) ht hd Try.underlying47
    rw [Try.bytesU] at hr
    simp only [lits, List.length_map, List.length_take, List.length_drop, reachBytes] at hr
    refine ⟨zs.take len, fun z hz => short_of_wf hwz z (List.mem_of_mem_take hz), by rw [List.length_take]; omega, hl, by omega, (by intro h; cases h), urow_of_arg (by omega) hcell⟩
end Go.Proofs.Ytjellgkojmgmjaa
