/- A token that came in; the law on writing. -/
import Derived.Test.YtinmkhdangknbaaTkQ
import Derived.Test.YtinmkhdangknbaaTkL
import Derived.ProofKit
import Derived.Deep.Slices
import Derived.OpenShut
import Derived.Stop.Joined
namespace Go.Proofs.Ytinmkhdangknbaa
open Go.ChangeShapes Go.WideShapes Go.ChangeAt Go.WideMaps Go.WideElems Go.RowKit
theorem Try.cellsTok : Try.prog.cellsOf 25 = 3 := by kernel_rfl
theorem Try.cellsBs : Try.prog.cellsOf 23 = 1 := by kernel_rfl
theorem Try.cells22 : Try.prog.cellsOf 22 = 1 := by kernel_rfl
theorem Try.cellsI3 : Try.prog.cellsOf 3 = 1 := by kernel_rfl
theorem array3 {cs : Array Value} (h : cs.size = 3) : ∃ v0 v1 v2, cs = #[v0, v1, v2] := by
  obtain ⟨l⟩ := cs
  match l, h with
  | [v0, v1, v2], _ => exact ⟨v0, v1, v2, rfl⟩
theorem trod_by {H : Type} {enc : TypeId × Value → H} {W : World} {v : Value} {n : Nat} {y : DataW H × List MemPlace} (h : DataW.trod enc Try.prog W 0 (fun _ => true) true n 23 [v] = some y) :
    ∃ a len cap zs, v = .slice a len cap ∧ zs.length = len ∧ Bytes zs ∧ len ≤ cap ∧ cap ≤ maxLen ∧ (a = none → cap = 0) ∧ Row W a zs ∧ (len = 0 ∨ ∃ q ∈ y.1.weights Try.prog 23, len ≤ q) := by
  rcases open_ints Try.underlying23 Try.underlying5 Try.cells5 h with ⟨hcs, _⟩ | ⟨x, l, c, zs, hcs, _, hl, hm, hz, hx, hcell, hwz⟩
  · simp at hcs
    exact ⟨none, 0, 0, [], hcs, rfl, Bytes.nil, Nat.le_refl _, by unfold maxLen; omega, (fun _ => rfl), .inl rfl, .inl rfl⟩
  · simp at hcs
    simp only [if_true] at hz
    refine ⟨some x, l, c, zs.take l, hcs, by rw [List.length_take]; omega, (bytes_of_wf hwz).take _, hl, hm, (by intro h; cases h), row_of_arg (by omega) hcell, .inr ⟨((lits IntKind.u8 (zs.take l) : List (DataW H)).length + (lits IntKind.u8 (zs.drop l) : List (DataW H)).length) * Try.prog.bytesOf 5, ?_, ?_⟩⟩
    · rw [hx]; simp [DataW.weights, Try.underlying23]
    · rw [Try.bytes5]
      simp only [lits, List.length_map, List.length_take, List.length_drop]
      omega
theorem open_tok {H : Type} {enc : TypeId × Value → H} {W : World} {r : Reach} {b0 : Nat} {v : Value} {d : DataW H} {p : List MemPlace} {j : Nat} {ts : List TypeId} {ds : List (DataW H)} (hv : Value.okWide Try.prog W r b0 25 v) (h : DataW.Trod enc Try.prog W 0 (fun _ => true) true 25 v d p)
    (hsz : (DataW.weightsEach Try.prog ts ds).all (· ≤ reachBytes) = true) (ht : ts[j]? = some 25) (hd : ds[j]? = some d) :
    ∃ (f s : Int) (a : Option Addr) (n c : Nat) (D : List Int), v = .agg #[.int .i64 f, .int .u32 s, .slice a n c] ∧ BOk W a n c D ∧ 0 ≤ s ∧ s < 4294967296 := by
  obtain ⟨cs, rfl, hcz⟩ := okWide_struct Try.underlying25 hv
  obtain ⟨v0, v1, v2, rfl⟩ := array3 (hcz.trans Try.cellsTok)
  obtain ⟨fuel, hf⟩ := h
  obtain ⟨xs, n, _, hx, _, hlen, hel⟩ := DataW.trod_struct Try.underlying25 hf
  simp only [Prod.mk.injEq] at hx
  obtain ⟨hdd, _⟩ := hx
  match xs, (show xs.length = 3 from hlen) with
  | [y0, y1, y2], _ =>
    have h0 := hel 0 _ rfl
    have h1 := hel 1 _ rfl
    have h2 := hel 2 _ rfl
    simp [Value.cells, Try.cellsI3, Try.cells22, Try.cellsBs] at h0 h1 h2
    obtain ⟨k0, e0, _, w0⟩ := DataW.trod_int Try.underlying3 h0
    obtain ⟨k1, e1, _, w1⟩ := DataW.trod_int Try.underlying22 h1
    simp at e0 e1
    subst e0 e1
    obtain ⟨da, dn, dc, D, rfl, hdl, hdb, hdc, hdm, hdn, hdr, hq2⟩ := trod_by h2
    have hall : ∀ q, q ∈ d.weights Try.prog 25 → q ≤ 140737488351232 := fun q hq => by
      have := List.all_eq_true.1 hsz _ (DataW.weights_mem_each ht hd q hq)
      exact Nat.le_trans (of_decide_eq_true this) (by decide)
    have hd1 : dn ≤ 140737488351232 := by
      rcases hq2 with q | ⟨q, h1, h2⟩
      · omega
      · have := hall q (by rw [hdd]; simp [DataW.weights, Try.underlying25, DataW.weightsEach, h1]); omega
    have b1 := bounds_u32 w1
    unfold maxLen at hdm
    exact ⟨k0, k1, da, dn, dc, D, rfl, ⟨hdl, hdb, hdc, ⟨hd1, by omega⟩, hdn, hdr⟩, b1.1, by omega⟩
end Go.Proofs.Ytinmkhdangknbaa
