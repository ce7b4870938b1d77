/- A message that came in. -/
import Derived.Test.YtaibojmaghmfnaaMgA
import Derived.Test.YtaibojmaghmfnaaArgB
import Derived.ProofKit
import Derived.Deep.Slices
import Derived.OpenShut
import Derived.Stop.Joined
namespace Go.Proofs.Ytaibojmaghmfnaa
open Go.ChangeShapes Go.WideShapes Go.ChangeAt Go.WideMaps Go.WideElems Go.RowKit
theorem Try.cellsMsg : Try.prog.cellsOf 26 = 12 := by kernel_rfl
theorem Try.cellsRg : Try.prog.cellsOf 53 = 2 := by kernel_rfl
theorem Try.bytesRg : Try.prog.bytesOf 53 = 16 := by kernel_rfl
theorem Try.cellsRgs : Try.prog.cellsOf 23 = 1 := by kernel_rfl
theorem Try.cellsBs : Try.prog.cellsOf 24 = 1 := by kernel_rfl
theorem Try.cells22 : Try.prog.cellsOf 22 = 1 := by kernel_rfl
theorem Try.cellsI3 : Try.prog.cellsOf 3 = 1 := by kernel_rfl
theorem array12 {cs : Array Value} (h : cs.size = 12) : ∃ v0 v1 v2 v3 v4 v5 v6 v7 v8 v9 v10 v11, cs = #[v0, v1, v2, v3, v4, v5, v6, v7, v8, v9, v10, v11] := by
  obtain ⟨l⟩ := cs
  match l, h with
  | [v0, v1, v2, v3, v4, v5, v6, v7, v8, v9, v10, v11], _ => exact ⟨v0, v1, v2, v3, v4, v5, v6, v7, v8, v9, v10, v11, rfl⟩
theorem trod_by {H : Type} {enc : TypeId × Value → H} {W : World} {v : Value} {n : Nat} {y : DataW H × List MemPlace} (h : DataW.trod enc Try.prog W 0 (fun _ => true) true n 24 [v] = some y) :
    ∃ a len cap zs, v = .slice a len cap ∧ zs.length = len ∧ Bytes zs ∧ len ≤ cap ∧ cap ≤ maxLen ∧ (a = none → cap = 0) ∧ Row W a zs ∧ (len = 0 ∨ ∃ q ∈ y.1.weights Try.prog 24, len ≤ q) := by
  rcases open_ints Try.underlying24 Try.underlying5 Try.cells5 h with ⟨hcs, _⟩ | ⟨x, l, c, zs, hcs, _, hl, hm, hz, hx, hcell, hwz⟩
  · simp at hcs
    exact ⟨none, 0, 0, [], hcs, rfl, Bytes.nil, Nat.le_refl _, by unfold maxLen; omega, (fun _ => rfl), .inl rfl, .inl rfl⟩
  · simp at hcs
    simp only [if_true] at hz
    refine ⟨some x, l, c, zs.take l, hcs, by rw [List.length_take]; omega, (bytes_of_wf hwz).take _, hl, hm, (by intro h; cases h), row_of_arg (by omega) hcell, .inr ⟨((lits IntKind.u8 (zs.take l) : List (DataW H)).length + (lits IntKind.u8 (zs.drop l) : List (DataW H)).length) * Try.prog.bytesOf 5, ?_, ?_⟩⟩
    · rw [hx]; simp [DataW.weights, Try.underlying24]
    · rw [Try.bytes5]
      simp only [lits, List.length_map, List.length_take, List.length_drop]
      omega
theorem trod_rg {H : Type} {enc : TypeId × Value → H} {W : World} {v : Value} {n : Nat} {y : DataW H × List MemPlace} (h : DataW.trod enc Try.prog W 0 (fun _ => true) true n 23 [v] = some y) :
    ∃ a len cap G, v = .slice a len cap ∧ G.length = len ∧ RgR W a G ∧ (len = 0 ∨ ∃ q ∈ y.1.weights Try.prog 23, len * 16 ≤ q) := by
  rcases Deep.open_slice Try.underlying23 h with ⟨hcs, _⟩ | ⟨x, l, c, m, n, D, Pl, hcs, _, hl, hm, hmm, hdx, hx⟩
  · simp at hcs
    exact ⟨none, 0, 0, [], hcs, rfl, .inl rfl, .inl rfl⟩
  · simp at hcs
    have hml : l ≤ m := by rw [hmm]; simp; exact hl
    have each : ∀ i, i < l → ∃ q : Int × Int, W.cell? (x.add (i * 2)) = some (.int .i64 q.1) ∧ W.cell? (x.add (i * 2 + 1)) = some (.int .i64 q.2) := by
      intro i hi
      obtain ⟨cs', h1, h2⟩ := hx i (by omega)
      rw [Try.cellsRg] at h1
      obtain ⟨_, hlen, hcell⟩ := World.cells?_some h1
      obtain ⟨xs, k, hk, hxy, _, hxl, hff⟩ := DataW.trod_array Try.underlying53 h2
      match cs', hlen with
      | [w0, w1], _ =>
        have g0 := hff 0 (by omega)
        have g1 := hff 1 (by omega)
        simp [Try.cellsI3] at g0 g1
        match xs, hxl with
        | [y0, y1], _ =>
          simp at g0 g1
          obtain ⟨k0, e0, _, _⟩ := DataW.trod_int Try.underlying3 g0
          obtain ⟨k1, e1, _, _⟩ := DataW.trod_int Try.underlying3 g1
          simp at e0 e1
          subst e0 e1
          have c0 := hcell 0 (by omega)
          have c1 := hcell 1 (by omega)
          rw [Deep.add_add] at c0 c1
          exact ⟨(k0, k1), by simpa using c0, by simpa using c1⟩
    have hne : Inhabited (Int × Int) := ⟨(0, 0)⟩
    obtain ⟨F, hF⟩ := Deep.choose_lt each
    refine ⟨some x, l, c, (List.range l).map F, hcs, by simp, ?_, ?_⟩
    · by_cases h0 : l = 0
      · subst h0; exact .inl rfl
      · obtain ⟨b, off, spot⟩ := x
        have hc := (hF 0 (by omega)).1
        have hspot : spot = none := by simpa [Addr.add] using World.cell?_spot hc
        subst hspot
        refine .inr ⟨b, off, rfl, fun i hi => ?_⟩
        have hi' : i < l := by simpa using hi
        have := hF i hi'
        have e : ((List.range l).map F)[i]?.getD (0, 0) = F i := by simp [hi']
        unfold gx gy
        rw [e]
        exact ⟨by simpa [Addr.add_lit] using this.1, by simpa [Addr.add_lit, Nat.add_assoc] using this.2⟩
    · by_cases h0 : l = 0
      · exact .inl h0
      · refine .inr ⟨(((List.range l).map D).length + ((List.range (m - l)).map fun j => D (l + j)).length) * Try.prog.bytesOf 53, ?_, ?_⟩
        · rw [hdx]; simp [DataW.weights, Try.underlying23]
        · rw [Try.bytesRg]; simp; omega
theorem open_msg {H : Type} {enc : TypeId × Value → H} {W : World} {r : Reach} {b0 : Nat} {v : Value} {d : DataW H} {p : List MemPlace} {j : Nat} {ts : List TypeId} {ds : List (DataW H)} (hv : Value.okWide Try.prog W r b0 26 v) (h : DataW.Trod enc Try.prog W 0 (fun _ => true) true 26 v d p)
    (hsz : (DataW.weightsEach Try.prog ts ds).all (· ≤ reachBytes) = true) (ht : ts[j]? = some 26) (hd : ds[j]? = some d) :
    ∃ (m : Ms) (G : List (Int × Int)) (D : List Int), v = m.V ∧ MsM W m G D ∧ (Lit.int .i64 m.k).wf = true := by
  obtain ⟨cs, rfl, hcz⟩ := okWide_struct Try.underlying26 hv
  obtain ⟨v0, v1, v2, v3, v4, v5, v6, v7, v8, v9, v10, v11, rfl⟩ := array12 (hcz.trans Try.cellsMsg)
  obtain ⟨fuel, hf⟩ := h
  obtain ⟨xs, n, _, hx, _, hlen, hel⟩ := DataW.trod_struct Try.underlying26 hf
  simp only [Prod.mk.injEq] at hx
  obtain ⟨hdd, _⟩ := hx
  match xs, (show xs.length = 12 from hlen) with
  | [y0, y1, y2, y3, y4, y5, y6, y7, y8, y9, y10, y11], _ =>
    have h0 := hel 0 _ rfl
    have h1 := hel 1 _ rfl
    have h2 := hel 2 _ rfl
    have h3 := hel 3 _ rfl
    have h4 := hel 4 _ rfl
    have h5 := hel 5 _ rfl
    have h6 := hel 6 _ rfl
    have h7 := hel 7 _ rfl
    have h8 := hel 8 _ rfl
    have h9 := hel 9 _ rfl
    have h10 := hel 10 _ rfl
    have h11 := hel 11 _ rfl
    simp [Value.cells, Try.cellsI3, Try.cells22, Try.cellsRgs, Try.cellsBs] at h0 h1 h2 h3 h4 h5 h6 h7 h8 h9 h10 h11
    obtain ⟨k0, e0, _, w0⟩ := DataW.trod_int Try.underlying3 h0
    obtain ⟨k1, e1, _, w1⟩ := DataW.trod_int Try.underlying22 h1
    obtain ⟨k2, e2, _, w2⟩ := DataW.trod_int Try.underlying3 h2
    obtain ⟨k3, e3, _, w3⟩ := DataW.trod_int Try.underlying22 h3
    obtain ⟨k4, e4, _, w4⟩ := DataW.trod_int Try.underlying3 h4
    obtain ⟨k5, e5, _, w5⟩ := DataW.trod_int Try.underlying3 h5
    obtain ⟨k6, e6, _, w6⟩ := DataW.trod_int Try.underlying3 h6
    obtain ⟨k7, e7, _, w7⟩ := DataW.trod_int Try.underlying3 h7
    obtain ⟨k8, e8, _, w8⟩ := DataW.trod_int Try.underlying3 h8
    obtain ⟨k9, e9, _, w9⟩ := DataW.trod_int Try.underlying3 h9
    simp at e0 e1 e2 e3 e4 e5 e6 e7 e8 e9
    subst e0 e1 e2 e3 e4 e5 e6 e7 e8 e9
    obtain ⟨ra, rn, rc, G, rfl, hg, hr, hq⟩ := trod_rg h10
    obtain ⟨da, dn, dc, D, rfl, hdl, hdb, hdc, hdm, hdn, hdr, hq2⟩ := trod_by h11
    have hall : ∀ q, q ∈ d.weights Try.prog 26 → q ≤ 140737488351232 := fun q hq => by
      have := List.all_eq_true.1 hsz _ (DataW.weights_mem_each ht hd q hq)
      exact Nat.le_trans (of_decide_eq_true this) (by decide)
    have hr1 : rn * 16 ≤ 140737488351232 := by
      rcases hq with q | ⟨q, h1, h2⟩
      · omega
      · have := hall q (by rw [hdd]; simp [DataW.weights, Try.underlying26, DataW.weightsEach, h1]); omega
    have hd1 : dn ≤ 140737488351232 := by
      rcases hq2 with q | ⟨q, h1, h2⟩
      · omega
      · have := hall q (by rw [hdd]; simp [DataW.weights, Try.underlying26, DataW.weightsEach, h1]); omega
    have b1 := bounds_u32 w1
    have b3 := bounds_u32 w3
    unfold maxLen at hdm
    exact ⟨⟨k0, k1, k2, k3, k4, k5, k6, k7, k8, k9, ra, rn, rc, da, dn, dc⟩, G, D, rfl, ⟨hr, hg, ⟨hdl, hdb, hdc, ⟨hd1, by omega⟩, hdn, hdr⟩, ⟨b1.1, by show k1 < _; omega⟩, ⟨b3.1, by show k3 < _; omega⟩, by show rn ≤ _; omega⟩, w0⟩
end Go.Proofs.Ytaibojmaghmfnaa
