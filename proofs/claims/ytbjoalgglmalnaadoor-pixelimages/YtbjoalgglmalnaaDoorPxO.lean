/- A raster that came in; PixelChecks. -/
import Derived.Test.YtbjoalgglmalnaaDoorPxN
import Derived.Test.YtbjoalgglmalnaaDoorHdI
import Derived.ProofKit
import Derived.Deep.Slices
import Derived.OpenShut
import Derived.Stop.Joined
namespace Go.Proofs.YtbjoalgglmalnaaDoor
open Go.ChangeShapes Go.WideShapes Go.ChangeAt Go.WideMaps Go.WideElems Go.RowKit
theorem Tryd.cellsRs : Tryd.prog.cellsOf 40 = 9 := by kernel_rfl
theorem Tryd.cellsHr : Tryd.prog.cellsOf 37 = 5 := by kernel_rfl
theorem Tryd.cellsTs : Tryd.prog.cellsOf 38 = 1 := by kernel_rfl
theorem Tryd.cellsIs : Tryd.prog.cellsOf 22 = 1 := by kernel_rfl
theorem array9 {cs : Array Value} (h : cs.size = 9) : ∃ v0 v1 v2 v3 v4 v5 v6 v7 v8, cs = #[v0, v1, v2, v3, v4, v5, v6, v7, v8] := by
  obtain ⟨l⟩ := cs
  match l, h with
  | [v0, v1, v2, v3, v4, v5, v6, v7, v8], _ => exact ⟨v0, v1, v2, v3, v4, v5, v6, v7, v8, rfl⟩
theorem trod_irow {H : Type} {enc : TypeId × Value → H} {W : World} {v : Value} {n : Nat} {y : DataW H × List MemPlace} (h : DataW.trod enc Tryd.prog W 0 (fun _ => true) true n 22 [v] = some y) : ∃ a len cap zs, v = .slice a len cap ∧ IRow W a zs ∧ zs.length = len := by
  rcases open_ints Tryd.underlying22 Tryd.underlying3 Tryd.cells3 h with ⟨hcs, _⟩ | ⟨x, l, c, zs, hcs, _, hl, hm, hz, hx, hcell, hwz⟩
  · simp at hcs
    exact ⟨none, 0, 0, [], hcs, .inl rfl, rfl⟩
  · simp at hcs
    simp only [if_true] at hz
    exact ⟨some x, l, c, zs.take l, hcs, irow_of_arg (by omega) hcell, by rw [List.length_take]; omega⟩
theorem trod_tints {H : Type} {enc : TypeId × Value → H} {W : World} {v : Value} {n : Nat} {y : DataW H × List MemPlace} (h : DataW.trod enc Tryd.prog W 0 (fun _ => true) true n 38 [v] = some y) : ∃ a len cap, v = .slice a len cap := by
  rcases Deep.open_slice Tryd.underlying38 h with ⟨hcs, _⟩ | ⟨x, l, c, m, n, D, Pl, hcs, _⟩
  · simp at hcs
    exact ⟨none, 0, 0, hcs⟩
  · simp at hcs
    exact ⟨some x, l, c, hcs⟩
theorem open_raster {H : Type} {enc : TypeId × Value → H} {W : World} {r : Reach} {b0 : Nat} {v : Value} {d : DataW H} {p : List MemPlace} (hv : Value.okWide Tryd.prog W r b0 40 v) (h : DataW.Trod enc Tryd.prog W 0 (fun _ => true) true 40 v d p) :
    ∃ (x : Rs) (A K S : List Int), v = x.V ∧ RsA W x A K S := by
  obtain ⟨cs, rfl, hsz⟩ := okWide_struct Tryd.underlying40 hv
  obtain ⟨v0, v1, v2, v3, v4, v5, v6, v7, v8, rfl⟩ := array9 (hsz.trans Tryd.cellsRs)
  obtain ⟨fuel, hf⟩ := h
  obtain ⟨xs, n, _, _, _, hlen, hel⟩ := DataW.trod_struct Tryd.underlying40 hf
  have hl5 : xs.length = 5 := hlen
  have q (i : Nat) (hi : i < 5) : ∃ y, xs[i]? = some y := ⟨_, List.getElem?_eq_getElem (by omega)⟩
  obtain ⟨y0, e0⟩ := q 0 (by omega)
  obtain ⟨y1, e1⟩ := q 1 (by omega)
  obtain ⟨y2, e2⟩ := q 2 (by omega)
  obtain ⟨y3, e3⟩ := q 3 (by omega)
  obtain ⟨y4, e4⟩ := q 4 (by omega)
  have h0 := hel 0 _ rfl
  have h1 := hel 1 _ rfl
  have h2 := hel 2 _ rfl
  have h3 := hel 3 _ rfl
  have h4 := hel 4 _ rfl
  rw [e0] at h0
  rw [e1] at h1
  rw [e2] at h2
  rw [e3] at h3
  rw [e4] at h4
  simp [Value.cells, Tryd.cellsHr, Tryd.cellsTs, Tryd.cellsIs] at h0 h1 h2 h3 h4
  obtain ⟨ta, tn, tc, rfl⟩ := trod_tints h1
  obtain ⟨aa, an, ac, A, rfl, ga, na⟩ := trod_irow h2
  obtain ⟨ca, cn, cc, K, rfl, gk, nk⟩ := trod_irow h3
  obtain ⟨sa, sn, sc, S, rfl, gs, ns⟩ := trod_irow h4
  obtain ⟨zs, m, _, _, _, hlen2, hel2⟩ := DataW.trod_struct Tryd.underlying37 h0
  have hz5 : zs.length = 5 := hlen2
  have q2 (i : Nat) (hi : i < 5) : ∃ y, zs[i]? = some y := ⟨_, List.getElem?_eq_getElem (by omega)⟩
  obtain ⟨z0, t0⟩ := q2 0 (by omega)
  obtain ⟨z1, t1⟩ := q2 1 (by omega)
  obtain ⟨z2, t2⟩ := q2 2 (by omega)
  obtain ⟨z3, t3⟩ := q2 3 (by omega)
  obtain ⟨z4, t4⟩ := q2 4 (by omega)
  have u0 := hel2 0 _ rfl
  have u1 := hel2 1 _ rfl
  have u2 := hel2 2 _ rfl
  have u3 := hel2 3 _ rfl
  have u4 := hel2 4 _ rfl
  rw [t0] at u0
  rw [t1] at u1
  rw [t2] at u2
  rw [t3] at u3
  rw [t4] at u4
  have c3 : Tryd.prog.cellsOf 3 = 1 := by kernel_rfl
  have c4 : Tryd.prog.cellsOf 4 = 1 := by kernel_rfl
  obtain ⟨k0, g0, _, w0⟩ := DataW.trod_int Tryd.underlying3 u0
  obtain ⟨k1, g1, _, w1⟩ := DataW.trod_int Tryd.underlying3 u1
  obtain ⟨k2, g2, _, w2⟩ := DataW.trod_int Tryd.underlying3 u2
  obtain ⟨k3, g3, _, w3⟩ := DataW.trod_int Tryd.underlying3 u3
  obtain ⟨k4, g4, _⟩ := DataW.trod_bool Tryd.underlying4 u4
  simp [c3, c4] at g0 g1 g2 g3 g4
  subst g0 g1 g2 g3 g4
  exact ⟨⟨k0, k1, k2, k3, k4, ta, tn, tc, aa, an, ac, ca, cn, cc, sa, sn, sc⟩, A, K, S, rfl, ⟨ga, na, gk, nk, gs, ns⟩⟩
end Go.Proofs.YtbjoalgglmalnaaDoor
