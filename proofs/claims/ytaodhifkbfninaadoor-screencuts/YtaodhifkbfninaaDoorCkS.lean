/- A screen that came in; what the laid tables give. -/
import Derived.Test.YtaodhifkbfninaaDoorScR
import Derived.Deep.Slices
import Derived.ProofKit
import Derived.LaidMore
import Derived.OpenShut
import Derived.Stop.Joined
namespace Go.Proofs.YtaodhifkbfninaaDoor
open Go.ChangeShapes Go.WideShapes Go.ChangeAt Go.WideMaps Go.WideElems Go.RowKit
theorem Tryd.cellsTiS : Tryd.prog.cellsOf 53 = 3 := by kernel_rfl
theorem Tryd.cells5S : Tryd.prog.cellsOf 5 = 1 := by kernel_rfl
set_option maxRecDepth 100000 in
theorem trod_tintsS {H : Type} {enc : TypeId × Value → H} {W : World} {v : Value} {n : Nat} {y : DataW H × List MemPlace} (h : DataW.trod enc Tryd.prog W 0 (fun _ => true) true n 24 [v] = some y) : ∃ a len cap T, v = .slice a len cap ∧ Row W a T ∧ Bytes T ∧ T.length = 3 * len ∧ len ≤ cap := by
  rcases Deep.open_slice Tryd.underlying24 h with ⟨hcs, _⟩ | ⟨x, len, cap, m, n, D, Pl, hcs, _, hl, hm, hmm, hdx, hx⟩
  · simp at hcs
    exact ⟨none, 0, 0, [], hcs, .inl rfl, Bytes.nil, rfl, Nat.le_refl _⟩
  · simp at hcs
    subst hcs
    have hml : len ≤ m := by rw [hmm]; simp; exact hl
    have each : ∀ i, i < len → ∃ q : Int × Int × Int, (W.cell? (x.add (i * 3)) = some (.int .u8 q.1) ∧ W.cell? (x.add (i * 3 + 1)) = some (.int .u8 q.2.1) ∧ W.cell? (x.add (i * 3 + 2)) = some (.int .u8 q.2.2)) ∧ (0 ≤ q.1 ∧ q.1 < 256) ∧ (0 ≤ q.2.1 ∧ q.2.1 < 256) ∧ (0 ≤ q.2.2 ∧ q.2.2 < 256) := by
      intro i hi
      obtain ⟨cs', h1, h2⟩ := hx i (by omega)
      rw [Tryd.cellsTiS] at h1
      obtain ⟨_, hlen, hcell⟩ := World.cells?_some h1
      obtain ⟨xs, k, hk, hxy, _, hxl, hff⟩ := DataW.trod_struct Tryd.underlying53 h2
      match xs, hxl, cs', hlen, hxy with
      | [y0, y1, y2], _, [v0, v1, v2], _, hxy =>
        have g0 := hff 0 _ rfl
        have g1 := hff 1 _ rfl
        have g2 := hff 2 _ rfl
        simp [Tryd.cells5S] at g0 g1 g2
        obtain ⟨k0, e0, _, w0⟩ := DataW.trod_int Tryd.underlying5 g0
        obtain ⟨k1, e1, _, w1⟩ := DataW.trod_int Tryd.underlying5 g1
        obtain ⟨k2, e2, _, w2⟩ := DataW.trod_int Tryd.underlying5 g2
        simp at e0 e1 e2
        subst e0 e1 e2
        have c0 := hcell 0 (by omega)
        have c1 := hcell 1 (by omega)
        have c2 := hcell 2 (by omega)
        rw [Deep.add_add] at c0 c1 c2
        have b0 := bounds_u8 w0
        have b1 := bounds_u8 w1
        have b2 := bounds_u8 w2
        exact ⟨(k0, k1, k2), ⟨by simpa using c0, by simpa using c1, by simpa using c2⟩, (by omega : 0 ≤ k0 ∧ k0 < 256), (by omega : 0 ≤ k1 ∧ k1 < 256), (by omega : 0 ≤ k2 ∧ k2 < 256)⟩
    have hne : Inhabited (Int × Int × Int) := ⟨(0, 0, 0)⟩
    obtain ⟨F, hF⟩ := Deep.choose_lt each
    refine ⟨some x, len, cap, (List.range (3 * len)).map fun i => if i % 3 = 0 then (F (i / 3)).1 else if i % 3 = 1 then (F (i / 3)).2.1 else (F (i / 3)).2.2, rfl, ?_, ?_, by simp, hl⟩
    rotate_left
    · intro z hz
      simp only [List.mem_map, List.mem_range] at hz
      obtain ⟨i, hi, rfl⟩ := hz
      have h := (hF (i / 3) (by omega)).2
      split
      · exact h.1
      · split
        · exact h.2.1
        · exact h.2.2
    · by_cases hz : len = 0
      · subst hz; exact .inl rfl
      · obtain ⟨bb, off, spot⟩ := x
        have hc := (hF 0 (by omega)).1.1
        have hspot : spot = none := by simpa [Addr.add] using World.cell?_spot hc
        subst hspot
        refine .inr ⟨bb, off, rfl, fun i hi => ?_⟩
        simp only [List.length_map, List.length_range] at hi
        have h := (hF (i / 3) (by omega)).1
        simp only [Addr.add_lit] at h
        simp only [List.getElem?_map, List.getElem?_range hi, Option.map_some, Option.getD_some]
        rcases (show i % 3 = 0 ∨ i % 3 = 1 ∨ i % 3 = 2 by omega) with e | e | e
        · rw [if_pos e, ← h.1, show i = i / 3 * 3 by omega]; simp
        · rw [if_neg (by omega), if_pos e, ← h.2.1, show off + i = off + (i / 3 * 3 + 1) by omega]
        · rw [if_neg (by omega), if_neg (by omega), ← h.2.2, show off + i = off + (i / 3 * 3 + 2) by omega]
theorem Tryd.cellsScS : Tryd.prog.cellsOf 26 = 7 := by kernel_rfl
theorem Tryd.cellsTsS : Tryd.prog.cellsOf 24 = 1 := by kernel_rfl
theorem array7 {cs : Array Value} (h : cs.size = 7) : ∃ v0 v1 v2 v3 v4 v5 v6, cs = #[v0, v1, v2, v3, v4, v5, v6] := by
  obtain ⟨l⟩ := cs
  match l, h with
  | [v0, v1, v2, v3, v4, v5, v6], _ => exact ⟨v0, v1, v2, v3, v4, v5, v6, rfl⟩
theorem open_screen {H : Type} {enc : TypeId × Value → H} {W : World} {r : Reach} {b0 : Nat} {v : Value} {d : DataW H} {p : List MemPlace} (hv : Value.okWide Tryd.prog W r b0 26 v) (h : DataW.Trod enc Tryd.prog W 0 (fun _ => true) true 26 v d p) :
    ∃ VW VH ta tn tc Lo C La B, v = ScV VW VH (.slice ta tn tc) Lo C La B ∧ ScIn W ta tn tc := by
  obtain ⟨cs, rfl, hsz⟩ := okWide_struct Tryd.underlying26 hv
  obtain ⟨v0, v1, v2, v3, v4, v5, v6, rfl⟩ := array7 (hsz.trans Tryd.cellsScS)
  obtain ⟨fuel, hf⟩ := h
  obtain ⟨xs, n, _, _, _, hlen, hel⟩ := DataW.trod_struct Tryd.underlying26 hf
  have c3 : Tryd.prog.cellsOf 3 = 1 := by kernel_rfl
  have c4 : Tryd.prog.cellsOf 4 = 1 := by kernel_rfl
  have hl7 : xs.length = 7 := hlen
  have q (i : Nat) (hi : i < 7) : ∃ y, xs[i]? = some y := ⟨_, List.getElem?_eq_getElem (by omega)⟩
  obtain ⟨y0, e0⟩ := q 0 (by omega)
  obtain ⟨y1, e1⟩ := q 1 (by omega)
  obtain ⟨y2, e2⟩ := q 2 (by omega)
  obtain ⟨y3, e3⟩ := q 3 (by omega)
  obtain ⟨y4, e4⟩ := q 4 (by omega)
  obtain ⟨y5, e5⟩ := q 5 (by omega)
  obtain ⟨y6, e6⟩ := q 6 (by omega)
  have h0 := hel 0 _ rfl
  have h1 := hel 1 _ rfl
  have h2 := hel 2 _ rfl
  have h3 := hel 3 _ rfl
  have h4 := hel 4 _ rfl
  have h5 := hel 5 _ rfl
  have h6 := hel 6 _ rfl
  rw [e0] at h0
  rw [e1] at h1
  rw [e2] at h2
  rw [e3] at h3
  rw [e4] at h4
  rw [e5] at h5
  rw [e6] at h6
  simp [Value.cells, c3, c4, Tryd.cellsTsS] at h0 h1 h2 h3 h4 h5 h6
  obtain ⟨k0, g0, _, _⟩ := DataW.trod_int Tryd.underlying3 h0
  obtain ⟨k1, g1, _, _⟩ := DataW.trod_int Tryd.underlying3 h1
  obtain ⟨ta, tn, tc, T, rfl, hr, hb, hl, hc⟩ := trod_tintsS h2
  obtain ⟨k3, g3, _⟩ := DataW.trod_bool Tryd.underlying4 h3
  obtain ⟨k4, g4, _, _⟩ := DataW.trod_int Tryd.underlying3 h4
  obtain ⟨k5, g5, _⟩ := DataW.trod_bool Tryd.underlying4 h5
  obtain ⟨k6, g6, _, _⟩ := DataW.trod_int Tryd.underlying3 h6
  simp at g0 g1 g3 g4 g5 g6
  subst g0 g1 g3 g4 g5 g6
  exact ⟨k0, k1, ta, tn, tc, k3, k4, k5, k6, rfl, T, hb, hl, hc, hr⟩
theorem tD32 : (Tryd.prog.globals[0]?).map (·.type) = some 98 := by kernel_rfl
theorem tD64 : (Tryd.prog.globals[1]?).map (·.type) = some 99 := by kernel_rfl
theorem tab_of_laid {W : World} (h : laidMetH Tryd.prog Rows.screenReadsRow.laid W) : TabD W := by
  rw [MakeChecks.laidMetH_plain _ _ _ (by kernel_rfl)] at h
  obtain ⟨ps, h0, _⟩ := h
  obtain ⟨g0, t0, cs0, f0, p0, q0, hg0, ht0, hv0, hd0, hr0, _⟩ := h0
  obtain ⟨g1, t1, cs1, f1, p1, q1, hg1, ht1, hv1, hd1, _, _⟩ := hr0
  obtain rfl : g1 = 1 := Option.some.inj (hg1.symm.trans (show _ = some 1 by kernel_rfl))
  obtain rfl := Option.some.inj (tD64.symm.trans ht1)
  obtain ⟨xs, m1, rfl, hx1, hlen, hn7, hel⟩ := DataW.trod_array Tryd.underlying99 hd1
  simp only [Prod.mk.injEq] at hx1
  have one : ∀ (i : Nat) (v : Int), i < 64 → (match (Rows.laid_math_bits_deBruijn64tab : DataW Unit) with | .agg ys => ys[i]? | _ => none) = some (.lit (.int .u8 v)) → W.cell? ⟨1, i, none⟩ = some (.int .u8 v) := by
    intro i v hi hv
    have h0 := hel i hi
    rw [Tryd.cells5, Nat.mul_one] at h0
    obtain ⟨y, hy⟩ : ∃ y, xs[i]? = some y := ⟨_, List.getElem?_eq_getElem (by omega)⟩
    rw [hy] at h0
    obtain ⟨k, e1, e2, _⟩ := DataW.trod_int Tryd.underlying5 h0
    have hc : cs1.toList[i]? = some (.int .u8 k) := by
      have := congrArg (fun l => l[0]?) e1
      simpa using this
    rw [World.var?_cell hg1 hv1 i]
    have hw := congrArg (fun l : DataW _ => match l with | .agg ys => ys[i]? | _ => none) hx1.1
    simp only [List.getElem?_map, hy, Option.map_some, e2] at hw
    rw [hv] at hw
    simp at hw
    rw [hw]
    simpa using hc
  intro k hk
  match k, hk with
  | 0, _ => exact one 0 0 (by omega) rfl
  | 1, _ => exact one 1 1 (by omega) rfl
  | 2, _ => exact one 3 2 (by omega) rfl
  | 3, _ => exact one 7 3 (by omega) rfl
  | 4, _ => exact one 15 4 (by omega) rfl
  | 5, _ => exact one 31 5 (by omega) rfl
  | 6, _ => exact one 63 6 (by omega) rfl
  | 7, _ => exact one 62 7 (by omega) rfl
theorem door_met (os : Os) (args : Array Value) : laidMetH Tryd.prog Rows.screenReadsRow.laid ((World.doorLaid Tryd.prog 400 os).forCall (fun _ _ => 0) ⟨#[], args, []⟩).memory :=
  laidMetH_of_parts3 (fuel := 8) (laidMet_of_run' 8 (by kernel_rfl) (by kernel_rfl)) (by kernel_rfl) (by kernel_rfl)
end Go.Proofs.YtaodhifkbfninaaDoor
