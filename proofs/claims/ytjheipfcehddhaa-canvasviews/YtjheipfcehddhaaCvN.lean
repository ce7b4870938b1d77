/- Lines that came in. -/
import Derived.Test.YtjheipfcehddhaaCvD
import Derived.Test.YtjheipfcehddhaaArgB
import Derived.Lib.SmallJoins
import Derived.Deep.Slices
namespace Go.Proofs.Ytjheipfcehddhaa
open Go.ChangeShapes Go.WideShapes Go.ChangeAt Go.RowKit
theorem Try.cellsSp : Try.prog.cellsOf 58 = 2 := by kernel_rfl
theorem Try.cellsCo : Try.prog.cellsOf 49 = 4 := by kernel_rfl
theorem Try.cellsLi : Try.prog.cellsOf 35 = 3 := by kernel_rfl
theorem Try.cellsSs : Try.prog.cellsOf 32 = 1 := by kernel_rfl
theorem Try.cellsCs : Try.prog.cellsOf 33 = 1 := by kernel_rfl
theorem Try.cells3c : Try.prog.cellsOf 3 = 1 := by kernel_rfl
theorem Try.cells47c : Try.prog.cellsOf 47 = 1 := by kernel_rfl
theorem Try.bytesSp : Try.prog.bytesOf 58 = 16 := by kernel_rfl
theorem Try.bytesCo : Try.prog.bytesOf 49 = 8 := by kernel_rfl
theorem spA_of (G : Nat → Int × Int) (n i : Nat) (hi : i < n) : spA ((List.range n).map G) i = G i := by
  unfold spA; simp [hi]
theorem coA_of (G : Nat → Col) (n i : Nat) (hi : i < n) : coA ((List.range n).map G) i = G i := by
  unfold coA; simp [hi]
theorem trod_spots {H : Type} {enc : TypeId × Value → H} {W : World} {n : Nat} {v : Value} {y : DataW H × List MemPlace} (h : DataW.trod enc Try.prog W 0 (fun _ => true) true n 32 [v] = some y) :
    ∃ a cap S, v = .slice a (S : List (Int × Int)).length cap ∧ S.length ≤ cap ∧ (cap ≤ maxLen ∧ (a = none → cap = 0)) ∧ SpRow W a S ∧ (S = [] ∨ ∃ q ∈ y.1.weights Try.prog 32, S.length * 16 ≤ q) := by
  rcases Deep.open_slice Try.underlying32 h with ⟨hcs, hy⟩ | ⟨x, l, c, m, k, D, Pl, hcs, _, hl, hm, hmm, hdx, hx⟩
  · simp at hcs
    exact ⟨none, 0, [], hcs, Nat.le_refl _, ⟨by unfold maxLen; omega, fun _ => rfl⟩, .inl rfl, .inl rfl⟩
  · simp at hcs
    have hml : l ≤ m := by rw [hmm]; simp; exact hl
    rw [Try.cellsSp] at hx
    have each : ∀ i, i < l → ∃ q : Int × Int, W.cell? (x.add (i * 2)) = some (.int .i64 q.1) ∧ W.cell? (x.add (i * 2 + 1)) = some (.int .i64 q.2) := by
      intro i hi
      obtain ⟨cs', h1, h2⟩ := hx i (by omega)
      obtain ⟨_, hlen, hcell⟩ := World.cells?_some h1
      obtain ⟨xs, kk, hk, hxy, _, hxl, hff⟩ := DataW.trod_struct Try.underlying58 h2
      match xs, hxl, cs', hlen, hxy with
      | [y0, y1], _, [v0, v1], _, hxy =>
        have g0 := hff 0 _ rfl
        have g1 := hff 1 _ rfl
        simp [Try.cells3c] at g0 g1
        obtain ⟨z0, e0, _⟩ := DataW.trod_int Try.underlying3 g0
        obtain ⟨z1, e1, _⟩ := DataW.trod_int Try.underlying3 g1
        simp at e0 e1
        subst e0 e1
        have c0 := hcell 0 (by omega)
        have c1 := hcell 1 (by omega)
        rw [Deep.add_add] at c0 c1
        exact ⟨(z0, z1), by simpa using c0, by simpa using c1⟩
    obtain ⟨G, hG⟩ := Deep.choose_lt each
    have hlen : ((List.range l).map G).length = l := by simp
    refine ⟨some x, c, (List.range l).map G, by rw [hlen]; exact hcs, by rw [hlen]; exact hl, ⟨hm, fun e => by cases e⟩, ?_, ?_⟩
    · by_cases h0 : l = 0
      · subst h0; exact .inl rfl
      · obtain ⟨b, off, spot⟩ := x
        have hc := (hG 0 (by omega)).1
        have hspot : spot = none := by simpa [Addr.add] using World.cell?_spot hc
        subst hspot
        refine .inr ⟨b, off, rfl, fun i hi => ?_⟩
        rw [hlen] at hi
        rw [spA_of G l i hi]
        have := hG i hi
        exact ⟨by simpa [Addr.add_lit, Nat.add_assoc] using this.1, by simpa [Addr.add_lit, Nat.add_assoc] using this.2⟩
    · rw [hdx, hlen]
      refine .inr ⟨(((List.range l).map D).length + ((List.range (m - l)).map fun j => D (l + j)).length) * Try.prog.bytesOf 58, ?_, ?_⟩
      · simp [DataW.weights, Try.underlying32]
      · rw [Try.bytesSp]; simp; omega
theorem trod_cols {H : Type} {enc : TypeId × Value → H} {W : World} {n : Nat} {v : Value} {y : DataW H × List MemPlace} (h : DataW.trod enc Try.prog W 0 (fun _ => true) true n 33 [v] = some y) :
    ∃ a cap C, v = .slice a (C : List Col).length cap ∧ C.length ≤ cap ∧ (cap ≤ maxLen ∧ (a = none → cap = 0)) ∧ CoRow W a C ∧ (C = [] ∨ ∃ q ∈ y.1.weights Try.prog 33, C.length * 8 ≤ q) := by
  rcases Deep.open_slice Try.underlying33 h with ⟨hcs, hy⟩ | ⟨x, l, c, m, k, D, Pl, hcs, _, hl, hm, hmm, hdx, hx⟩
  · simp at hcs
    exact ⟨none, 0, [], hcs, Nat.le_refl _, ⟨by unfold maxLen; omega, fun _ => rfl⟩, .inl rfl, .inl rfl⟩
  · simp at hcs
    have hml : l ≤ m := by rw [hmm]; simp; exact hl
    rw [Try.cellsCo] at hx
    have each : ∀ i, i < l → ∃ q : Col, W.cell? (x.add (i * 4)) = some (.int .u16 q.1) ∧ W.cell? (x.add (i * 4 + 1)) = some (.int .u16 q.2.1) ∧ W.cell? (x.add (i * 4 + 2)) = some (.int .u16 q.2.2.1) ∧ W.cell? (x.add (i * 4 + 3)) = some (.int .u16 q.2.2.2) := by
      intro i hi
      obtain ⟨cs', h1, h2⟩ := hx i (by omega)
      obtain ⟨_, hlen, hcell⟩ := World.cells?_some h1
      obtain ⟨xs, kk, hk, hxy, _, hxl, hff⟩ := DataW.trod_struct Try.underlying49 h2
      match xs, hxl, cs', hlen, hxy with
      | [y0, y1, y2, y3], _, [v0, v1, v2, v3], _, hxy =>
        have g0 := hff 0 _ rfl
        have g1 := hff 1 _ rfl
        have g2 := hff 2 _ rfl
        have g3 := hff 3 _ rfl
        simp [Try.cells47c] at g0 g1 g2 g3
        obtain ⟨z0, e0, _⟩ := DataW.trod_int Try.underlying47 g0
        obtain ⟨z1, e1, _⟩ := DataW.trod_int Try.underlying47 g1
        obtain ⟨z2, e2, _⟩ := DataW.trod_int Try.underlying47 g2
        obtain ⟨z3, e3, _⟩ := DataW.trod_int Try.underlying47 g3
        simp at e0 e1 e2 e3
        subst e0 e1 e2 e3
        have c0 := hcell 0 (by omega)
        have c1 := hcell 1 (by omega)
        have c2 := hcell 2 (by omega)
        have c3 := hcell 3 (by omega)
        rw [Deep.add_add] at c0 c1 c2 c3
        exact ⟨(z0, z1, z2, z3), by simpa using c0, by simpa using c1, by simpa using c2, by simpa using c3⟩
    obtain ⟨G, hG⟩ := Deep.choose_lt each
    have hlen : ((List.range l).map G).length = l := by simp
    refine ⟨some x, c, (List.range l).map G, by rw [hlen]; exact hcs, by rw [hlen]; exact hl, ⟨hm, fun e => by cases e⟩, ?_, ?_⟩
    · by_cases h0 : l = 0
      · subst h0; exact .inl rfl
      · obtain ⟨b, off, spot⟩ := x
        have hc := (hG 0 (by omega)).1
        have hspot : spot = none := by simpa [Addr.add] using World.cell?_spot hc
        subst hspot
        refine .inr ⟨b, off, rfl, fun i hi => ?_⟩
        rw [hlen] at hi
        rw [coA_of G l i hi]
        have := hG i hi
        exact ⟨by simpa [Addr.add_lit, Nat.add_assoc] using this.1, by simpa [Addr.add_lit, Nat.add_assoc] using this.2.1, by simpa [Addr.add_lit, Nat.add_assoc] using this.2.2.1, by simpa [Addr.add_lit, Nat.add_assoc] using this.2.2.2⟩
    · rw [hdx, hlen]
      refine .inr ⟨(((List.range l).map D).length + ((List.range (m - l)).map fun j => D (l + j)).length) * Try.prog.bytesOf 49, ?_, ?_⟩
      · simp [DataW.weights, Try.underlying33]
      · rw [Try.bytesCo]; simp; omega
theorem open_line {H : Type} {enc : TypeId × Value → H} {W : World} {r : Reach} {b0 : Nat} {v : Value} {d : DataW H} {p : List MemPlace} (hv : Value.okWide Try.prog W r b0 35 v) (h : DataW.Trod enc Try.prog W 0 (fun _ => true) true 35 v d p) : ∃ l : Ln, v = l.V ∧ True := by
  obtain ⟨v0, v1, v2, y0, y1, y2, n, rfl, _, _, h0, h1, h2⟩ := Go.Joins.open_agg3 Try.underlying35 (by kernel_rfl) Try.cellsLi hv h
  obtain ⟨z, e0, _⟩ := DataW.trod_int Try.underlying3 h0
  simp at e0
  subst e0
  obtain ⟨a, cap, S, rfl, _⟩ := trod_spots h1
  obtain ⟨a2, cap2, C, rfl, _⟩ := trod_cols h2
  exact ⟨⟨z, a, cap, S, a2, cap2, C⟩, rfl, trivial⟩
end Go.Proofs.Ytjheipfcehddhaa
