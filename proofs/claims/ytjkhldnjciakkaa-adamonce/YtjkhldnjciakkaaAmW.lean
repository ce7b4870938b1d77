/- The law AdamOnce, walked. -/
import Derived.Test.YtjkhldnjciakkaaAmX
namespace Go.Proofs.Ytjkhldnjciakkaa
open Go.RowKit
def bvals (l : List Bool) : List Value := l.map Value.bool
theorem bvals_len (l : List Bool) : (bvals l).length = l.length := by simp [bvals]
theorem Try.infoBo : (Try.prog.info? 4).map (fun i => (i.zero, i.size, i.bytes)) = some (some (.bool false), 1, 1) := by kernel_rfl
theorem made_bools (m : Nat) : (madeCells #[Value.bool false] (m * 1)).toList = bvals (List.replicate m false) := by
  apply List.ext_getElem?
  intro i
  by_cases h : i < m * 1
  · have h' : i < m := by omega
    have e : (madeCells #[Value.bool false] (m * 1)).toList[i]? = some (Value.bool false) := by
      simp only [madeCells, Array.toList_map, List.getElem?_map, Array.toList_range, List.getElem?_range h, Option.map_some]
      have : i % 1 = 0 := Nat.mod_one i
      show some ((#[Value.bool false] : Array Value)[i % 1]!) = _
      rw [this]; rfl
    rw [e]
    simp [bvals, h']
  · rw [List.getElem?_eq_none (by simp [madeCells]; omega), List.getElem?_eq_none (by simp [bvals]; omega)]
theorem lnS_at {x dx y : Int} {n j : Nat} (hj : j < n) : (spL x dx y n)[j * 2]?.getD 0 = x + (j : Int) * dx ∧ (spL x dx y n)[j * 2 + 1]?.getD 0 = y := by
  induction n with
  | zero => omega
  | succ n ih =>
    have hl := spL_len x dx y n
    rw [spL]
    by_cases e : j = n
    · subst e
      rw [List.getElem?_append_right (by omega), List.getElem?_append_right (by omega), hl, show j * 2 - 2 * j = 0 by omega, show j * 2 + 1 - 2 * j = 1 by omega]
      exact ⟨rfl, rfl⟩
    · rw [List.getElem?_append_left (by omega), List.getElem?_append_left (by omega)]
      exact ih (by omega)
/-- Within 'once': what was seen. -/
structure OnI (w : World) (g m : Nat) (s : List Bool) (wr : World) : Prop where
  own : wr.ownsRow w.heap.size 4 1 (.slice (some ⟨g, 0, none⟩) m m) m (bvals s)
  be : Below w.heap.size w wr
theorem OnI.alloc {w : World} {g m : Nat} {s : List Bool} {wr : World} (h : OnI w g m s wr) (o : Obj) : OnI w g m s (wr.alloc o) := ⟨h.own.alloc _, h.be.alloc h.be.size _⟩
theorem OnI.store {w : World} {g m : Nat} {s : List Bool} {wr : World} (h : OnI w g m s wr) (p : Nat) : OnI w g m (s.set p true) (wr.setCell ⟨g, p, none⟩ (.bool true)) := by
  have k := h.own.stored p (.bool true)
  refine ⟨?_, h.be.grown k.2 h.be.size fun j hj => (h.own.lt j hj).1⟩
  have e : (bvals s).set p (.bool true) = bvals (s.set p true) := by simp [bvals, List.map_set]
  rw [← e]; exact k.1
theorem OnI.cell {w : World} {g m : Nat} {s : List Bool} {wr : World} (h : OnI w g m s wr) (hs : s.length = m) {p : Nat} {b : Bool} (hp : s[p]? = some b) : wr.cell? ⟨g, p, none⟩ = some (.bool b) ∧ wr.frozen? ⟨g, p, none⟩ = false := by
  have hl : p < s.length := by
    by_cases hq : p < s.length
    · exact hq
    · rw [List.getElem?_eq_none (by omega)] at hp; cases hp
  refine ⟨?_, h.own.frozenAt p⟩
  rw [h.own.cellAt p (by omega)]
  simp [bvals, hp]
theorem ln_place {L : List Stp} (hL : ∀ p ∈ L, p.ok) {W H i r a : Nat} (hW : W ≤ 2048) (hH : H ≤ 2048) (hi : i < L.length) (hr : r < hNt L W H i) (ha : a < wNt L W H i) :
    ∃ X Y : Nat, X < W ∧ Y < H ∧ InLn L W H X Y (bsN (hNt L W H) i + r) a ∧ (lnS L W H i r)[a * 2]?.getD 0 = (X : Int) ∧ (lnS L W H i r)[a * 2 + 1]?.getD 0 = (Y : Int) := by
  have hok := stAt_ok hL i
  have h1 := (hN_iff hL (W := (W : Int)) (H := (H : Int)) (by omega) (by omega) i r).1 hr
  rw [wNt_eq hr] at ha
  have h2 := (plc_iff (f := (stAt L i).x) (s := (stAt L i).dx) (e := (W : Int)) hok.2.2.2.2.1 a).2 (by omega)
  have n1 : 0 ≤ (a : Int) * (stAt L i).dx := Int.mul_nonneg (by omega) (by have := hok.2.2.2.2.1; omega)
  have n2 : 0 ≤ (r : Int) * (stAt L i).dy := Int.mul_nonneg (by omega) (by have := hok.2.2.2.2.2.2.1; omega)
  have k0 := hok.1
  have k1 := hok.2.2.1
  obtain ⟨X, hX⟩ : ∃ X : Nat, (X : Int) = (stAt L i).x + (a : Int) * (stAt L i).dx := ⟨((stAt L i).x + (a : Int) * (stAt L i).dx).toNat, by omega⟩
  obtain ⟨Y, hY⟩ : ∃ Y : Nat, (Y : Int) = (stAt L i).y + (r : Int) * (stAt L i).dy := ⟨((stAt L i).y + (r : Int) * (stAt L i).dy).toNat, by omega⟩
  have hs := lnS_at (x := (stAt L i).x) (dx := (stAt L i).dx) (y := (stAt L i).y + (r : Int) * (stAt L i).dy) (n := wNt L W H i) (j := a) (by rw [wNt_eq hr]; exact ha)
  exact ⟨X, Y, by omega, by omega, ⟨i, r, hi, hr, rfl, hX, hY⟩, hs.1.trans hX.symm, hs.2.trans hY.symm⟩
end Go.Proofs.Ytjkhldnjciakkaa
