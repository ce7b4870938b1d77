/- LZW, the document's: its run in memory; a round's ends. -/
import Derived.Test.YtcbmlioeeoghkaaLzOc
namespace Go.Proofs.Ytcbmlioeeoghkaa
open Go.RowKit
theorem results_cell9 {fn : Func} {p : Tmp} {ty : TypeId} (h : fn.results = #[.cell p ty]) (tmps : Array Value) (P : Program) (w : World) :
    (results fn tmps).run P w = ((asAddr (tmps.getD p undef)).run P w).andThen fun a w₁ => (loadVar ty a).run P w₁ := by
  simp only [results, h]
  simp [Sem.run_bind]
def RC9 (w : World) (p : Nat) (o r : Value) (e : Int) (d : Bool) : Prop := w.heap[p]? = some (.cells #[o, r, .int .i64 e, .bool d] 30 (0, 0))
section
variable {w : World} {p : Nat} {o r : Value} {e : Int} {d : Bool}
theorem RC9.cells (h : RC9 w p o r e d) : w.cell? ⟨p, 0, none⟩ = some o ∧ w.cell? ⟨p, 1, none⟩ = some r ∧ w.cell? ⟨p, 2, none⟩ = some (.int .i64 e) ∧ w.cell? ⟨p, 3, none⟩ = some (.bool d) ∧ ∀ j, w.frozen? ⟨p, j, none⟩ = false := by
  unfold RC9 at h
  refine ⟨?_, ?_, ?_, ?_, fun j => ?_⟩ <;> simp [World.cell?, World.frozen?, h]
theorem RC9.of {w' : World} (h : RC9 w p o r e d) (hs : w'.heap[p]? = w.heap[p]?) : RC9 w' p o r e d := hs.trans h
theorem RC9.set0 (h : RC9 w p o r e d) (x : Value) : RC9 (w.setCell ⟨p, 0, none⟩ x) p x r e d := by
  unfold RC9 at h ⊢; rw [heap_setCell_same w p 0 _ _ _ h]; rfl
theorem RC9.set1 (h : RC9 w p o r e d) (x : Value) : RC9 (w.setCell ⟨p, 1, none⟩ x) p o x e d := by
  unfold RC9 at h ⊢; rw [heap_setCell_same w p 1 _ _ _ h]; rfl
theorem RC9.set2 (h : RC9 w p o r e d) (x : Int) : RC9 (w.setCell ⟨p, 2, none⟩ (.int .i64 x)) p o r x d := by
  unfold RC9 at h ⊢; rw [heap_setCell_same w p 2 _ _ _ h]; rfl
theorem RC9.set3 (h : RC9 w p o r e d) (x : Bool) : RC9 (w.setCell ⟨p, 3, none⟩ (.bool x)) p o r e x := by
  unfold RC9 at h ⊢; rw [heap_setCell_same w p 3 _ _ _ h]; rfl
end
/-- The result's four cells are laid. -/
def lay4 (w : World) (p : Nat) (o r : Value) (e : Int) (d : Bool) : World := (((w.setCell ⟨p, 0, none⟩ o).setCell ⟨p, 1, none⟩ r).setCell ⟨p, 2, none⟩ (.int .i64 e)).setCell ⟨p, 3, none⟩ (.bool d)
theorem lay4_heap (w : World) (p : Nat) (o r : Value) (e : Int) (d : Bool) {k : Nat} (hk : k ≠ p) : (lay4 w p o r e d).heap[k]? = w.heap[k]? := by
  unfold lay4
  rw [Below.heap_setCell _ _ _ _ hk, Below.heap_setCell _ _ _ _ hk, Below.heap_setCell _ _ _ _ hk, Below.heap_setCell _ _ _ _ hk]
theorem lay4_size (w : World) (p : Nat) (o r : Value) (e : Int) (d : Bool) : (lay4 w p o r e d).heap.size = w.heap.size := by unfold lay4; simp [World.setCell]
theorem lay4_run {w : World} {p : Nat} {o r : Value} {e : Int} {d : Bool} (h : RC9 w p o r e d) (o' r' : Value) (e' : Int) (d' : Bool) : RC9 (lay4 w p o' r' e' d') p o' r' e' d' := (((h.set0 o').set1 r').set2 e').set3 d'
theorem lay4_below {B : Nat} {w w' : World} (h : Below B w w') (p : Nat) (hp : B ≤ p) (o r : Value) (e : Int) (d : Bool) : Below B w (lay4 w' p o r e d) :=
  ⟨h.os, h.tape, h.output, by rw [lay4_size]; exact h.size, fun k hk => by rw [lay4_heap _ _ _ _ _ _ (by omega)]; exact h.block k hk⟩
section
variable {w : World} {L P6 P11 lim : Nat} {zs : List Int} {P : Nat} {fs : List Tx} {ah : Int} {out : List Int} {lv tv ov : Value} {lg tg og : Option Nat} {wr : World}
theorem OfR.og6 (h : OfR w L P6 P11 lim zs P fs ah out lv tv ov lg tg og wr) : og ≠ some P6 ∧ og ≠ some P11 := by
  refine ⟨fun e => ?_, fun e => ?_⟩
  · obtain ⟨c, hc⟩ := Sl.tagB9 h.osl e; rw [h.r6] at hc; simp at hc
  · obtain ⟨c, hc⟩ := Sl.tagB9 h.osl e; rw [h.r11] at hc; simp at hc
/-- The run ends, with an error. -/
theorem OfR.stop (h : OfR w L P6 P11 lim zs P fs ah out lv tv ov lg tg og wr) (E : Int) (s : Lz) (hs : lzO L lim zs = s) (ho : s.out = out) (hr : s.rest = []) (he : (if s.k = 0 then 2 else s.er) = E) (hd : s.k ≠ 1) {ao : Option Addr} {co : Nat} (hov : ov = .slice ao out.length co) :
    RC9 (wr.setCell ⟨P11, 2, none⟩ (.int .i64 E)) P11 ov (.slice none 0 0) E false ∧ RC9 (wr.setCell ⟨P11, 2, none⟩ (.int .i64 E)) P6 (.slice none 0 0) (.slice none 0 0) 0 false ∧ RC9 (lay4 (wr.setCell ⟨P11, 2, none⟩ (.int .i64 E)) P6 ov (.slice none 0 0) E false) P6 ov (.slice none 0 0) E false ∧
    OfP w (lzO L lim zs) (.returned (.agg #[ov, .slice none 0 0, .int .i64 E, .bool false])) (lay4 (wr.setCell ⟨P11, 2, none⟩ (.int .i64 E)) P6 ov (.slice none 0 0) E false) := by
  obtain ⟨p1, p2, p3⟩ := h.pb
  obtain ⟨g1, g2⟩ := h.og6
  have h11 : RC9 wr P11 ov (.slice none 0 0) 0 false := h.r11
  have h6 : RC9 (wr.setCell ⟨P11, 2, none⟩ (.int .i64 E)) P6 (.slice none 0 0) (.slice none 0 0) 0 false := (Below.heap_setCell _ _ _ _ p3).trans h.r6
  have hz : (wr.setCell ⟨P11, 2, none⟩ (.int .i64 E)).heap.size = wr.heap.size := by simp [World.setCell]
  have hb : Below w.heap.size w (wr.setCell ⟨P11, 2, none⟩ (.int .i64 E)) := ⟨h.be.os, h.be.tape, h.be.output, by rw [hz]; exact h.be.size, fun k hk => by rw [Below.heap_setCell _ _ _ _ (by show k ≠ P11; omega)]; exact h.be.block k hk⟩
  refine ⟨h11.set2 E, h6, lay4_run h6 _ _ _ _, ?_⟩
  obtain ⟨a', c', hv, hl1, hl2, hl3⟩ := h.osl.shape
  rw [vals_len] at hv hl1
  unfold maxLen at hl2
  rw [hov] at hv
  simp only [Value.slice.injEq, true_and] at hv
  obtain ⟨rfl, rfl⟩ := hv
  have hsl : Sl (lay4 (wr.setCell ⟨P11, 2, none⟩ (.int .i64 E)) P6 ov (.slice none 0 0) E false) 5 ov og (vals out) := h.osl.same fun k hk => by
    rw [lay4_heap _ _ _ _ _ _ (fun e => g1 (by rw [hk, e]))]
    exact Below.heap_setCell _ _ _ _ (fun (e : k = P11) => g2 (by rw [hk, e]))
  refine ⟨ao, co, none, 0, ?_, ?_, by rw [hs, hr]; exact .inl rfl, ?_, by omega, hl3, lay4_below hb P6 p1 _ _ _ _⟩
  · rw [hs, ho, hr, he, hov]
    have : (s.k == 1) = false := by simpa using hd
    rw [this]; rfl
  · rw [hs, ho]; exact hsl.row hov
  · rw [hs, ho]; exact hl1
end
end Go.Proofs.Ytcbmlioeeoghkaa
