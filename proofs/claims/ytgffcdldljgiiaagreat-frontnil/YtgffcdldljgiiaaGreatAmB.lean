/- The passes' steps in memory; the two closures. -/
import Derived.Test.YtgffcdldljgiiaaGreatAmA
import Derived.Test.YtgffcdldljgiiaaGreatRfL
namespace Go.Proofs.YtgffcdldljgiiaaGreat
open Go.RowKit
def stC (p : Stp) : List Value := [.int .i64 p.x, .int .i64 p.y, .int .i64 p.dx, .int .i64 p.dy, .int .i64 0, .int .i64 0]
def stA (l : List Stp) : Array Value := (l.flatMap stC).toArray
/-- Steps in memory. -/
def StRow (w : World) (b : Nat) (l : List Stp) : Prop := w.heap[b]? = some (.cells (stA l) 198 (0, 0))
theorem stA_at (l : List Stp) (i j : Nat) (p : Stp) (h : l[i]? = some p) (hj : j < 6) : (stA l)[i * 6 + j]? = (stC p)[j]? := by
  unfold stA
  rw [List.getElem?_toArray]
  induction l generalizing i with
  | nil => simp at h
  | cons q r ih =>
    rw [List.flatMap_cons]
    have hl : (stC q).length = 6 := rfl
    cases i with
    | zero =>
      simp at h; subst h
      rw [Nat.zero_mul, Nat.zero_add, List.getElem?_append_left (by omega)]
    | succ i =>
      rw [List.getElem?_append_right (by omega), hl, show (i + 1) * 6 + j - 6 = i * 6 + j by omega]
      exact ih i (by simpa using h)
theorem StRow.cells {w : World} {b : Nat} {l : List Stp} (h : StRow w b l) {i : Nat} {p : Stp} (hi : l[i]? = some p) : w.cell? ⟨b, i * 6, none⟩ = some (.int .i64 p.x) ∧ w.cell? ⟨b, i * 6 + 1, none⟩ = some (.int .i64 p.y) ∧ w.cell? ⟨b, i * 6 + 2, none⟩ = some (.int .i64 p.dx) ∧
    w.cell? ⟨b, i * 6 + 3, none⟩ = some (.int .i64 p.dy) ∧ w.cell? ⟨b, i * 6 + 4, none⟩ = some (.int .i64 0) ∧ w.cell? ⟨b, i * 6 + 5, none⟩ = some (.int .i64 0) := by
  have e : ∀ j, j < 6 → w.cell? ⟨b, i * 6 + j, none⟩ = (stC p)[j]? := fun j hj => by
    rw [← stA_at l i j p hi hj]
    have h' : w.heap[b]? = some (.cells (stA l) 198 (0, 0)) := h
    simp [World.cell?, h']
  exact ⟨e 0 (by omega), e 1 (by omega), e 2 (by omega), e 3 (by omega), e 4 (by omega), e 5 (by omega)⟩
theorem StRow.new (w : World) (l : List Stp) : StRow (w.alloc (.cells (stA l) 198)) w.heap.size l := World.alloc_heap_new w _
set_option maxHeartbeats 400000 in
theorem everyRow_any (w : World) : Calls Tryz.prog 128 #[] w fun e w' => e = .returned (.slice (some ⟨w.heap.size, 0, none⟩) 1 1) ∧ w' = w.alloc (.cells (stA oneL) 198) := by
  go_enter Tryz.func128, Tryz.ntmps128
  go_wp2
  go_ret
  exact ⟨rfl, rfl⟩
set_option maxHeartbeats 1600000 in
theorem pngSteps_any (b : Bool) (w : World) : Calls Tryz.prog 104 #[.bool b] w fun e w' => e = .returned (.slice (some ⟨w.heap.size, 0, none⟩) (pngOf b).length (pngOf b).length) ∧ w' = w.alloc (.cells (stA (pngOf b)) 198) := by
  cases b with
  | false =>
    have C := everyRow_any w
    go_enter Tryz.func104, Tryz.ntmps104
    go_wp2_with fail
    refine C.mono ?_
    rintro e w1 ⟨rfl, rfl⟩
    go_wp2
    go_ret
    exact ⟨rfl, rfl⟩
  | true =>
    go_enter Tryz.func104, Tryz.ntmps104
    go_wp2
    go_ret
    exact ⟨rfl, rfl⟩
set_option maxHeartbeats 1600000 in
theorem gifSteps_any (b : Bool) (w : World) : Calls Tryz.prog 264 #[.bool b] w fun e w' => e = .returned (.slice (some ⟨w.heap.size, 0, none⟩) (gifOf b).length (gifOf b).length) ∧ w' = w.alloc (.cells (stA (gifOf b)) 198) := by
  cases b with
  | false =>
    have C := everyRow_any w
    go_enter Tryz.func264, Tryz.ntmps264
    go_wp2_with fail
    refine C.mono ?_
    rintro e w1 ⟨rfl, rfl⟩
    go_wp2
    go_ret
    exact ⟨rfl, rfl⟩
  | true =>
    go_enter Tryz.func264, Tryz.ntmps264
    go_wp2
    go_ret
    exact ⟨rfl, rfl⟩
/-- The world with a closure's three boxes. -/
def boxW (w : World) (W H : Int) (v : Value) : World := ((w.alloc (.cells #[.int .i64 W] 3)).alloc (.cells #[.int .i64 H] 3)).alloc (.cells #[v] 195)
def boxF (f : Nat) (s : Nat) : Value := .func (.func f) #[] #[.pointer (some ⟨s, 0, none⟩), .pointer (some ⟨s + 1, 0, none⟩), .pointer (some ⟨s + 2, 0, none⟩)]
set_option maxHeartbeats 400000 in
theorem passes_any (W H : Int) (a : Option Addr) (n c : Nat) (w : World) : Calls Tryz.prog 103 #[.int .i64 W, .int .i64 H, .slice a n c] w fun e w' => e = .returned (boxF 125 w.heap.size) ∧ w' = boxW w W H (.slice a n c) := by
  go_enter Tryz.func103, Tryz.ntmps103
  go_wp2
  go_ret
  exact ⟨rfl, rfl⟩
set_option maxHeartbeats 400000 in
theorem alines_any (W H : Int) (a : Option Addr) (n c : Nat) (w : World) : Calls Tryz.prog 105 #[.int .i64 W, .int .i64 H, .slice a n c] w fun e w' => e = .returned (boxF 129 w.heap.size) ∧ w' = boxW w W H (.slice a n c) := by
  go_enter Tryz.func105, Tryz.ntmps105
  go_wp2
  go_ret
  exact ⟨rfl, rfl⟩
/-- The three boxes and the steps of a closure. -/
structure Bx (w : World) (s : Nat) (W H : Int) (sb : Nat) (l : List Stp) : Prop where
  b0 : w.heap[s]? = some (.cells #[.int .i64 W] 3 (0, 0))
  b1 : w.heap[s + 1]? = some (.cells #[.int .i64 H] 3 (0, 0))
  b2 : w.heap[s + 2]? = some (.cells #[.slice (some ⟨sb, 0, none⟩) l.length l.length] 195 (0, 0))
  st : StRow w sb l
theorem Bx.same {w w' : World} {s : Nat} {W H : Int} {sb : Nat} {l : List Stp} (h : Bx w s W H sb l) (hk : ∀ (k : Nat) (o : Obj), w.heap[k]? = some o → (∃ c t f, o = Obj.cells c t f ∧ (t = 3 ∨ t = 195 ∨ t = 198)) → w'.heap[k]? = some o) : Bx w' s W H sb l :=
  ⟨hk _ _ h.b0 ⟨_, _, _, rfl, .inl rfl⟩, hk _ _ h.b1 ⟨_, _, _, rfl, .inl rfl⟩, hk _ _ h.b2 ⟨_, _, _, rfl, .inr (.inl rfl)⟩, hk _ _ (show w.heap[sb]? = some (Obj.cells (stA l) 198 (0, 0)) from h.st) ⟨_, _, _, rfl, .inr (.inr rfl)⟩⟩
theorem Bx.old {w w' : World} {s : Nat} {W H : Int} {sb : Nat} {l : List Stp} (h : Bx w s W H sb l) (hb : Below w.heap.size w w') : Bx w' s W H sb l :=
  h.same fun k _ hk _ => (hb.block k (lt_of_block hk)).trans hk
theorem Bx.cells {w : World} {s : Nat} {W H : Int} {sb : Nat} {l : List Stp} (h : Bx w s W H sb l) : w.cell? ⟨s, 0, none⟩ = some (.int .i64 W) ∧ w.cell? ⟨s + 1, 0, none⟩ = some (.int .i64 H) ∧ w.cell? ⟨s + 2, 0, none⟩ = some (.slice (some ⟨sb, 0, none⟩) l.length l.length) := by
  refine ⟨?_, ?_, ?_⟩
  · simp [World.cell?, h.b0]
  · simp [World.cell?, h.b1]
  · simp [World.cell?, h.b2]
theorem below_boxW (w : World) (W H : Int) (v : Value) : Below w.heap.size w (boxW w W H v) := (((Below.refl _ w).alloc (Nat.le_refl _) _).alloc (by simp) _).alloc (by simp; omega) _
theorem size_boxW (w : World) (W H : Int) (v : Value) : (boxW w W H v).heap.size = w.heap.size + 3 := by simp [boxW]
theorem Bx.new {w : World} {W H : Int} {sb : Nat} {l : List Stp} (h : StRow w sb l) : Bx (boxW w W H (.slice (some ⟨sb, 0, none⟩) l.length l.length)) w.heap.size W H sb l := by
  refine ⟨?_, ?_, ?_, ((below_boxW w W H _).block sb (lt_of_block h)).trans h⟩
  · unfold boxW
    rw [Below.heap_alloc _ _ _ (by simp; omega), Below.heap_alloc _ _ _ (by simp)]; exact World.alloc_heap_new w _
  · unfold boxW
    rw [Below.heap_alloc _ _ _ (by simp)]; have := World.alloc_heap_new (w.alloc (.cells #[.int .i64 W] 3)) (.cells #[.int .i64 H] 3); rwa [World.size_alloc] at this
  · unfold boxW
    have := World.alloc_heap_new ((w.alloc (.cells #[.int .i64 W] 3)).alloc (.cells #[.int .i64 H] 3)) (.cells #[.slice (some ⟨sb, 0, none⟩) l.length l.length] 195); rwa [World.size_alloc, World.size_alloc] at this
end Go.Proofs.YtgffcdldljgiiaaGreat
