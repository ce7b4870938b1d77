/- A canvas in memory: its pixels, and which are known; its small functions. -/
import Derived.Test.YtjheipfcehddhaaSzR
import Derived.Laws.MakeOwn
import Derived.Deep.RegionHeld3
import Derived.StillTail
import Derived.Deep.RegionWith
import Derived.Test.YtjheipfcehddhaaRgH
import Derived.Test.YtjheipfcehddhaaRfY
import Derived.Deep.DeepCutAuto
import Derived.Deep.CutBlock
import Derived.Deep.LoopGhost
namespace Go.Proofs.Ytjheipfcehddhaa
open Go.RowKit

abbrev Col := Int × Int × Int × Int
/-- Pixels in memory. -/
def PxM (w : World) (g N : Nat) (F : Nat → Col) : Prop := ∃ cur : Array Value, w.heap[g]? = some (.cells cur 49 (0, 0)) ∧ ∀ i, i < N → cur[i * 4]? = some (.int .u16 (F i).1) ∧ cur[i * 4 + 1]? = some (.int .u16 (F i).2.1) ∧ cur[i * 4 + 2]? = some (.int .u16 (F i).2.2.1) ∧ cur[i * 4 + 3]? = some (.int .u16 (F i).2.2.2)
/-- Which are known, in memory. -/
def KnM (w : World) (g N : Nat) (M : Nat → Bool) : Prop := ∃ cur : Array Value, w.heap[g]? = some (.cells cur 4 (0, 0)) ∧ ∀ i, i < N → cur[i]? = some (.bool (M i))
def upd {α : Type} (f : Nat → α) (k : Nat) (v : α) : Nat → α := fun i => if i = k then v else f i
theorem PxM.cells {w : World} {g N : Nat} {F : Nat → Col} (h : PxM w g N F) {i : Nat} (hi : i < N) : w.cell? ⟨g, i * 4, none⟩ = some (.int .u16 (F i).1) ∧ w.cell? ⟨g, i * 4 + 1, none⟩ = some (.int .u16 (F i).2.1) ∧ w.cell? ⟨g, i * 4 + 2, none⟩ = some (.int .u16 (F i).2.2.1) ∧ w.cell? ⟨g, i * 4 + 3, none⟩ = some (.int .u16 (F i).2.2.2) := by
  obtain ⟨cur, hh, hc⟩ := h
  obtain ⟨c0, c1, c2, c3⟩ := hc i hi
  simp [World.cell?, hh, c0, c1, c2, c3]
theorem PxM.frozen {w : World} {g N : Nat} {F : Nat → Col} (h : PxM w g N F) (j : Nat) : w.frozen? ⟨g, j, none⟩ = false := by
  obtain ⟨cur, hh, _⟩ := h
  simp [World.frozen?, hh]
theorem PxM.lt {w : World} {g N : Nat} {F : Nat → Col} (h : PxM w g N F) : g < w.heap.size := by
  obtain ⟨cur, hh, _⟩ := h; exact lt_of_block hh
theorem PxM.same {w w' : World} {g N : Nat} {F : Nat → Col} (h : PxM w g N F) (hs : w'.heap[g]? = w.heap[g]?) : PxM w' g N F := by
  obtain ⟨cur, hh, hc⟩ := h; exact ⟨cur, hs.trans hh, hc⟩
theorem PxM.congr {w : World} {g N : Nat} {F G : Nat → Col} (h : PxM w g N F) (he : ∀ i, i < N → F i = G i) : PxM w g N G := by
  obtain ⟨cur, hh, hc⟩ := h; exact ⟨cur, hh, fun i hi => by rw [← he i hi]; exact hc i hi⟩
/-- The world with a pixel set. -/
def setPx (w : World) (g k : Nat) (c : Col) : World := (((w.setCell ⟨g, k * 4, none⟩ (.int .u16 c.1)).setCell ⟨g, k * 4 + 1, none⟩ (.int .u16 c.2.1)).setCell ⟨g, k * 4 + 2, none⟩ (.int .u16 c.2.2.1)).setCell ⟨g, k * 4 + 3, none⟩ (.int .u16 c.2.2.2)
theorem PxM.set {w : World} {g N : Nat} {F : Nat → Col} (h : PxM w g N F) {k : Nat} (hk : k < N) (c : Col) : PxM (setPx w g k c) g N (upd F k c) := by
  obtain ⟨cur, hh, hc⟩ := h
  have e0 := heap_setCell_same w g (k * 4) _ _ (.int .u16 c.1) hh
  have e1 := heap_setCell_same _ g (k * 4 + 1) _ _ (.int .u16 c.2.1) e0
  have e2 := heap_setCell_same _ g (k * 4 + 2) _ _ (.int .u16 c.2.2.1) e1
  have e3 := heap_setCell_same _ g (k * 4 + 3) _ _ (.int .u16 c.2.2.2) e2
  refine ⟨_, e3, fun i hi => ?_⟩
  obtain ⟨c0, c1, c2, c3⟩ := hc i hi
  obtain ⟨d0, d1, d2, d3⟩ := hc k hk
  have hz : k * 4 + 3 < cur.size := by
    by_cases hq : k * 4 + 3 < cur.size
    · exact hq
    · rw [Array.getElem?_eq_none (by omega)] at d3; cases d3
  unfold upd
  by_cases hik : i = k
  · subst hik
    simp only [if_true]
    refine ⟨?_, ?_, ?_, ?_⟩ <;> simp [Array.getElem?_setIfInBounds] <;> omega
  · rw [if_neg hik]
    refine ⟨?_, ?_, ?_, ?_⟩
    · rw [Array.getElem?_setIfInBounds_ne (by omega), Array.getElem?_setIfInBounds_ne (by omega), Array.getElem?_setIfInBounds_ne (by omega), Array.getElem?_setIfInBounds_ne (by omega)]; exact c0
    · rw [Array.getElem?_setIfInBounds_ne (by omega), Array.getElem?_setIfInBounds_ne (by omega), Array.getElem?_setIfInBounds_ne (by omega), Array.getElem?_setIfInBounds_ne (by omega)]; exact c1
    · rw [Array.getElem?_setIfInBounds_ne (by omega), Array.getElem?_setIfInBounds_ne (by omega), Array.getElem?_setIfInBounds_ne (by omega), Array.getElem?_setIfInBounds_ne (by omega)]; exact c2
    · rw [Array.getElem?_setIfInBounds_ne (by omega), Array.getElem?_setIfInBounds_ne (by omega), Array.getElem?_setIfInBounds_ne (by omega), Array.getElem?_setIfInBounds_ne (by omega)]; exact c3
theorem KnM.cell {w : World} {g N : Nat} {M : Nat → Bool} (h : KnM w g N M) {i : Nat} (hi : i < N) : w.cell? ⟨g, i, none⟩ = some (.bool (M i)) := by
  obtain ⟨cur, hh, hc⟩ := h
  simp [World.cell?, hh, hc i hi]
theorem KnM.frozen {w : World} {g N : Nat} {M : Nat → Bool} (h : KnM w g N M) (j : Nat) : w.frozen? ⟨g, j, none⟩ = false := by
  obtain ⟨cur, hh, _⟩ := h
  simp [World.frozen?, hh]
theorem KnM.lt {w : World} {g N : Nat} {M : Nat → Bool} (h : KnM w g N M) : g < w.heap.size := by
  obtain ⟨cur, hh, _⟩ := h; exact lt_of_block hh
theorem KnM.same {w w' : World} {g N : Nat} {M : Nat → Bool} (h : KnM w g N M) (hs : w'.heap[g]? = w.heap[g]?) : KnM w' g N M := by
  obtain ⟨cur, hh, hc⟩ := h; exact ⟨cur, hs.trans hh, hc⟩
theorem KnM.congr {w : World} {g N : Nat} {M G : Nat → Bool} (h : KnM w g N M) (he : ∀ i, i < N → M i = G i) : KnM w g N G := by
  obtain ⟨cur, hh, hc⟩ := h; exact ⟨cur, hh, fun i hi => by rw [← he i hi]; exact hc i hi⟩
theorem KnM.set {w : World} {g N : Nat} {M : Nat → Bool} (h : KnM w g N M) {k : Nat} (hk : k < N) (b : Bool) : KnM (w.setCell ⟨g, k, none⟩ (.bool b)) g N (upd M k b) := by
  obtain ⟨cur, hh, hc⟩ := h
  refine ⟨_, heap_setCell_same w g k _ _ (.bool b) hh, fun i hi => ?_⟩
  have d := hc k hk
  have hz : k < cur.size := by
    by_cases hq : k < cur.size
    · exact hq
    · rw [Array.getElem?_eq_none (by omega)] at d; cases d
  unfold upd
  by_cases hik : i = k
  · subst hik
    simp [hz]
  · rw [if_neg hik, Array.getElem?_setIfInBounds_ne (by omega)]; exact hc i hi
theorem KnM.apart {w : World} {g p N N' : Nat} {M : Nat → Bool} {F : Nat → Col} (h : KnM w g N M) (k : PxM w p N' F) : g ≠ p := by
  rintro rfl
  obtain ⟨c1, h1, _⟩ := h
  obtain ⟨c2, h2, _⟩ := k
  rw [h1] at h2
  simp at h2

/-- What a call may change: three blocks; and new ones. -/
structure F3 (c p k : Nat) (w w' : World) : Prop where
  os : w'.os = w.os
  tape : w'.tape = w.tape
  output : w'.output = w.output
  size : w.heap.size ≤ w'.heap.size
  block : ∀ j, j < w.heap.size → j ≠ c → j ≠ p → j ≠ k → w'.heap[j]? = w.heap[j]?
theorem F3.refl (c p k : Nat) (w : World) : F3 c p k w w := ⟨rfl, rfl, rfl, Nat.le_refl _, fun _ _ _ _ _ => rfl⟩
theorem F3.trans {c p k : Nat} {a b d : World} (h : F3 c p k a b) (g : F3 c p k b d) : F3 c p k a d :=
  ⟨g.os.trans h.os, g.tape.trans h.tape, g.output.trans h.output, Nat.le_trans h.size g.size, fun j hj h1 h2 h3 => (g.block j (Nat.lt_of_lt_of_le hj h.size) h1 h2 h3).trans (h.block j hj h1 h2 h3)⟩
theorem F3.of_below {c p k : Nat} {w w' : World} (h : Below w.heap.size w w') : F3 c p k w w' := ⟨h.os, h.tape, h.output, h.size, fun j hj _ _ _ => h.block j hj⟩
theorem F3.set {c p k : Nat} (w : World) (g i : Nat) (v : Value) (hg : g = c ∨ g = p ∨ g = k) : F3 c p k w (w.setCell ⟨g, i, none⟩ v) :=
  ⟨rfl, rfl, rfl, by simp [World.setCell], fun j _ h1 h2 h3 => Below.heap_setCell w _ v j (by rcases hg with rfl | rfl | rfl <;> assumption)⟩
theorem F3.setPx {c p k : Nat} (w : World) (i : Nat) (v : Col) : F3 c p k w (setPx w p i v) :=
  (((F3.set w p _ _ (.inr (.inl rfl))).trans (F3.set _ p _ _ (.inr (.inl rfl)))).trans (F3.set _ p _ _ (.inr (.inl rfl)))).trans (F3.set _ p _ _ (.inr (.inl rfl)))
theorem F3.below {c p k B : Nat} {a w w' : World} (h : Below B a w) (g : F3 c p k w w') (hc : B ≤ c) (hp : B ≤ p) (hk : B ≤ k) (ha : B ≤ w.heap.size) : Below B a w' :=
  ⟨g.os.trans h.os, g.tape.trans h.tape, g.output.trans h.output, Nat.le_trans h.size g.size, fun j hj => (g.block j (by omega) (by omega) (by omega) (by omega)).trans (h.block j hj)⟩

/-- How great a canvas is. -/
structure Sz (W H : Int) (N : Nat) : Prop where
  w1 : 1 ≤ W
  w2 : W ≤ 2048
  h1 : 1 ≤ H
  h2 : H ≤ 2048
  n : W * H = N
  m : N ≤ 65536
def onC (W H : Int) (s : Int × Int) : Bool := decide (0 ≤ s.1) && decide (s.1 < W) && decide (0 ≤ s.2) && decide (s.2 < H)
theorem onC_iff (W H : Int) (s : Int × Int) : onC W H s = true ↔ 0 ≤ s.1 ∧ s.1 < W ∧ 0 ≤ s.2 ∧ s.2 < H := by
  unfold onC; simp [and_assoc]
def ixC (W : Int) (s : Int × Int) : Nat := (s.2 * W + s.1).toNat
theorem Sz.ix {W H : Int} {N : Nat} (h : Sz W H N) {s : Int × Int} (hs : onC W H s = true) : 0 ≤ s.2 * W ∧ s.2 * W ≤ 4194304 ∧ s.2 * W + s.1 = (ixC W s : Int) ∧ ixC W s < N := by
  obtain ⟨a, b, c, d⟩ := (onC_iff W H s).1 hs
  have h0 : 0 ≤ s.2 * W := Int.mul_nonneg c (by have := h.w1; omega)
  have h1 : s.2 * W ≤ (H - 1) * W := Int.mul_le_mul_of_nonneg_right (by omega) (by have := h.w1; omega)
  have h2 : (H - 1) * W = H * W - W := by rw [Int.sub_mul, Int.one_mul]
  have h3 : H * W = N := by rw [Int.mul_comm]; exact h.n
  have h4 := h.m
  unfold ixC
  refine ⟨h0, by omega, by omega, by omega⟩
theorem Sz.inj {W H : Int} {N : Nat} (h : Sz W H N) {s t : Int × Int} (hs : onC W H s = true) (ht : onC W H t = true) (he : ixC W s = ixC W t) : s = t := by
  have a := h.ix hs
  have b := h.ix ht
  obtain ⟨s1, s2, s3, s4⟩ := (onC_iff W H s).1 hs
  obtain ⟨t1, t2, t3, t4⟩ := (onC_iff W H t).1 ht
  have e : s.2 * W + s.1 = t.2 * W + t.1 := by rw [a.2.2.1, b.2.2.1, he]
  have hw := h.w1
  have e2 : s.2 = t.2 := by
    have q1 : (s.2 * W + s.1) / W = s.2 := by rw [Int.add_comm, Int.add_mul_ediv_right _ _ (by omega), Int.ediv_eq_zero_of_lt s1 s2]; omega
    have q2 : (t.2 * W + t.1) / W = t.2 := by rw [Int.add_comm, Int.add_mul_ediv_right _ _ (by omega), Int.ediv_eq_zero_of_lt t1 t2]; omega
    rw [← q1, ← q2, e]
  have e1 : s.1 = t.1 := by rw [e2] at e; omega
  exact Prod.ext e1 e2
/-- A canvas of the program. -/
structure Cv (w : World) (c p k : Nat) (W H : Int) (N : Nat) (F : Nat → Col) (M : Nat → Bool) (n : Int) : Prop where
  st : w.heap[c]? = some (.cells #[.int .i64 W, .int .i64 H, .slice (some ⟨p, 0, none⟩) N N, .slice (some ⟨k, 0, none⟩) N N, .int .i64 n] 65 (0, 0))
  px : PxM w p N F
  kn : KnM w k N M
  sz : Sz W H N
theorem Cv.cp {w : World} {c p k : Nat} {W H : Int} {N : Nat} {F : Nat → Col} {M : Nat → Bool} {n : Int} (h : Cv w c p k W H N F M n) : c ≠ p := by
  rintro rfl
  obtain ⟨c2, h2, _⟩ := h.px
  have := h.st
  rw [h2] at this
  simp at this
theorem Cv.ck {w : World} {c p k : Nat} {W H : Int} {N : Nat} {F : Nat → Col} {M : Nat → Bool} {n : Int} (h : Cv w c p k W H N F M n) : c ≠ k := by
  rintro rfl
  obtain ⟨c2, h2, _⟩ := h.kn
  have := h.st
  rw [h2] at this
  simp at this
theorem Cv.kp {w : World} {c p k : Nat} {W H : Int} {N : Nat} {F : Nat → Col} {M : Nat → Bool} {n : Int} (h : Cv w c p k W H N F M n) : k ≠ p := h.kn.apart h.px
theorem Cv.same {w w' : World} {c p k : Nat} {W H : Int} {N : Nat} {F : Nat → Col} {M : Nat → Bool} {n : Int} (h : Cv w c p k W H N F M n) (hc : w'.heap[c]? = w.heap[c]?) (hp : w'.heap[p]? = w.heap[p]?) (hk : w'.heap[k]? = w.heap[k]?) : Cv w' c p k W H N F M n :=
  ⟨hc.trans h.st, h.px.same hp, h.kn.same hk, h.sz⟩
theorem Cv.old {w w' : World} {c p k : Nat} {W H : Int} {N : Nat} {F : Nat → Col} {M : Nat → Bool} {n : Int} (h : Cv w c p k W H N F M n) (hb : Below w.heap.size w w') : Cv w' c p k W H N F M n :=
  h.same (hb.block _ (lt_of_block h.st)) (hb.block _ h.px.lt) (hb.block _ h.kn.lt)
theorem Cv.cells {w : World} {c p k : Nat} {W H : Int} {N : Nat} {F : Nat → Col} {M : Nat → Bool} {n : Int} (h : Cv w c p k W H N F M n) : w.cell? ⟨c, 0, none⟩ = some (.int .i64 W) ∧ w.cell? ⟨c, 1, none⟩ = some (.int .i64 H) ∧ w.cell? ⟨c, 2, none⟩ = some (.slice (some ⟨p, 0, none⟩) N N) ∧ w.cell? ⟨c, 3, none⟩ = some (.slice (some ⟨k, 0, none⟩) N N) ∧ w.cell? ⟨c, 4, none⟩ = some (.int .i64 n) ∧ w.frozen? ⟨c, 4, none⟩ = false := by
  have := h.st
  refine ⟨?_, ?_, ?_, ?_, ?_, ?_⟩ <;> simp [World.cell?, World.frozen?, this]
theorem Cv.mark {w : World} {c p k : Nat} {W H : Int} {N : Nat} {F : Nat → Col} {M : Nat → Bool} {n : Int} (h : Cv w c p k W H N F M n) {i : Nat} (hi : i < N) (b : Bool) : Cv (w.setCell ⟨k, i, none⟩ (.bool b)) c p k W H N F (upd M i b) n :=
  ⟨(Below.heap_setCell w _ _ c h.ck).trans h.st, h.px.same (Below.heap_setCell w _ _ p h.kp.symm), h.kn.set hi b, h.sz⟩
theorem heap_setPx (w : World) (p i : Nat) (v : Col) {j : Nat} (hj : j ≠ p) : (setPx w p i v).heap[j]? = w.heap[j]? := by
  unfold setPx
  rw [Below.heap_setCell _ _ _ _ hj, Below.heap_setCell _ _ _ _ hj, Below.heap_setCell _ _ _ _ hj, Below.heap_setCell _ _ _ _ hj]
theorem Cv.pix {w : World} {c p k : Nat} {W H : Int} {N : Nat} {F : Nat → Col} {M : Nat → Bool} {n : Int} (h : Cv w c p k W H N F M n) {i : Nat} (hi : i < N) (v : Col) : Cv (setPx w p i v) c p k W H N (upd F i v) M n :=
  ⟨(heap_setPx w p i v h.cp).trans h.st, h.px.set hi v, h.kn.same (heap_setPx w p i v h.kp), h.sz⟩
theorem Cv.count {w : World} {c p k : Nat} {W H : Int} {N : Nat} {F : Nat → Col} {M : Nat → Bool} {n : Int} (h : Cv w c p k W H N F M n) (m : Int) : Cv (w.setCell ⟨c, 4, none⟩ (.int .i64 m)) c p k W H N F M m :=
  ⟨by rw [heap_setCell_same w c 4 _ _ _ h.st]; rfl, h.px.same (Below.heap_setCell w _ _ p h.cp.symm), h.kn.same (Below.heap_setCell w _ _ k h.ck.symm), h.sz⟩

set_option maxHeartbeats 400000 in
theorem cisSide_any (n : Int) (w : World) : Calls Try.prog 25 #[.int .i64 n] w fun e w' => e = .returned (.bool (decide (1 ≤ n) && decide (n ≤ 2048))) ∧ w' = w := by
  by_cases h : 1 ≤ n
  · rw [decide_eq_true h]
    go_enter Try.func25, Try.ntmps25
    go_wp2
    go_ret
    exact ⟨rfl, rfl⟩
  · rw [decide_eq_false h]
    go_enter Try.func25, Try.ntmps25
    go_wp2
    go_ret
    exact ⟨rfl, rfl⟩
set_option maxHeartbeats 800000 in
theorem chas_any {w : World} {c p k : Nat} {W H : Int} {N : Nat} {F : Nat → Col} {M : Nat → Bool} {n : Int} (h : Cv w c p k W H N F M n) (x y : Int) : Calls Try.prog 39 #[.pointer (some ⟨c, 0, none⟩), .int .i64 x, .int .i64 y] w fun e w' => e = .returned (.bool (onC W H (x, y))) ∧ w' = w := by
  obtain ⟨k0, k1, -⟩ := h.cells
  clear h
  rcases (show x < 0 ∨ (0 ≤ x ∧ W ≤ x) ∨ (0 ≤ x ∧ x < W ∧ y < 0) ∨ (0 ≤ x ∧ x < W ∧ 0 ≤ y) by omega) with h | h | h | ⟨h1, h2, h3⟩
  · rw [show onC W H (x, y) = false by unfold onC; simp only [decide_eq_false (show ¬ 0 ≤ x by omega)]; simp]
    go_enter Try.func39, Try.ntmps39
    go_wp2
    go_ret
    exact ⟨rfl, rfl⟩
  · rw [show onC W H (x, y) = false by unfold onC; simp only [decide_eq_false (show ¬ x < W by omega)]; simp]
    go_enter Try.func39, Try.ntmps39
    go_wp2
    go_ret
    exact ⟨rfl, rfl⟩
  · rw [show onC W H (x, y) = false by unfold onC; simp only [decide_eq_false (show ¬ 0 ≤ y by omega)]; simp]
    go_enter Try.func39, Try.ntmps39
    go_wp2
    go_ret
    exact ⟨rfl, rfl⟩
  · rw [show onC W H (x, y) = decide (y < H) by unfold onC; simp only [decide_eq_true h1, decide_eq_true h2, decide_eq_true h3]; simp]
    go_enter Try.func39, Try.ntmps39
    go_wp2
    go_ret
    exact ⟨rfl, rfl⟩
set_option maxHeartbeats 400000 in
theorem cindex_any {w : World} {c p k : Nat} {W H : Int} {N : Nat} {F : Nat → Col} {M : Nat → Bool} {n : Int} (h : Cv w c p k W H N F M n) (x y : Int) (hs : onC W H (x, y) = true) : Calls Try.prog 29 #[.pointer (some ⟨c, 0, none⟩), .int .i64 x, .int .i64 y] w fun e w' => e = .returned (.int .i64 (ixC W (x, y))) ∧ w' = w := by
  obtain ⟨k0, -⟩ := h.cells
  obtain ⟨i0, i1, i2, i3⟩ := h.sz.ix hs
  have hm := h.sz.m
  generalize ixC W (x, y) = I at *
  simp only at i0 i1 i2
  have e1 : wrap64 (y * W) = y * W := by unfold wrap64; omega
  have e2 : wrap64 (y * W + x) = (I : Int) := by rw [i2]; unfold wrap64; omega
  clear h i2
  go_enter Try.func29, Try.ntmps29
  go_wp2
  go_ret
  exact ⟨ret_int e2, rfl⟩
set_option maxHeartbeats 400000 in
theorem ccount_any {w : World} {c p k : Nat} {W H : Int} {N : Nat} {F : Nat → Col} {M : Nat → Bool} {n : Int} (h : Cv w c p k W H N F M n) : Calls Try.prog 20 #[.pointer (some ⟨c, 0, none⟩)] w fun e w' => e = .returned (.int .i64 n) ∧ w' = w := by
  obtain ⟨k0, k1, k2, k3, k4, -⟩ := h.cells
  clear h
  go_enter Try.func20, Try.ntmps20
  go_wp2
  go_ret
  exact ⟨rfl, rfl⟩
set_option maxHeartbeats 800000 in
theorem cfull_any {w : World} {c p k : Nat} {W H : Int} {N : Nat} {F : Nat → Col} {M : Nat → Bool} {n : Int} (h : Cv w c p k W H N F M n) : Calls Try.prog 23 #[.pointer (some ⟨c, 0, none⟩)] w fun e w' => e = .returned (.bool (n == (N : Int))) ∧ w' = w.drew := by
  obtain ⟨k0, k1, k2, k3, k4, -⟩ := h.cells
  clear h
  go_enter Try.func23, Try.ntmps23
  go_wp2
  go_region
  go_wp2
  go_ret
  exact ⟨rfl, rfl⟩
end Go.Proofs.Ytjheipfcehddhaa
