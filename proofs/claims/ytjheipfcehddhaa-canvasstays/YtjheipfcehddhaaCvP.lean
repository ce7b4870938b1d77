/- The document's Lay. -/
import Derived.Test.YtjheipfcehddhaaCvH
namespace Go.Proofs.Ytjheipfcehddhaa
open Go.RowKit
theorem Rv.cp {w : World} {c p k : Nat} {W H : Int} {N : Nat} {F : Nat → Col} {M : Nat → Bool} (h : Rv w c p k W H N F M) : c ≠ p := by
  rintro rfl
  obtain ⟨c2, h2, _⟩ := h.px
  have := h.st
  rw [h2] at this
  simp at this
theorem Rv.ck {w : World} {c p k : Nat} {W H : Int} {N : Nat} {F : Nat → Col} {M : Nat → Bool} (h : Rv w c p k W H N F M) : c ≠ k := by
  rintro rfl
  obtain ⟨c2, h2, _⟩ := h.kn
  have := h.st
  rw [h2] at this
  simp at this
theorem Rv.kp {w : World} {c p k : Nat} {W H : Int} {N : Nat} {F : Nat → Col} {M : Nat → Bool} (h : Rv w c p k W H N F M) : k ≠ p := h.kn.apart h.px
theorem Rv.same {w w' : World} {c p k : Nat} {W H : Int} {N : Nat} {F : Nat → Col} {M : Nat → Bool} (h : Rv w c p k W H N F M) (hc : w'.heap[c]? = w.heap[c]?) (hp : w'.heap[p]? = w.heap[p]?) (hk : w'.heap[k]? = w.heap[k]?) : Rv w' c p k W H N F M :=
  ⟨hc.trans h.st, h.px.same hp, h.kn.same hk, h.sz⟩
theorem Rv.old {w w' : World} {c p k : Nat} {W H : Int} {N : Nat} {F : Nat → Col} {M : Nat → Bool} (h : Rv w c p k W H N F M) (hb : Below w.heap.size w w') : Rv w' c p k W H N F M :=
  h.same (hb.block _ (lt_of_block h.st)) (hb.block _ h.px.lt) (hb.block _ h.kn.lt)
theorem Rv.cells {w : World} {c p k : Nat} {W H : Int} {N : Nat} {F : Nat → Col} {M : Nat → Bool} (h : Rv w c p k W H N F M) : w.cell? ⟨c, 0, none⟩ = some (.int .i64 W) ∧ w.cell? ⟨c, 1, none⟩ = some (.int .i64 H) ∧ w.cell? ⟨c, 2, none⟩ = some (.slice (some ⟨p, 0, none⟩) N N) ∧ w.cell? ⟨c, 3, none⟩ = some (.slice (some ⟨k, 0, none⟩) N N) := by
  have := h.st
  refine ⟨?_, ?_, ?_, ?_⟩ <;> simp [World.cell?, this]
theorem Rv.mark {w : World} {c p k : Nat} {W H : Int} {N : Nat} {F : Nat → Col} {M : Nat → Bool} (h : Rv w c p k W H N F M) {i : Nat} (hi : i < N) (b : Bool) : Rv (w.setCell ⟨k, i, none⟩ (.bool b)) c p k W H N F (upd M i b) :=
  ⟨(Below.heap_setCell w _ _ c h.ck).trans h.st, h.px.same (Below.heap_setCell w _ _ p h.kp.symm), h.kn.set hi b, h.sz⟩
theorem Rv.pix {w : World} {c p k : Nat} {W H : Int} {N : Nat} {F : Nat → Col} {M : Nat → Bool} (h : Rv w c p k W H N F M) {i : Nat} (hi : i < N) (v : Col) : Rv (setPx w p i v) c p k W H N (upd F i v) M :=
  ⟨(heap_setPx w p i v h.cp).trans h.st, h.px.set hi v, h.kn.same (heap_setPx w p i v h.kp), h.sz⟩
set_option maxHeartbeats 800000 in
theorem ron_any {w : World} {c p k : Nat} {W H : Int} {N : Nat} {F : Nat → Col} {M : Nat → Bool} (h : Rv w c p k W H N F M) (x y : Int) : Calls Try.prog 30 #[.pointer (some ⟨c, 0, none⟩), .int .i64 x, .int .i64 y] w fun e w' => e = .returned (.bool (onC W H (x, y))) ∧ w' = w := by
  obtain ⟨k0, k1, -⟩ := h.cells
  clear h
  rcases (show x < 0 ∨ (0 ≤ x ∧ W ≤ x) ∨ (0 ≤ x ∧ x < W ∧ y < 0) ∨ (0 ≤ x ∧ x < W ∧ 0 ≤ y) by omega) with h | h | h | ⟨h1, h2, h3⟩
  · rw [show onC W H (x, y) = false by unfold onC; simp only [decide_eq_false (show ¬ 0 ≤ x by omega)]; simp]
    go_enter Try.func30, Try.ntmps30
    go_wp2
    go_ret
    exact ⟨rfl, rfl⟩
  · rw [show onC W H (x, y) = false by unfold onC; simp only [decide_eq_false (show ¬ x < W by omega)]; simp]
    go_enter Try.func30, Try.ntmps30
    go_wp2
    go_ret
    exact ⟨rfl, rfl⟩
  · rw [show onC W H (x, y) = false by unfold onC; simp only [decide_eq_false (show ¬ 0 ≤ y by omega)]; simp]
    go_enter Try.func30, Try.ntmps30
    go_wp2
    go_ret
    exact ⟨rfl, rfl⟩
  · rw [show onC W H (x, y) = decide (y < H) by unfold onC; simp only [decide_eq_true h1, decide_eq_true h2, decide_eq_true h3]; simp]
    go_enter Try.func30, Try.ntmps30
    go_wp2
    go_ret
    exact ⟨rfl, rfl⟩
def RLayPost (w : World) (c p k : Nat) (W H : Int) (N : Nat) (F : Nat → Col) (M : Nat → Bool) (l : Ln) (e : Ending) (w' : World) : Prop :=
  e = .returned (.int .i64 (layE W H M l.S l.C.length)) ∧ F3 c p k w w' ∧ Rv w' c p k W H N (layF W H F M l.S l.C) (layM W H M l.S l.C.length)
theorem RLayPost.no {w : World} {c p k : Nat} {W H : Int} {N : Nat} {F : Nat → Col} {M : Nat → Bool} {l : Ln} {w' : World} {E : Int} (he : layE W H M l.S l.C.length = E) (h0 : E ≠ 0) (hb : Below w.heap.size w w') (hv : Rv w' c p k W H N F M) : RLayPost w c p k W H N F M l (.returned (.int .i64 E)) w' := by
  unfold RLayPost layF layM
  rw [he, if_neg h0, if_neg h0]
  exact ⟨rfl, F3.of_below hb, hv⟩
/-- A place is fresh when its turn comes: it isn't known, and none ahead of it is the same. -/
theorem fresh_iff {W H : Int} {N : Nat} {M : Nat → Bool} {S : List (Int × Int)} (hz : Sz W H N) (ha : S.all (onC W H) = true) {i : Nat} (hi : i < S.length) (hM : M (ixC W (spA S i)) = false) (hn : ∀ j, j < i → spA S j ≠ spA S i) : mkM W M S i (ixC W (spA S i)) = false := by
  rw [mkM_miss i (fun j hj e => hn j hj (hz.inj (all_at ha (by omega)) (all_at ha hi) e))]
  exact hM
theorem fr_known {W : Int} {M : Nat → Bool} {S : List (Int × Int)} {i : Nat} (hi : i < S.length) (hM : M (ixC W (spA S i)) = true) : frB W M S S.length = false := frB_stop (i := i) (mkM_mono hM i) _ hi
theorem fr_twice {W : Int} {M : Nat → Bool} {S : List (Int × Int)} {i j : Nat} (hi : i < S.length) (hj : j < i) (he : spA S j = spA S i) : frB W M S S.length = false := frB_stop (i := i) (mkM_hit i j hj (by rw [he])) _ hi
def pairV (s : Int × Int) : Value := .agg #[.int .i64 s.1, .int .i64 s.2]
end Go.Proofs.Ytjheipfcehddhaa
