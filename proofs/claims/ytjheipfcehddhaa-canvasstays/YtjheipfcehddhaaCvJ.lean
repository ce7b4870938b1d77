/- A view of what is known. -/
import Derived.Test.YtjheipfcehddhaaCvI
import Derived.Test.YtjheipfcehddhaaCvH
import Derived.WalkMore
namespace Go.Proofs.Ytjheipfcehddhaa
open Go.RowKit
attribute [local go_sem] Oper.semAt_some
/-- Marks of loops that were gone over. -/
def marks (rs : List Nat) : List Deferred := rs.map fun r => { target := .collected r, args := #[] }
def shut (w : World) : List Nat → World
  | [] => w
  | r :: rs => shut (w.putObj r (.deferred none)) rs
theorem shut_size : ∀ (rs : List Nat) (w : World), (shut w rs).heap.size = w.heap.size
  | [], _ => rfl
  | r :: rs, w => by rw [shut, shut_size rs, World.putObj_size]
theorem shut_heap : ∀ (rs : List Nat) (w : World) {j : Nat}, j ∉ rs → (shut w rs).heap[j]? = w.heap[j]?
  | [], _, _, _ => rfl
  | r :: rs, w, j, h => by
    rw [List.mem_cons] at h
    rw [shut, shut_heap rs _ (fun q => h (.inr q)), World.putObj_heap_other (fun e => h (.inl e))]
theorem shut_os : ∀ (rs : List Nat) (w : World), (shut w rs).os = w.os ∧ (shut w rs).tape = w.tape ∧ (shut w rs).output = w.output
  | [], _ => ⟨rfl, rfl, rfl⟩
  | r :: rs, w => by rw [shut]; exact shut_os rs _
theorem leaves_marks {F : Fence} {n : Nat} {P : Program} {fn : Func} {tmps : Array Value} {R : Ending → World → Prop} {u : FrameMode} (hu : u ≠ .run) : ∀ (rs : List Nat) (w : World), (∀ r ∈ rs, w.heap[r]? = some (.deferred (some []))) → rs.Nodup → LeavesInM F n P fn tmps R [] u (shut w rs) → LeavesInM F n P fn tmps R (marks rs) u w
  | [], _, _, _, h => h
  | r :: rs, w, hr, hn, h => by
    rw [List.nodup_cons] at hn
    refine ⟨hu, .inl ⟨r, _, rfl, run_takeDeferred (hr r (by simp)), ?_⟩⟩
    refine leaves_marks hu rs _ (fun q hq => ?_) hn.2 h
    rw [World.putObj_heap_other (by rintro rfl; exact hn.1 hq)]
    exact hr q (by simp [hq])
/-- What a pixel is shown as. -/
def vwC (W H : Int) (F : Nat → Col) (M : Nat → Bool) (x y : Int) (d : Col) : List (Nat × Nat) → Col
  | [] => d
  | q :: r => if atB W H M (lowN q.1 x, lowN q.2 y) then F (ixC W (lowN q.1 x, lowN q.2 y)) else vwC W H F M x y d r
def vwG (W H : Int) (F : Nat → Col) (M : Nat → Bool) (L : List (Nat × Nat)) (i : Nat) : Col := vwC W H F M ((i : Int) % W) ((i : Int) / W) (F i) L
def vwS (G F : Nat → Col) (i : Nat) : Nat → Col := fun q => if q < i then G q else F q
theorem vwC_none {W H : Int} {F : Nat → Col} {M : Nat → Bool} {x y : Int} {d : Col} : ∀ (L : List (Nat × Nat)), (∀ j, j < L.length → atB W H M (lowN (cuX L j).1 x, lowN (cuX L j).2 y) = false) → vwC W H F M x y d L = d
  | [], _ => rfl
  | q :: r, h => by
    have h0 := h 0 (by simp)
    unfold vwC
    rw [show cuX (q :: r) 0 = q from rfl] at h0
    rw [h0]
    exact vwC_none r fun j hj => by have := h (j + 1) (by simpa using hj); exact this
theorem vwC_some {W H : Int} {F : Nat → Col} {M : Nat → Bool} {x y : Int} {d : Col} : ∀ (L : List (Nat × Nat)) (k : Nat), k < L.length → (∀ j, j < k → atB W H M (lowN (cuX L j).1 x, lowN (cuX L j).2 y) = false) → atB W H M (lowN (cuX L k).1 x, lowN (cuX L k).2 y) = true → vwC W H F M x y d L = F (ixC W (lowN (cuX L k).1 x, lowN (cuX L k).2 y))
  | [], k, hk, _, _ => by simp at hk
  | q :: r, 0, _, _, h1 => by
    unfold vwC
    rw [show cuX (q :: r) 0 = q from rfl] at h1 ⊢
    rw [h1]; rfl
  | q :: r, k + 1, hk, h0, h1 => by
    have h00 := h0 0 (by omega)
    unfold vwC
    rw [show cuX (q :: r) 0 = q from rfl] at h00
    rw [h00]
    exact vwC_some r k (by simpa using hk) (fun j hj => by have := h0 (j + 1) (by omega); exact this) h1
/-- Between two pixels. -/
structure VwI (w0 : World) (c p k cx rb vb g cp cb : Nat) (W H : Int) (N : Nat) (F : Nat → Col) (M : Nat → Bool) (n : Int) (L : List (Nat × Nat)) (G : Nat → Col) (rs : List Nat) (wr : World) : Prop where
  be : Below w0.heap.size w0 wr
  cv : Cv wr c p k W H N F M n
  bx : wr.heap[cx]? = some (.cells #[.pointer (some ⟨c, 0, none⟩)] 24 (0, 0))
  re : wr.heap[rb]? = some (.cells #[.int .i64 0, .int .i64 0, .slice none 0 0] 41 (0, 0))
  vw : wr.heap[vb]? = some (.cells #[.int .i64 W, .int .i64 H, .slice (some ⟨g, 0, none⟩) N cp] 41 (0, 0))
  px : PxM wr g N G
  ct : wr.heap[cb]? = some (.cells (cuA L) 85 (0, 0))
  ms : ∀ r ∈ rs, w0.heap.size ≤ r ∧ wr.heap[r]? = some (.deferred (some []))
  nd : rs.Nodup
  lo : w0.heap.size ≤ g ∧ p < w0.heap.size ∧ c < w0.heap.size ∧ k < w0.heap.size
  cl : N ≤ cp
  cm : cp ≤ maxLen
theorem PxM.kept {w w' : World} {g N : Nat} {F : Nat → Col} (h : PxM w g N F) (hk : ∀ (j : Nat) (c : Array Value) t f, w.heap[j]? = some (.cells c t f) → w'.heap[j]? = some (.cells c t f)) : PxM w' g N F := by
  obtain ⟨cur, hh, hc⟩ := h; exact ⟨cur, hk _ _ _ _ hh, hc⟩
theorem KnM.kept {w w' : World} {g N : Nat} {F : Nat → Bool} (h : KnM w g N F) (hk : ∀ (j : Nat) (c : Array Value) t f, w.heap[j]? = some (.cells c t f) → w'.heap[j]? = some (.cells c t f)) : KnM w' g N F := by
  obtain ⟨cur, hh, hc⟩ := h; exact ⟨cur, hk _ _ _ _ hh, hc⟩
theorem VwI.kept {w0 : World} {c p k cx rb vb g cp cb : Nat} {W H : Int} {N : Nat} {F : Nat → Col} {M : Nat → Bool} {n : Int} {L : List (Nat × Nat)} {G : Nat → Col} {rs : List Nat} {wr w' : World} (h : VwI w0 c p k cx rb vb g cp cb W H N F M n L G rs wr) (hb : Below w0.heap.size w0 w')
    (hk : ∀ (j : Nat) (c : Array Value) t f, wr.heap[j]? = some (.cells c t f) → w'.heap[j]? = some (.cells c t f)) (hr : ∀ r ∈ rs, w'.heap[r]? = wr.heap[r]?) : VwI w0 c p k cx rb vb g cp cb W H N F M n L G rs w' :=
  ⟨hb, ⟨hk _ _ _ _ h.cv.st, h.cv.px.kept hk, h.cv.kn.kept hk, h.cv.sz⟩, hk _ _ _ _ h.bx, hk _ _ _ _ h.re, hk _ _ _ _ h.vw, h.px.kept hk, hk _ _ _ _ h.ct, fun r hr' => ⟨(h.ms r hr').1, (hr r hr').trans (h.ms r hr').2⟩, h.nd, h.lo, h.cl, h.cm⟩
theorem VwI.old {w0 : World} {c p k cx rb vb g cp cb : Nat} {W H : Int} {N : Nat} {F : Nat → Col} {M : Nat → Bool} {n : Int} {L : List (Nat × Nat)} {G : Nat → Col} {rs : List Nat} {wr w' : World} (h : VwI w0 c p k cx rb vb g cp cb W H N F M n L G rs wr) (hb : Below wr.heap.size wr w') : VwI w0 c p k cx rb vb g cp cb W H N F M n L G rs w' :=
  h.kept (h.be.trans (hb.mono h.be.size)) (fun _ _ _ _ hj => (hb.block _ (lt_of_block hj)).trans hj) fun r hr => hb.block _ (lt_of_block (h.ms r hr).2)
theorem VwI.ig {w0 : World} {c p k cx rb vb g cp cb : Nat} {W H : Int} {N : Nat} {F : Nat → Col} {M : Nat → Bool} {n : Int} {L : List (Nat × Nat)} {G : Nat → Col} {rs : List Nat} {wr w' : World} {l D : Nat} (h : VwI w0 c p k cx rb vb g cp cb W H N F M n L G rs wr) (hi : Ig l D wr w') (hl : w0.heap.size ≤ l) (hD : w0.heap.size ≤ D) (hrs : l ∉ rs ∧ D ∉ rs) : VwI w0 c p k cx rb vb g cp cb W H N F M n L G rs w' :=
  h.kept (hi.below h.be hl hD (Nat.le_refl _)) (fun _ _ _ _ hj => hi.cells hj) fun r hr => hi.block r (lt_of_block (h.ms r hr).2) (fun e => hrs.1 (e ▸ hr)) (fun e => hrs.2 (e ▸ hr))
theorem VwI.set {w0 : World} {c p k cx rb vb g cp cb : Nat} {W H : Int} {N : Nat} {F : Nat → Col} {M : Nat → Bool} {n : Int} {L : List (Nat × Nat)} {G : Nat → Col} {rs : List Nat} {wr : World} (h : VwI w0 c p k cx rb vb g cp cb W H N F M n L G rs wr) {i : Nat} (hi : i < N) (v : Col) : VwI w0 c p k cx rb vb g cp cb W H N F M n L (upd G i v) rs (setPx wr g i v) := by
  obtain ⟨cur, hg, _⟩ := h.px
  have ne : ∀ (j : Nat) (o : Obj), wr.heap[j]? = some o → (∀ c f, o ≠ .cells c 49 f) → (setPx wr g i v).heap[j]? = some o := fun j o hj ho => by
    refine (heap_setPx wr g i v (fun e => ?_)).trans hj
    subst e
    rw [hg] at hj
    simp only [Option.some.injEq] at hj
    exact ho _ _ hj.symm
  have hpg : p ≠ g := by have := h.lo; omega
  have hb : Below w0.heap.size w0 (setPx wr g i v) := by
    have f := F3.setPx (c := g) (k := g) (p := g) wr i v
    exact F3.below h.be f h.lo.1 h.lo.1 h.lo.1 h.be.size
  exact ⟨hb, ⟨ne _ _ h.cv.st (fun c f e => by cases e), h.cv.px.same (heap_setPx wr g i v hpg), h.cv.kn.same (heap_setPx wr g i v (by have := h.lo; omega)), h.cv.sz⟩, ne _ _ h.bx (fun c f e => by cases e), ne _ _ h.re (fun c f e => by cases e), ne _ _ h.vw (fun c f e => by cases e), h.px.set hi v, ne _ _ h.ct (fun c f e => by cases e), fun r hr => ⟨(h.ms r hr).1, ne _ _ (h.ms r hr).2 (fun c f e => by cases e)⟩, h.nd, h.lo, h.cl, h.cm⟩
end Go.Proofs.Ytjheipfcehddhaa
