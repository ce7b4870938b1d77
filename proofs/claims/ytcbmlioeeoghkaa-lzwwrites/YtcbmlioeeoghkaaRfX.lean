/- A range over a function that tells N things one by one: the caller's law. -/
import Derived.Test.YtcbmlioeeoghkaaRfL
namespace Go.Proofs.Ytcbmlioeeoghkaa
open Go.RowKit

/-- What book-keeping changes: the loop's record, the block for deferred calls, and new blocks. -/
structure Ig (l D : Nat) (W W' : World) : Prop where
  os : W'.os = W.os
  tape : W'.tape = W.tape
  output : W'.output = W.output
  size : W.heap.size ≤ W'.heap.size
  block : ∀ k, k < W.heap.size → k ≠ l → k ≠ D → W'.heap[k]? = W.heap[k]?
  lp : ∀ c t f, W.heap[l]? ≠ some (.cells c t f)
  dp : ∀ c t f, W.heap[D]? ≠ some (.cells c t f)
theorem Ig.cells {l D : Nat} {W W' : World} (h : Ig l D W W') {k : Nat} {c : Array Value} {t : TypeId} {f : Nat × Nat} (hk : W.heap[k]? = some (.cells c t f)) : W'.heap[k]? = some (.cells c t f) :=
  (h.block k (lt_of_block hk) (fun e => h.lp c t f (e ▸ hk)) (fun e => h.dp c t f (e ▸ hk))).trans hk
theorem Ig.below {l D B : Nat} {a W W' : World} (h : Ig l D W W') (hb : Below B a W) (hl : B ≤ l) (hD : B ≤ D) (ha : B ≤ a.heap.size) : Below B a W' :=
  ⟨h.os.trans hb.os, h.tape.trans hb.tape, h.output.trans hb.output, Nat.le_trans hb.size h.size, fun k hk => (h.block k (by have := hb.size; omega) (by omega) (by omega)).trans (hb.block k hk)⟩
/-- An iterator that tells N things, one by one, and stops when it is told to. -/
def IxIter (P : Program) (gf : Nat) (lb : Array Value) (enc : Nat → Array Value) (Keep : World → Prop) (N : Nat) : Prop :=
  ∀ (l : Nat) (J : Nat → World → Prop) (Dn : World → Prop) (W0 : World), (∀ k W1, J k W1 → Keep W1) → (∀ k W1 W2, J k W1 → Below W1.heap.size W1 W2 → J k W2) → J 0 W0 →
    (∀ (i : Nat) W1, i < N → J i W1 → YieldAt Fence.wide 3 P l (enc i) W1 fun e W2 => ∃ b : Bool, e = .returned (.bool b) ∧ (b = true → J (i + 1) W2) ∧ (b = false → Dn W2)) →
    Calls P gf (#[.func (.yield l) #[] #[]] ++ lb) W0 fun e W' => (∃ v, e = .returned v) ∧ (J N W' ∨ Dn W')
/-- What is asked at the end of a round's body. -/
def ixPost (l D : Nat) (I : Nat → World → Prop) (Ix : Code → World → Prop) (j : Nat) (W2 : World) : Exit → Act → World → Prop
  | .normal, _, W => W.heap[l]? = W2.heap[l]? ∧ W.heap[D]? = W2.heap[D]? ∧ I j W
  | .ret, _, W => W.heap[l]? = W2.heap[l]? ∧ W.heap[D]? = W2.heap[D]? ∧ Ix .ret W
  | .exit id, _, W => W.heap[l]? = W2.heap[l]? ∧ W.heap[D]? = W2.heap[D]? ∧ Ix (.exit id) W
  | .goto t, _, W => W.heap[l]? = W2.heap[l]? ∧ W.heap[D]? = W2.heap[D]? ∧ Ix (.goto t) W
  | _, _, _ => False
theorem ixPost_in {l D : Nat} {I : Nat → World → Prop} {Ix : Code → World → Prop} {j : Nat} {W2 : World} : ¬ LetsOut (ixPost l D I Ix j W2) := by
  rintro ⟨a, w, h⟩
  exact h
theorem ig_put {l D k : Nat} {W : World} (o : Obj) (hk : k = l ∨ k = D) (hl : ∀ c t f, W.heap[l]? ≠ some (.cells c t f)) (hD : ∀ c t f, W.heap[D]? ≠ some (.cells c t f)) : Ig l D W (W.putObj k o) :=
  ⟨rfl, rfl, rfl, by simp, fun j _ h1 h2 => World.putObj_heap_other (by rcases hk with rfl | rfl <;> assumption), hl, hD⟩
theorem no_cells_loop {W : World} {l : Nat} {r : Loop} (h : W.heap[l]? = some (.loop r)) : ∀ c t f, W.heap[l]? ≠ some (.cells c t f) := fun c t f e => by rw [h] at e; cases e
theorem no_cells_def {W : World} {l : Nat} {r : Option (List Deferred)} (h : W.heap[l]? = some (.deferred r)) : ∀ c t f, W.heap[l]? ≠ some (.cells c t f) := fun c t f e => by rw [h] at e; cases e
/-- **The statement 'for .. := range g { .. }' over such an iterator.** -/
theorem wp_range_ix {P : Program} {g : Operand} {ps : Array Tmp} {assign body : Code} {Q : Exit → Act → World → Prop} {a : Act} {w : World} {gf : Nat} {lb : Array Value} {enc : Nat → Array Value} {Keep : World → Prop} {N : Nat}
    (hg : a.eval g = .func (.func gf) #[] lb) (eg : ∀ args w, (callFunc gf args).run P w = .ok (.enter gf args) w) (hit : IxIter P gf lb enc Keep N) (hps : ∀ i, (enc i).size = ps.size)
    (I : Nat → World → Prop) (Ix : Code → World → Prop) (hI : ∀ i W W', I i W → Ig (w.heap.size + 1) w.heap.size W W' → I i W') (hIx : ∀ c W W', Ix c W → Ig (w.heap.size + 1) w.heap.size W W' → Ix c W') (hK : ∀ i W, I i W → Keep W) (h0 : I 0 w)
    (hb : ∀ (i : Nat) (W : World), i < N → I i W → (∃ r, W.heap[w.heap.size + 1]? = some (.loop r)) → (∃ r, W.heap[w.heap.size]? = some (.deferred r)) →
      assign.wpIn (Fence.wide.inRound (w.heap.size + 1)) 3 P (Exit.then (fun a₁ w₁ => w₁.heap[w.heap.size + 1]? = W.heap[w.heap.size + 1]? ∧ w₁.heap[w.heap.size]? = W.heap[w.heap.size]? ∧ 
        ∀ o, Ig (w.heap.size + 1) w.heap.size w₁ (w₁.putObj (w.heap.size + 1) o) → (w₁.putObj (w.heap.size + 1) o).heap[w.heap.size + 1]? = some o → (∃ r, (w₁.putObj (w.heap.size + 1) o).heap[w.heap.size]? = some (.deferred r)) → (∃ r, o = .loop r) → body.wpIn (Fence.wide.inRound (w.heap.size + 1)) 3 P (ixPost (w.heap.size + 1) w.heap.size I Ix (i + 1) (w₁.putObj (w.heap.size + 1) o)) a₁ (w₁.putObj (w.heap.size + 1) o)) (fun _ _ _ => False))
        { tmps := (ps.zip (enc i)).foldl (fun t (p, v) => t.setIfInBounds p v) a.tmps, defers := [] } W)
    (hdone : ∀ W, I N W → W.heap[w.heap.size]? = some (.deferred (some [])) → (∃ r, W.heap[w.heap.size + 1]? = some (.loop r)) → Q .normal { a with defers := { target := .collected w.heap.size, args := #[] } :: a.defers } W)
    (hstop : ∀ c W, Ix c W → W.heap[w.heap.size]? = some (.deferred (some [])) → (∃ r, W.heap[w.heap.size + 1]? = some (.loop r)) → c.wp P Q { a with defers := { target := .collected w.heap.size, args := #[] } :: a.defers } W) :
    (Code.rangeFunc g ps assign body).wp P Q a w := by
  refine wp_rangeFunc_any hg eg ?_
  intro mk W1 hW1 hyi
  have hB1 : Below w.heap.size w W1 := by rw [← hW1]; exact ((Below.refl _ w).alloc (Nat.le_refl _) _).alloc (by simp) _
  have hL1 : RfAt W1 (w.heap.size + 1) mk := by
    unfold RfAt; rw [← hW1]; have := World.alloc_heap_new (w.alloc (.deferred (some []))) (.loop (mk .ready none)); rwa [World.size_alloc] at this
  have hD1 : W1.heap[w.heap.size]? = some (.deferred (some [])) := by
    rw [← hW1, Below.heap_alloc _ _ _ (by simp)]; exact World.alloc_heap_new w _
  have hig : Ig (w.heap.size + 1) w.heap.size w W1 := ⟨hB1.os, hB1.tape, hB1.output, hB1.size, fun k hk _ _ => hB1.block k hk, fun c t f e => by have := lt_of_block e; omega, fun c t f e => by have := lt_of_block e; omega⟩
  refine Calls.mono (hit (w.heap.size + 1) (fun k W => I k W ∧ RfAt W (w.heap.size + 1) mk ∧ W.heap[w.heap.size]? = some (.deferred (some [])))
    (fun W => ∃ c, Ix c W ∧ W.heap[w.heap.size + 1]? = some (.loop (mk .done (some c))) ∧ W.heap[w.heap.size]? = some (.deferred (some []))) W1 (fun k W h => hK k W h.1) ?stays ⟨hI 0 w W1 h0 hig, hL1, hD1⟩ ?yield) ?fin
  case stays =>
    rintro k Wa Wb ⟨h1, h2, h3⟩ hbel
    have h2' : Wa.heap[w.heap.size + 1]? = some (.loop (mk .ready none)) := h2
    refine ⟨hI k Wa Wb h1 ⟨hbel.os, hbel.tape, hbel.output, hbel.size, fun j hj _ _ => hbel.block j hj, no_cells_loop h2', no_cells_def h3⟩, (hbel.block _ (lt_of_block h2')).trans h2', (hbel.block _ (lt_of_block h3)).trans h3⟩
  case yield =>
    rintro i W hi ⟨h1, h2, h3⟩
    have h2' : W.heap[w.heap.size + 1]? = some (.loop (mk .ready none)) := h2
    refine hyi _ W _ (hps i) h2 ?_
    refine Code.wpIn_mono ?_ (hb i W hi h1 ⟨_, h2'⟩ ⟨_, h3⟩)
    intro e a1 w1 hq
    cases e with
    | normal =>
      obtain ⟨q1, q2, q3⟩ := hq
      rw [h2'] at q1
      rw [h3] at q2
      refine ⟨q1, ?_⟩
      have hlt : w.heap.size + 1 < w1.heap.size := lt_of_block q1
      have p1 : (w1.putObj (w.heap.size + 1) (.loop (mk .busy none))).heap[w.heap.size + 1]? = some (.loop (mk .busy none)) := World.putObj_heap_same hlt
      have p2 : (w1.putObj (w.heap.size + 1) (.loop (mk .busy none))).heap[w.heap.size]? = some (.deferred (some [])) := (World.putObj_heap_other (by omega)).trans q2
      refine Code.wpIn_mono ?_ (q3 (.loop (mk .busy none)) (ig_put _ (.inl rfl) (no_cells_loop q1) (no_cells_def q2)) p1 ⟨_, p2⟩ ⟨_, rfl⟩)
      have pu : ∀ (W3 : World) (o : Obj), W3.heap[w.heap.size + 1]? = some (.loop (mk .busy none)) → W3.heap[w.heap.size]? = some (.deferred (some [])) → Ig (w.heap.size + 1) w.heap.size W3 (W3.putObj (w.heap.size + 1) o) ∧ (W3.putObj (w.heap.size + 1) o).heap[w.heap.size + 1]? = some o ∧ (W3.putObj (w.heap.size + 1) o).heap[w.heap.size]? = some (.deferred (some [])) := fun W3 o e1 e2 =>
        ⟨ig_put _ (.inl rfl) (no_cells_loop e1) (no_cells_def e2), World.putObj_heap_same (lt_of_block e1), (World.putObj_heap_other (by omega)).trans e2⟩
      intro e2 a2 w2 hq2
      cases e2 with
      | normal =>
        obtain ⟨r1, r2, r3⟩ := hq2
        rw [p1] at r1
        rw [p2] at r2
        obtain ⟨t1, t2, t3⟩ := pu w2 (.loop (mk .ready none)) r1 r2
        exact ⟨r1, true, rfl, fun _ => ⟨hI _ _ _ r3 t1, t2, t3⟩, fun h => by cases h⟩
      | ret =>
        obtain ⟨r1, r2, r3⟩ := hq2
        rw [p1] at r1
        rw [p2] at r2
        obtain ⟨t1, t2, t3⟩ := pu w2 (.loop (mk .done (some .ret))) r1 r2
        exact ⟨r1, false, rfl, (fun h => by cases h), fun _ => ⟨_, hIx _ _ _ r3 t1, t2, t3⟩⟩
      | exit id =>
        obtain ⟨r1, r2, r3⟩ := hq2
        rw [p1] at r1
        rw [p2] at r2
        obtain ⟨t1, t2, t3⟩ := pu w2 (.loop (mk .done (some (.exit id)))) r1 r2
        exact ⟨r1, false, rfl, (fun h => by cases h), fun _ => ⟨_, hIx _ _ _ r3 t1, t2, t3⟩⟩
      | goto t =>
        obtain ⟨r1, r2, r3⟩ := hq2
        rw [p1] at r1
        rw [p2] at r2
        obtain ⟨t1, t2, t3⟩ := pu w2 (.loop (mk .done (some (.goto t)))) r1 r2
        exact ⟨r1, false, rfl, (fun h => by cases h), fun _ => ⟨_, hIx _ _ _ r3 t1, t2, t3⟩⟩
      | panic ch => exact hq2.elim
      | outgrown => exact hq2.elim
    | exit id => exact hq.elim
    | goto t => exact hq.elim
    | ret => exact hq.elim
    | panic chain => exact hq.elim
    | outgrown => exact hq.elim
  case fin =>
    rintro e W' ⟨⟨v, rfl⟩, (⟨h1, h2, h3⟩ | ⟨c, h1, h2, h3⟩)⟩
    · have h2' : W'.heap[w.heap.size + 1]? = some (.loop (mk .ready none)) := h2
      refine ⟨⟨v, rfl⟩, .inl ⟨h2, ?_⟩⟩
      exact hdone _ (hI _ _ _ h1 (ig_put _ (.inl rfl) (no_cells_loop h2') (no_cells_def h3))) ((World.putObj_heap_other (by omega)).trans h3) ⟨_, World.putObj_heap_same (lt_of_block h2')⟩
    · refine ⟨⟨v, rfl⟩, .inr ⟨c, h2, ?_⟩⟩
      exact hstop c _ (hIx _ _ _ h1 (ig_put _ (.inl rfl) (no_cells_loop h2) (no_cells_def h3))) ((World.putObj_heap_other (by omega)).trans h3) ⟨_, World.putObj_heap_same (lt_of_block h2)⟩
end Go.Proofs.Ytcbmlioeeoghkaa
