/- A range over a function that tells N things one by one, each in memory; loops within loops: the caller's law. -/
import Derived.Test.YtcbmlioeeoghkaaRfX
namespace Go.Proofs.Ytcbmlioeeoghkaa
open Go.RowKit

/-- What book-keeping may change: what is no cells, from block B on; and new blocks. -/
structure Bk (B : Nat) (W W' : World) : Prop where
  os : W'.os = W.os
  tape : W'.tape = W.tape
  output : W'.output = W.output
  size : W.heap.size ≤ W'.heap.size
  block : ∀ (k : Nat) (o : Obj), W.heap[k]? = some o → (k < B ∨ ∃ c t f, o = Obj.cells c t f) → W'.heap[k]? = some o
theorem Bk.refl (B : Nat) (W : World) : Bk B W W := ⟨rfl, rfl, rfl, Nat.le_refl _, fun _ _ h _ => h⟩
theorem Bk.trans {B : Nat} {a b c : World} (h : Bk B a b) (k : Bk B b c) : Bk B a c :=
  ⟨k.os.trans h.os, k.tape.trans h.tape, k.output.trans h.output, Nat.le_trans h.size k.size, fun j o hj ho => k.block j o (h.block j o hj ho) ho⟩
theorem Bk.mono {B B' : Nat} {a b : World} (h : Bk B a b) (hb : B' ≤ B) : Bk B' a b := ⟨h.os, h.tape, h.output, h.size, fun j o hj ho => h.block j o hj (ho.imp (fun e => by omega) id)⟩
theorem Bk.of_below (B : Nat) {a b : World} (h : Below a.heap.size a b) : Bk B a b := ⟨h.os, h.tape, h.output, h.size, fun k _ hk _ => (h.block k (lt_of_block hk)).trans hk⟩
theorem Bk.of_put {B k : Nat} {W : World} (o : Obj) (hk : B ≤ k) (hc : ∀ c t f, W.heap[k]? ≠ some (.cells c t f)) : Bk B W (W.putObj k o) :=
  ⟨rfl, rfl, rfl, by simp, fun j o' hj ho => by
    have hne : j ≠ k := fun e => by
      subst e
      rcases ho with h | ⟨c, t, f, rfl⟩
      · omega
      · exact hc c t f hj
    rw [World.putObj_heap_other hne]; exact hj⟩
theorem Bk.cells {B : Nat} {W W' : World} (h : Bk B W W') {k : Nat} {c : Array Value} {t : TypeId} {f : Nat × Nat} (hk : W.heap[k]? = some (.cells c t f)) : W'.heap[k]? = some (.cells c t f) := h.block k _ hk (.inr ⟨c, t, f, rfl⟩)
theorem Bk.low {B : Nat} {W W' : World} (h : Bk B W W') {k : Nat} {o : Obj} (hk : W.heap[k]? = some o) (hl : k < B) : W'.heap[k]? = some o := h.block k o hk (.inl hl)
theorem Bk.below {B B' : Nat} {a W W' : World} (h : Bk B' W W') (hb : Below B a W) (hB : B ≤ B') (ha : B ≤ a.heap.size) : Below B a W' :=
  ⟨h.os.trans hb.os, h.tape.trans hb.tape, h.output.trans hb.output, Nat.le_trans hb.size h.size, fun k hk => by
    have hlt : k < W.heap.size := by have := hb.size; omega
    rw [← hb.block k hk, Array.getElem?_eq_getElem hlt]
    exact h.low (Array.getElem?_eq_getElem hlt) (by omega)⟩
/-- What a round must keep: objects of a kind, but for the loop's own record. -/
structure KpO (kp : Obj → Prop) (l : Nat) (W W' : World) : Prop where
  size : W.heap.size ≤ W'.heap.size
  block : ∀ (k : Nat) (o : Obj), k ≠ l → W.heap[k]? = some o → kp o → W'.heap[k]? = some o
theorem KpO.refl (kp : Obj → Prop) (l : Nat) (W : World) : KpO kp l W W := ⟨Nat.le_refl _, fun _ _ _ h _ => h⟩
theorem KpO.trans {kp : Obj → Prop} {l : Nat} {a b c : World} (h : KpO kp l a b) (k : KpO kp l b c) : KpO kp l a c := ⟨Nat.le_trans h.size k.size, fun j o hj ho hk => k.block j o hj (h.block j o hj ho hk) hk⟩
theorem KpO.of_below {kp : Obj → Prop} {l : Nat} {a b : World} (h : Below a.heap.size a b) : KpO kp l a b := ⟨h.size, fun k _ _ hk _ => (h.block k (lt_of_block hk)).trans hk⟩
theorem KpO.put (kp : Obj → Prop) (l : Nat) (W : World) (o : Obj) : KpO kp l W (W.putObj l o) := ⟨by simp, fun k _ hk h _ => by rw [World.putObj_heap_other hk]; exact h⟩
/-- An iterator that tells N things, one by one, and stops when it is told to. -/
def IxIterG (P : Program) (gf : Nat) (lb : Array Value) (Enc : Nat → World → World → Array Value → Prop) (Keep : World → Prop) (kp : Obj → Prop) (N : Nat) : Prop :=
  ∀ (l : Nat) (J : Nat → World → Prop) (Dn : World → Prop) (W0 : World), (∀ k W1, J k W1 → Keep W1) → (∀ k W1 W2, J k W1 → Bk W0.heap.size W1 W2 → J k W2) → (∀ W1 W2, Dn W1 → Bk W0.heap.size W1 W2 → Dn W2) → l < W0.heap.size → (∀ k W1, J k W1 → ∃ r, W1.heap[l]? = some (.loop r)) → J 0 W0 →
    (∀ (i : Nat) Wp W1 args, i < N → J i Wp → Below Wp.heap.size Wp W1 → Enc i Wp W1 args → YieldAt Fence.wide 3 P l args W1 fun e W2 => ∃ b : Bool, e = .returned (.bool b) ∧ KpO kp l W1 W2 ∧ (b = true → J (i + 1) W2) ∧ (b = false → Dn W2)) →
    Calls P gf (#[.func (.yield l) #[] #[]] ++ lb) W0 fun e W' => (∃ v, e = .returned v) ∧ (J N W' ∨ Dn W')
theorem IxIter.general {P : Program} {gf : Nat} {lb : Array Value} {enc : Nat → Array Value} {Keep : World → Prop} {N : Nat} (h : IxIter P gf lb enc Keep N) (kp : Obj → Prop) : IxIterG P gf lb (fun i _ _ a => a = enc i) Keep kp N :=
  fun l J Dn W0 h1 h2 _ _ _ h4 h5 => h l J Dn W0 h1 (fun k W1 W2 hj hb => h2 k W1 W2 hj (Bk.of_below _ hb)) h4 (fun i W1 hi hj => (h5 i W1 W1 _ hi hj (Below.refl _ _) rfl).mono fun _ _ ⟨b, e, _, hq⟩ => ⟨b, e, hq⟩)
/-- What is asked at the end of a round's body. -/
def ixPostG (kp : Obj → Prop) (l D : Nat) (I : Nat → World → Prop) (Ix : Code → World → Prop) (j : Nat) (W2 : World) : Exit → Act → World → Prop
  | .normal, _, W => W.heap[l]? = W2.heap[l]? ∧ W.heap[D]? = W2.heap[D]? ∧ KpO kp l W2 W ∧ I j W
  | .ret, _, W => W.heap[l]? = W2.heap[l]? ∧ W.heap[D]? = W2.heap[D]? ∧ KpO kp l W2 W ∧ Ix .ret W
  | .exit id, _, W => W.heap[l]? = W2.heap[l]? ∧ W.heap[D]? = W2.heap[D]? ∧ KpO kp l W2 W ∧ Ix (.exit id) W
  | .goto t, _, W => W.heap[l]? = W2.heap[l]? ∧ W.heap[D]? = W2.heap[D]? ∧ KpO kp l W2 W ∧ Ix (.goto t) W
  | _, _, _ => False
theorem ixPostG_in {kp : Obj → Prop} {l D : Nat} {I : Nat → World → Prop} {Ix : Code → World → Prop} {j : Nat} {W2 : World} : ¬ LetsOut (ixPostG kp l D I Ix j W2) := by
  rintro ⟨a, w, h⟩
  exact h
/-- **The statement 'for .. := range g { .. }' over such an iterator.** -/
theorem wp_range_ixG {P : Program} {g : Operand} {ps : Array Tmp} {assign body : Code} {Q : Exit → Act → World → Prop} {a : Act} {w : World} {gf : Nat} {lb : Array Value} {Enc : Nat → World → World → Array Value → Prop} {Keep : World → Prop} {kp : Obj → Prop} {N : Nat}
    (hg : a.eval g = .func (.func gf) #[] lb) (eg : ∀ args w, (callFunc gf args).run P w = .ok (.enter gf args) w) (hit : IxIterG P gf lb Enc Keep kp N) (hps : ∀ i Wp W args, Enc i Wp W args → args.size = ps.size)
    (I : Nat → World → Prop) (Ix : Code → World → Prop) (hI : ∀ i W W', I i W → Bk w.heap.size W W' → I i W') (hIx : ∀ c W W', Ix c W → Bk w.heap.size W W' → Ix c W') (hK : ∀ i W, I i W → Keep W) (h0 : I 0 w)
    (hb : ∀ (i : Nat) (Wp W : World) (args : Array Value), i < N → I i Wp → Below Wp.heap.size Wp W → Enc i Wp W args → (∃ r, W.heap[w.heap.size + 1]? = some (.loop r)) → (∃ r, W.heap[w.heap.size]? = some (.deferred r)) →
      assign.wpIn (Fence.wide.inRound (w.heap.size + 1)) 3 P (Exit.then (fun a₁ w₁ => w₁.heap[w.heap.size + 1]? = W.heap[w.heap.size + 1]? ∧ w₁.heap[w.heap.size]? = W.heap[w.heap.size]? ∧ KpO kp (w.heap.size + 1) W w₁ ∧
        ∀ o, Bk w.heap.size w₁ (w₁.putObj (w.heap.size + 1) o) → (w₁.putObj (w.heap.size + 1) o).heap[w.heap.size + 1]? = some o → (∃ r, (w₁.putObj (w.heap.size + 1) o).heap[w.heap.size]? = some (.deferred r)) → (∃ r, o = .loop r) → body.wpIn (Fence.wide.inRound (w.heap.size + 1)) 3 P (ixPostG kp (w.heap.size + 1) w.heap.size I Ix (i + 1) (w₁.putObj (w.heap.size + 1) o)) a₁ (w₁.putObj (w.heap.size + 1) o)) (fun _ _ _ => False))
        { tmps := (ps.zip args).foldl (fun t (p, v) => t.setIfInBounds p v) a.tmps, defers := [] } W)
    (hdone : ∀ W, I N W → W.heap[w.heap.size]? = some (.deferred (some [])) → (∃ r, W.heap[w.heap.size + 1]? = some (.loop r)) → Q .normal { a with defers := { target := .collected w.heap.size, args := #[] } :: a.defers } W)
    (hstop : ∀ c W, Ix c W → W.heap[w.heap.size]? = some (.deferred (some [])) → (∃ r, W.heap[w.heap.size + 1]? = some (.loop r)) → c.wp P Q { a with defers := { target := .collected w.heap.size, args := #[] } :: a.defers } W) :
    (Code.rangeFunc g ps assign body).wp P Q a w := by
  refine wp_rangeFunc_any hg eg ?_
  intro mk W1 hW1 hyi
  have hB1 : Below w.heap.size w W1 := by rw [← hW1]; exact ((Below.refl _ w).alloc (Nat.le_refl _) _).alloc (by simp) _
  have hL1 : RfAt W1 (w.heap.size + 1) mk := by
    unfold RfAt; rw [← hW1]; have := World.alloc_heap_new (w.alloc (.deferred (some []))) (.loop (mk .ready none)); rwa [World.size_alloc] at this
  have hD1 : W1.heap[w.heap.size]? = some (.deferred (some [])) := by
    rw [← hW1, Below.heap_alloc _ _ _ (by simp)]; exact World.alloc_heap_new w _
  have hL1' : W1.heap[w.heap.size + 1]? = some (.loop (mk .ready none)) := hL1
  have hlt1 := lt_of_block hL1'
  refine Calls.mono (hit (w.heap.size + 1) (fun k W => I k W ∧ RfAt W (w.heap.size + 1) mk ∧ W.heap[w.heap.size]? = some (.deferred (some [])))
    (fun W => ∃ c, Ix c W ∧ W.heap[w.heap.size + 1]? = some (.loop (mk .done (some c))) ∧ W.heap[w.heap.size]? = some (.deferred (some []))) W1 (fun k W h => hK k W h.1) ?stays ?stays2 hlt1 (fun _ _ h => ⟨_, h.2.1⟩) ⟨hI 0 w W1 h0 (Bk.of_below _ hB1), hL1, hD1⟩ ?yield) ?fin
  case stays =>
    rintro k Wa Wb ⟨h1, h2, h3⟩ hbk
    have h2' : Wa.heap[w.heap.size + 1]? = some (.loop (mk .ready none)) := h2
    exact ⟨hI k Wa Wb h1 (hbk.mono (by omega)), hbk.low h2' hlt1, hbk.low h3 (by omega)⟩
  case stays2 =>
    rintro Wa Wb ⟨c, h1, h2, h3⟩ hbk
    exact ⟨c, hIx c Wa Wb h1 (hbk.mono (by omega)), hbk.low h2 hlt1, hbk.low h3 (by omega)⟩
  case yield =>
    rintro i Wp W args hi ⟨h1, h2p, h3p⟩ hbw hen
    have h2q : Wp.heap[w.heap.size + 1]? = some (.loop (mk .ready none)) := h2p
    have h2' : W.heap[w.heap.size + 1]? = some (.loop (mk .ready none)) := (hbw.block _ (lt_of_block h2q)).trans h2q
    have h2 : RfAt W (w.heap.size + 1) mk := h2'
    have h3 := (hbw.block _ (lt_of_block h3p)).trans h3p
    refine hyi _ W _ (hps i Wp W args hen) h2 ?_
    refine Code.wpIn_mono ?_ (hb i Wp W args hi h1 hbw hen ⟨_, h2'⟩ ⟨_, h3⟩)
    intro e a1 w1 hq
    cases e with
    | normal =>
      obtain ⟨q1, q2, q4, q3⟩ := hq
      rw [h2'] at q1
      rw [h3] at q2
      refine ⟨q1, ?_⟩
      have hlt : w.heap.size + 1 < w1.heap.size := lt_of_block q1
      have p1 : (w1.putObj (w.heap.size + 1) (.loop (mk .busy none))).heap[w.heap.size + 1]? = some (.loop (mk .busy none)) := World.putObj_heap_same hlt
      have p2 : (w1.putObj (w.heap.size + 1) (.loop (mk .busy none))).heap[w.heap.size]? = some (.deferred (some [])) := (World.putObj_heap_other (by omega)).trans q2
      refine Code.wpIn_mono ?_ (q3 (.loop (mk .busy none)) (Bk.of_put _ (by omega) (no_cells_loop q1)) p1 ⟨_, p2⟩ ⟨_, rfl⟩)
      have pu : ∀ (W3 : World) (o : Obj), W3.heap[w.heap.size + 1]? = some (.loop (mk .busy none)) → W3.heap[w.heap.size]? = some (.deferred (some [])) → KpO kp (w.heap.size + 1) (w1.putObj (w.heap.size + 1) (.loop (mk .busy none))) W3 → Bk w.heap.size W3 (W3.putObj (w.heap.size + 1) o) ∧ (W3.putObj (w.heap.size + 1) o).heap[w.heap.size + 1]? = some o ∧ (W3.putObj (w.heap.size + 1) o).heap[w.heap.size]? = some (.deferred (some [])) ∧ KpO kp (w.heap.size + 1) W (W3.putObj (w.heap.size + 1) o) := fun W3 o e1 e2 e3 =>
        ⟨Bk.of_put _ (by omega) (no_cells_loop e1), World.putObj_heap_same (lt_of_block e1), (World.putObj_heap_other (by omega)).trans e2, ((q4.trans (KpO.put _ _ _ _)).trans e3).trans (KpO.put _ _ _ _)⟩
      intro e2 a2 w2 hq2
      cases e2 with
      | normal =>
        obtain ⟨r1, r2, r4, r3⟩ := hq2
        rw [p1] at r1
        rw [p2] at r2
        obtain ⟨t1, t2, t3, t4⟩ := pu w2 (.loop (mk .ready none)) r1 r2 r4
        exact ⟨r1, true, rfl, t4, fun _ => ⟨hI _ _ _ r3 t1, t2, t3⟩, fun h => by cases h⟩
      | ret =>
        obtain ⟨r1, r2, r4, r3⟩ := hq2
        rw [p1] at r1
        rw [p2] at r2
        obtain ⟨t1, t2, t3, t4⟩ := pu w2 (.loop (mk .done (some .ret))) r1 r2 r4
        exact ⟨r1, false, rfl, t4, (fun h => by cases h), fun _ => ⟨_, hIx _ _ _ r3 t1, t2, t3⟩⟩
      | exit id =>
        obtain ⟨r1, r2, r4, r3⟩ := hq2
        rw [p1] at r1
        rw [p2] at r2
        obtain ⟨t1, t2, t3, t4⟩ := pu w2 (.loop (mk .done (some (.exit id)))) r1 r2 r4
        exact ⟨r1, false, rfl, t4, (fun h => by cases h), fun _ => ⟨_, hIx _ _ _ r3 t1, t2, t3⟩⟩
      | goto t =>
        obtain ⟨r1, r2, r4, r3⟩ := hq2
        rw [p1] at r1
        rw [p2] at r2
        obtain ⟨t1, t2, t3, t4⟩ := pu w2 (.loop (mk .done (some (.goto t)))) r1 r2 r4
        exact ⟨r1, false, rfl, t4, (fun h => by cases h), fun _ => ⟨_, hIx _ _ _ r3 t1, t2, t3⟩⟩
      | panic ch => exact hq2.elim
      | outgrown => exact hq2.elim
    | exit id => exact hq.elim
    | goto t => exact hq.elim
    | ret => exact hq.elim
    | panic chain => exact hq.elim
    | outgrown => exact hq.elim
  case fin =>
    rintro e W' ⟨⟨v, rfl⟩, (⟨h1, h2, h3⟩ | ⟨c, h1, h2, h3⟩)⟩
    · have h2' : W'.heap[w.heap.size + 1]? = some (.loop (mk .ready none)) := h2
      refine ⟨⟨v, rfl⟩, .inl ⟨h2, ?_⟩⟩
      exact hdone _ (hI _ _ _ h1 (Bk.of_put _ (by omega) (no_cells_loop h2'))) ((World.putObj_heap_other (by omega)).trans h3) ⟨_, World.putObj_heap_same (lt_of_block h2')⟩
    · refine ⟨⟨v, rfl⟩, .inr ⟨c, h2, ?_⟩⟩
      exact hstop c _ (hIx _ _ _ h1 (Bk.of_put _ (by omega) (no_cells_loop h2))) ((World.putObj_heap_other (by omega)).trans h3) ⟨_, World.putObj_heap_same (lt_of_block h2)⟩
end Go.Proofs.Ytcbmlioeeoghkaa
