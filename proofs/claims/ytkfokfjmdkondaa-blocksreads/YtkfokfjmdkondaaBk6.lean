/- Small blocks, made. -/
import Derived.Test.YtkfokfjmdkondaaBk5
namespace Go.Proofs.Ytkfokfjmdkondaa
open Go.RowKit
attribute [local go_sem] Oper.semAt_some
/-- A slice that grows, in a box at n0. -/
def PuO (n0 l D : Nat) (o : Loop) (T : List Int) (W : World) : Prop :=
  ∃ tv tg, W.heap[n0]? = some (.cells #[tv] 26 (0, 0)) ∧ Sl W 5 tv tg (vals T) ∧ (∀ k, tg = some k → n0 + 3 ≤ k) ∧ W.heap[l]? = some (.loop o) ∧ W.heap[D]? = some (.deferred (some []))
structure Kp3 (n0 : Nat) (W W' : World) : Prop where
  os : W'.os = W.os
  tape : W'.tape = W.tape
  output : W'.output = W.output
  size : W.heap.size ≤ W'.heap.size
  blk : ∀ k, k < n0 + 3 → k < W.heap.size → k ≠ n0 → W'.heap[k]? = W.heap[k]?
theorem Kp3.trans {n0 : Nat} {A B C : World} (h : Kp3 n0 A B) (k : Kp3 n0 B C) : Kp3 n0 A C :=
  ⟨k.os.trans h.os, k.tape.trans h.tape, k.output.trans h.output, Nat.le_trans h.size k.size, fun j h1 h2 h3 => (k.blk j h1 (Nat.lt_of_lt_of_le h2 h.size) h3).trans (h.blk j h1 h2 h3)⟩
theorem Kp3.alloc (n0 : Nat) (W : World) (o : Obj) : Kp3 n0 W (W.alloc o) := ⟨rfl, rfl, rfl, by simp, fun _ _ h _ => Below.heap_alloc _ _ _ h⟩
theorem Kp3.putObj (n0 : Nat) (W : World) (l : Nat) (o : Obj) (hl : n0 + 3 ≤ l) : Kp3 n0 W (W.putObj l o) := ⟨rfl, rfl, rfl, by simp, fun _ h _ _ => World.putObj_heap_other (by omega)⟩
theorem Kp3.below {n0 : Nat} {W W' : World} (h : Kp3 n0 W W') (hn : n0 ≤ W.heap.size) : Below n0 W W' := ⟨h.os, h.tape, h.output, h.size, fun k hk => h.blk k (by omega) (by omega) (by omega)⟩
theorem PuO.alloc {n0 l D : Nat} {o : Loop} {T : List Int} {W : World} (h : PuO n0 l D o T W) (ob : Obj) : PuO n0 l D o T (W.alloc ob) := by
  obtain ⟨tv, tg, h1, h2, h3, h4, h5⟩ := h
  exact ⟨tv, tg, (Below.heap_alloc _ _ _ (lt_of_block h1)).trans h1, h2.same fun k hk => Below.heap_alloc _ _ _ (h2.lt hk), h3, (Below.heap_alloc _ _ _ (lt_of_block h4)).trans h4, (Below.heap_alloc _ _ _ (lt_of_block h5)).trans h5⟩
theorem PuO.put {n0 l D : Nat} {o : Loop} {T : List Int} {W : World} (h : PuO n0 l D o T W) (hl : n0 + 3 ≤ l) (hlD : l ≠ D) (o' : Loop) : PuO n0 l D o' T (W.putObj l (.loop o')) := by
  obtain ⟨tv, tg, h1, h2, h3, h4, h5⟩ := h
  refine ⟨tv, tg, (World.putObj_heap_other (by omega)).trans h1, h2.same fun k hk => World.putObj_heap_other ?_, h3, World.putObj_heap_same (lt_of_block h4), (World.putObj_heap_other (by omega)).trans h5⟩
  rintro rfl
  obtain ⟨c, hc⟩ := h2.tagB k hk
  rw [h4] at hc; cases hc
theorem pu_step {n0 l D : Nat} {o : Loop} {T ys : List Int} {W w7 : World} {tv v7 : Value} {tg g7 : Option Nat} (hl : n0 + 3 ≤ l) (hD : n0 + 3 ≤ D) (h1 : W.heap[n0]? = some (.cells #[tv] 26 (0, 0))) (h2 : Sl W 5 tv tg (vals T)) (h3 : ∀ k, tg = some k → n0 + 3 ≤ k) (h4 : W.heap[l]? = some (.loop o)) (h5 : W.heap[D]? = some (.deferred (some [])))
    (hs7 : Sl w7 5 v7 g7 (vals (T ++ ys))) (hg7 : g7 = tg ∨ ∃ k, g7 = some k ∧ W.heap.size ≤ k) (hgr : W.grownBy w7 tg) : w7.cell? ⟨n0, 0, none⟩ = some tv ∧ w7.frozen? ⟨n0, 0, none⟩ = false ∧ PuO n0 l D o (T ++ ys) (w7.setCell ⟨n0, 0, none⟩ v7) ∧ Kp3 n0 W (w7.setCell ⟨n0, 0, none⟩ v7) := by
  have e0 : w7.heap[n0]? = some (.cells #[tv] 26 (0, 0)) := (hgr.block n0 (lt_of_block h1) (fun e => by have := h3 _ e.symm; omega)).trans h1
  obtain ⟨k2, f2⟩ := one_cell e0
  have hg3 : ∀ k, g7 = some k → n0 + 3 ≤ k := by
    intro k hk
    rcases hg7 with e | ⟨j, e, hj⟩
    · rw [e] at hk; exact h3 k hk
    · rw [e] at hk; cases hk; have := lt_of_block h4; omega
  have htag : ∀ k ob, W.heap[k]? = some ob → ob.isCells = false → some k ≠ tg := by
    rintro k ob hk hc e
    obtain ⟨c, hcc⟩ := h2.tagB k e.symm
    rw [hk] at hcc; cases hcc; cases hc
  refine ⟨k2, f2, ⟨v7, g7, ?_, ?_, hg3, ?_, ?_⟩, ⟨hgr.os, hgr.tape, hgr.output, ?_, ?_⟩⟩
  · rw [heap_setCell_same w7 n0 0 _ _ _ e0]; rfl
  · exact hs7.same fun k hk => Below.heap_setCell _ _ _ _ (by show k ≠ n0; have := hg3 k hk; omega)
  · rw [Below.heap_setCell _ _ _ _ (by show l ≠ n0; omega)]; exact (hgr.block l (lt_of_block h4) (htag l _ h4 rfl)).trans h4
  · rw [Below.heap_setCell _ _ _ _ (by show D ≠ n0; omega)]; exact (hgr.block D (lt_of_block h5) (htag D _ h5 rfl)).trans h5
  · have := hgr.size; simp [World.setCell]; exact this
  · intro k hk hkl hkn
    rw [Below.heap_setCell _ _ _ _ hkn]; exact hgr.block k hkl (fun e => by have := h3 _ e.symm; omega)
theorem letsOut_then {id : Nat} {K : Act → World → Prop} {mk : LoopState → Option Code → Loop} {l : Nat} {R : Ending → World → Prop} : ¬ LetsOut (Exit.then K (Exit.inBlock id (rfPost mk l R))) := by
  rintro ⟨a, w, h⟩
  exact h
def BkPost (w : World) (out : List Int) (e : Ending) (w' : World) : Prop := ∃ v g, e = .returned (.tuple #[v, .int .i64 0]) ∧ Sl w' 5 v g (vals out) ∧ (∀ k, g = some k → w.heap.size ≤ k) ∧ Below w.heap.size w w'
set_option maxHeartbeats 400000 in
theorem bpack_no (v : Value) (n : Int) (hn : n < 1 ∨ 255 < n) (w : World) : Calls Try.prog 15 #[v, .int .i64 n] w fun e w' => e = .returned (.tuple #[.slice none 0 0, .int .i64 1]) ∧ w' = w := by
  refine calls_of_wp_marks Try.func15 rfl ?_
  simp only [Try.ntmps15, List.size_toArray, List.length_cons, List.length_nil, Nat.reduceAdd, Nat.reduceSub, Array.replicate_succ, Array.replicate_zero, List.push_toArray, List.append_toArray, List.nil_append, List.cons_append]
  rcases hn with hn | hn
  · go_wp2
    exact ⟨_, by simp [results, go_sem], rfl, rfl⟩
  · have hn1 : ¬ n < 1 := by omega
    go_wp2
    exact ⟨_, by simp [results, go_sem], rfl, rfl⟩
set_option maxHeartbeats 1600000 in
set_option maxRecDepth 100000 in
theorem bpack_any (bs : List Int) (av : Option Addr) (m c n : Nat) (w : World) (hn : 1 ≤ n) (hn2 : n ≤ 255) (hm : bs.length = m) (hmc : m ≤ c) (hcm : c ≤ 9223372036854775807) (hrow : Row w av bs) (hby : Bytes bs) (hsum : 2 * bs.length + 1 ≤ 140737488351232) :
    Calls Try.prog 15 #[.slice av m c, .int .i64 n] w fun e w' => BkPost w (bpk n bs ++ [0]) e w' := by
  have HA : Hid (bs.length = m ∧ m ≤ c ∧ c ≤ 9223372036854775807 ∧ Row w av bs ∧ Bytes bs ∧ 2 * bs.length + 1 ≤ 140737488351232) := ⟨hm, hmc, hcm, hrow, hby, hsum⟩
  clear hm hmc hcm hrow hby hsum
  refine calls_of_wp_marks Try.func15 rfl ?_
  simp only [Try.ntmps15, List.size_toArray, List.length_cons, List.length_nil, Nat.reduceAdd, Nat.reduceSub, Array.replicate_succ, Array.replicate_zero, List.push_toArray, List.append_toArray, List.nil_append, List.cons_append]
  have hn1i : ¬ (n : Int) < 1 := by omega
  have hn2i : ¬ (255 : Int) < (n : Int) := by omega
  go_wp2_with (go_at_call 18; refine (cut_any _ _ _ _ _).mono ?_; rintro e w' ⟨rfl, rfl⟩)
  obtain ⟨wa, hwa⟩ : ∃ wa, ((w.alloc (.cells #[.slice none 0 0] 26)).alloc (.cells #[.slice av m c] 26)).alloc (.cells #[.int .i64 n] 3) = wa := ⟨_, rfl⟩
  have hsz : wa.heap.size = w.heap.size + 3 := by rw [← hwa]; simp
  have hBa : Below w.heap.size w wa := by rw [← hwa]; exact (((Below.refl _ w).alloc (Nat.le_refl _) _).alloc (by simp) _).alloc (by simp; omega) _
  have hA0 : wa.heap[w.heap.size]? = some (.cells #[.slice none 0 0] 26 (0, 0)) := by
    rw [← hwa, Below.heap_alloc _ _ _ (by simp; omega), Below.heap_alloc _ _ _ (by simp)]; exact World.alloc_heap_new w _
  have hA1 : wa.heap[w.heap.size + 1]? = some (.cells #[.slice av m c] 26 (0, 0)) := by
    rw [← hwa, Below.heap_alloc _ _ _ (by simp)]; have := World.alloc_heap_new (w.alloc (.cells #[.slice none 0 0] 26)) (.cells #[.slice av m c] 26); rwa [World.size_alloc] at this
  have hA2 : wa.heap[w.heap.size + 2]? = some (.cells #[.int .i64 n] 3 (0, 0)) := by
    rw [← hwa]; have := World.alloc_heap_new ((w.alloc (.cells #[.slice none 0 0] 26)).alloc (.cells #[.slice av m c] 26)) (.cells #[.int .i64 n] 3); rwa [World.size_alloc, World.size_alloc] at this
  rw [hwa]
  refine wp_rangeFunc_any (gf := 21) rfl (callFnB Try.func21 (by kernel_rfl) (by kernel_rfl)) ?_
  intro mk W1 hW1 hyi
  have hB1 : Below wa.heap.size wa W1 := by rw [← hW1]; exact ((Below.refl _ wa).alloc (Nat.le_refl _) _).alloc (by simp) _
  have hL1 : RfAt W1 (wa.heap.size + 1) mk := by
    unfold RfAt; rw [← hW1]; have := World.alloc_heap_new (wa.alloc (.deferred (some []))) (.loop (mk .ready none)); rwa [World.size_alloc] at this
  have hD1 : W1.heap[wa.heap.size]? = some (.deferred (some [])) := by
    rw [← hW1, Below.heap_alloc _ _ _ (by simp)]; exact World.alloc_heap_new wa _
  have HYI : Hid _ := hyi
  have HSZ : Hid (wa.heap.size = w.heap.size + 3) := hsz
  refine Calls.mono (cut1_any w n bs av m c (w.heap.size + 1) (w.heap.size + 2) (wa.heap.size + 1) W1 (PuO w.heap.size (wa.heap.size + 1) wa.heap.size (mk .ready none))
    ?yield ((hB1.block _ (by omega)).trans hA1) ((hB1.block _ (by omega)).trans hA2) (hBa.trans (hB1.mono hBa.size)) hn hn2 HA.out.1 HA.out.2.1 HA.out.2.2.1 (by have := HA.out; omega) HA.out.2.2.2.1 ⟨.slice none 0 0, none, (hB1.block _ (by omega)).trans hA0, Sl.nil _ _, (by intro k hk; cases hk), hL1, hD1⟩) ?fin
  case yield =>
    rintro T W a' k c' part hj hbe hpl hk255 hc' hrp hTn
    refine HYI.out _ W _ rfl (by obtain ⟨_, _, _, _, _, h, _⟩ := hj; exact h) ?_
    have HL4 : Hid (RfAt W (wa.heap.size + 1) mk) := by obtain ⟨_, _, _, _, _, h, _⟩ := hj; exact h
    have hj2 := hj.put (by omega) (by omega) (mk .busy none)
    have hlt : wa.heap.size + 1 < W.heap.size := lt_of_block HL4.out
    obtain ⟨W2, hW2⟩ : ∃ W2, W.putObj (wa.heap.size + 1) (.loop (mk .busy none)) = W2 := ⟨_, rfl⟩
    have hK2 : Kp3 w.heap.size W W2 := by rw [← hW2]; exact Kp3.putObj _ _ _ _ (by omega)
    rw [hW2] at hj2
    -- the length's own byte
    obtain ⟨W3, hW3⟩ : ∃ W3, W2.alloc (.cells #[.int .u8 k] 5) = W3 := ⟨_, rfl⟩
    have hj3 := hj2.alloc (.cells #[.int .u8 k] 5)
    have hK3 : Kp3 w.heap.size W W3 := by rw [← hW3]; exact hK2.trans (Kp3.alloc _ _ _)
    have hrow3 : Row W3 (some ⟨W2.heap.size, 0, none⟩) [(k : Int)] := by
      refine .inr ⟨_, 0, rfl, fun i hi => ?_⟩
      simp at hi; subst hi
      have e := World.alloc_heap_new W2 (.cells #[.int .u8 k] 5)
      rw [hW3] at e
      simp [World.cell?, e]
    rw [hW3] at hj3
    obtain ⟨tv, tg, j1, j2, j3, j4, j5⟩ := hj3
    obtain ⟨at', ct, hv, hl1, hl2, hl3⟩ := j2.shape
    rw [vals_len] at hv hl1
    subst hv
    have q1 : W2.cell? ⟨w.heap.size, 0, none⟩ = some (.slice at' T.length ct) := by
      obtain ⟨tv', tg', i1, _⟩ := hj2
      have : W3.heap[w.heap.size]? = W2.heap[w.heap.size]? := by rw [← hW3]; exact Below.heap_alloc _ _ _ (lt_of_block i1)
      exact (one_cell (this.symm.trans j1)).1
    have HS3 : Hid (Sl W3 5 (.slice at' T.length ct) tg (vals T)) := j2
    have HR3 : Hid (Row W3 (some ⟨W2.heap.size, 0, none⟩) [(k : Int)]) := hrow3
    have HE : Hid (∀ w7 v7 g7, Sl w7 5 v7 g7 (vals (T ++ [(k : Int)])) → (g7 = tg ∨ ∃ k, g7 = some k ∧ W3.heap.size ≤ k) → W3.grownBy w7 tg → w7.cell? ⟨w.heap.size, 0, none⟩ = some (.slice at' T.length ct) ∧ w7.frozen? ⟨w.heap.size, 0, none⟩ = false ∧ PuO w.heap.size (wa.heap.size + 1) wa.heap.size (mk .busy none) (T ++ [(k : Int)]) (w7.setCell ⟨w.heap.size, 0, none⟩ v7) ∧ Kp3 w.heap.size W (w7.setCell ⟨w.heap.size, 0, none⟩ v7)) := by
      intro w7 v7 g7 h1 h2 h3
      obtain ⟨a1, a2, a3, a4⟩ := pu_step (by omega) (by omega) j1 j2 j3 j4 j5 h1 h2 h3
      exact ⟨a1, a2, a3, hK3.trans a4⟩
    have HT : Hid (T.length + k + 1 ≤ 140737488351232 ∧ part.length = k ∧ (a' = none → c' = 0) ∧ Row w a' part ∧ Below w.heap.size w W) := ⟨by have := HA.out; omega, hpl, hc', hrp, hbe⟩
    obtain ⟨TL, hTL⟩ : ∃ TL, T.length = TL := ⟨_, rfl⟩
    have HTL : Hid (T.length = TL) := hTL
    rw [hTL] at q1 hl1
    clear HYI hyi hj hbe hpl hc' hrp hTn hj2 hK2 hK3 hrow3 j1 j2 j3 j4 j5 hl2 hl3 hsz hBa hA0 hA1 hA2 hwa hB1 hL1 hD1 hW1 hTL hlt
    simp only [List.zip_toArray, List.zip_cons_cons, List.zip_nil_right, List.foldl_toArray, List.foldl_cons, List.foldl_nil, List.setIfInBounds_toArray, List.set_cons_succ, List.set_cons_zero]
    gi_wp2
    refine ⟨HL4.out, ?_⟩
    rw [hW2]
    refine wpIn_block ?_
    apply wpIn_seq_k
    intro K1 hK1
    refine wpIn_region_round letsOut_then ?hd ?_
    case hd => simp
    go_wp2_with (at_builtin; refine wpList_more rfl _ _ rfl (.slice at' TL ct) tg T rfl (by have := HS3.out; rw [HTL.out] at this; exact this) (some ⟨W2.heap.size, 0, none⟩) 1 1 [(k : Int)] rfl (by intro h; cases h) rfl HR3.out (by have := HT.out; have := HTL.out; omega) ?_; intro v7 w7 g7 hs7 hg7 hgr7; obtain ⟨a7, c7, hv7, -⟩ := hs7.shape; generalize (vals (T ++ [(k : Int)])).length = z7 at hv7; subst hv7; obtain ⟨y1, y2, y3, y4⟩ := HE.out w7 _ g7 hs7 hg7 hgr7; clear hs7 hg7 hgr7)
    obtain ⟨W4, hW4⟩ : ∃ W4, w7.setCell ⟨w.heap.size, 0, none⟩ (.slice a7 z7 c7) = W4 := ⟨_, rfl⟩
    rw [hW4] at y3 y4 ⊢
    obtain ⟨tv, tg4, j1, j2, j3, j4, j5⟩ := y3
    obtain ⟨a4, c4, hv, hl1, hl2, hl3⟩ := j2.shape
    rw [vals_len] at hv hl1
    subst hv
    have q4 := (one_cell j1).1
    have HS4 : Hid (Sl W4 5 (.slice a4 (T ++ [(k : Int)]).length c4) tg4 (vals (T ++ [(k : Int)]))) := j2
    have HR4 : Hid (Row W4 a' part) := (HT.out.2.2.2.1.old HT.out.2.2.2.2).same fun x hx hz => y4.blk _ (by have := HT.out.2.2.2.1.lt x hx hz; omega) (by have := HT.out.2.2.2.1.lt x hx hz; have := HT.out.2.2.2.2.size; omega) (by have := HT.out.2.2.2.1.lt x hx hz; omega)
    have HE4 : Hid (∀ w7 v7 g7, Sl w7 5 v7 g7 (vals (T ++ [(k : Int)] ++ part)) → (g7 = tg4 ∨ ∃ k, g7 = some k ∧ W4.heap.size ≤ k) → W4.grownBy w7 tg4 → w7.cell? ⟨w.heap.size, 0, none⟩ = some (.slice a4 (T ++ [(k : Int)]).length c4) ∧ w7.frozen? ⟨w.heap.size, 0, none⟩ = false ∧ (w7.setCell ⟨w.heap.size, 0, none⟩ v7).heap[wa.heap.size + 1]? = some (.loop (mk .busy none)) ∧
        PuO w.heap.size (wa.heap.size + 1) wa.heap.size (mk .ready none) (T ++ (k : Int) :: part) ((w7.setCell ⟨w.heap.size, 0, none⟩ v7).putObj (wa.heap.size + 1) (.loop (mk .ready none))) ∧ Below w.heap.size W ((w7.setCell ⟨w.heap.size, 0, none⟩ v7).putObj (wa.heap.size + 1) (.loop (mk .ready none))) ∧
        ((w7.setCell ⟨w.heap.size, 0, none⟩ v7).putObj (wa.heap.size + 1) (.loop (mk .ready none))).heap[w.heap.size + 1]? = W.heap[w.heap.size + 1]? ∧ ((w7.setCell ⟨w.heap.size, 0, none⟩ v7).putObj (wa.heap.size + 1) (.loop (mk .ready none))).heap[w.heap.size + 2]? = W.heap[w.heap.size + 2]?) := by
      intro w7 v7 g7 h1 h2 h3
      have hsz := HSZ.out
      obtain ⟨b1, b2, b3, b4⟩ := pu_step (by omega) (by omega) j1 j2 j3 j4 j5 h1 h2 h3
      have hlt : wa.heap.size + 1 < W.heap.size := lt_of_block HL4.out
      have hk := (y4.trans b4).trans (Kp3.putObj w.heap.size _ (wa.heap.size + 1) (.loop (mk .ready none)) (by omega))
      have b5 := b3.put (by omega) (by omega) (mk .ready none)
      rw [List.append_assoc, List.singleton_append] at b5
      refine ⟨b1, b2, ?_, b5, hk.below (by omega), hk.blk _ (by omega) (by omega) (by omega), hk.blk _ (by omega) (by omega) (by omega)⟩
      obtain ⟨_, _, _, _, _, h, _⟩ := b3
      exact h
    obtain ⟨TL4, hTL4⟩ : ∃ TL4, (T ++ [(k : Int)]).length = TL4 := ⟨_, rfl⟩
    have HTL4 : Hid ((T ++ [(k : Int)]).length = TL4) := hTL4
    rw [hTL4] at q4 hl1
    clear j1 j2 j3 j4 j5 hl2 hl3 hTL4 y1 y2 y4 HE HS3 HR3
    refine wpIn_region_round letsOut_block ?hd ?_
    case hd => simp
    go_wp2_with (at_builtin; refine wpList_more rfl _ _ rfl (.slice a4 TL4 c4) tg4 (T ++ [(k : Int)]) rfl (by have := HS4.out; rw [HTL4.out] at this; exact this) a' k c' part rfl HT.out.2.2.1 HT.out.2.1 HR4.out (by have := HT.out; have := HTL.out; rw [List.length_append, List.length_singleton]; omega) ?_; intro v8 w8 g8 hs8 hg8 hgr8; obtain ⟨a8, c8, hv8, -⟩ := hs8.shape; generalize (vals (T ++ [(k : Int)] ++ part)).length = z8 at hv8; subst hv8; obtain ⟨y1, y2, y3, y4, y5, y6, y7⟩ := HE4.out w8 _ g8 hs8 hg8 hgr8; rw [HTL4.out] at y1; clear hs8 hg8 hgr8)
    exact ⟨y3, rfl, y4, y5, y6, y7⟩
  case fin =>
    rintro e W' ⟨⟨v, rfl⟩, hj, hb'⟩
    have hj' := hj
    obtain ⟨tv, tg, j1, j2, j3, j4, j5⟩ := hj
    refine ⟨⟨v, rfl⟩, .inl ⟨j4, ?_⟩⟩
    have hj9 := hj'.put (by omega) (by omega) (mk .exhausted none)
    have hb9 : Below w.heap.size w (W'.putObj (wa.heap.size + 1) (.loop (mk .exhausted none))) := hb'.trans ((Kp3.putObj w.heap.size W' (wa.heap.size + 1) (.loop (mk .exhausted none)) (by omega)).below hb'.size)
    obtain ⟨W9, hW9⟩ : ∃ W9, W'.putObj (wa.heap.size + 1) (.loop (mk .exhausted none)) = W9 := ⟨_, rfl⟩
    rw [hW9] at hj9 hb9 ⊢
    clear hj' j1 j2 j3 j4 j5 hb'
    obtain ⟨W3, hW3⟩ : ∃ W3, W9.alloc (.cells #[.int .u8 0] 5) = W3 := ⟨_, rfl⟩
    have hj3 := hj9.alloc (.cells #[.int .u8 0] 5)
    rw [hW3] at hj3
    have hrow3 : Row W3 (some ⟨W9.heap.size, 0, none⟩) [0] := by
      refine .inr ⟨_, 0, rfl, fun i hi => ?_⟩
      simp at hi; subst hi
      have e := World.alloc_heap_new W9 (.cells #[.int .u8 0] 5)
      rw [hW3] at e
      simp [World.cell?, e]
    obtain ⟨tv, tg, j1, j2, j3, j4, j5⟩ := hj3
    obtain ⟨at', ct, hv, hl1, hl2, hl3⟩ := j2.shape
    rw [vals_len] at hv hl1
    subst hv
    have q1 : W9.cell? ⟨w.heap.size, 0, none⟩ = some (.slice at' (bpk n bs).length ct) := by
      obtain ⟨tv', tg', i1, _⟩ := hj9
      have : W3.heap[w.heap.size]? = W9.heap[w.heap.size]? := by rw [← hW3]; exact Below.heap_alloc _ _ _ (lt_of_block i1)
      exact (one_cell (this.symm.trans j1)).1
    have HS3 : Hid (Sl W3 5 (.slice at' (bpk n bs).length ct) tg (vals (bpk n bs))) := j2
    have HR3 : Hid (Row W3 (some ⟨W9.heap.size, 0, none⟩) [0]) := hrow3
    have HE : Hid (∀ w7 v7 g7, Sl w7 5 v7 g7 (vals (bpk n bs ++ [0])) → (g7 = tg ∨ ∃ k, g7 = some k ∧ W3.heap.size ≤ k) → W3.grownBy w7 tg → w7.heap[wa.heap.size]? = some (.deferred (some [])) ∧ BkPost w (bpk n bs ++ [0]) (.returned (.tuple #[v7, .int .i64 0])) (w7.putObj wa.heap.size (.deferred none))) := by
      intro w7 v7 g7 h1 h2 h3
      have hD7 : w7.heap[wa.heap.size]? = some (.deferred (some [])) := by
        refine (h3.block _ (lt_of_block j5) ?_).trans j5
        intro e
        obtain ⟨c, hcc⟩ := j2.tagB _ e.symm
        rw [j5] at hcc; cases hcc
      have hb3 : Below w.heap.size w W3 := by rw [← hW3]; exact hb9.alloc hb9.size _
      have hg7 : ∀ k, g7 = some k → w.heap.size ≤ k := by
        intro k hk
        rcases h2 with e | ⟨j, e, hj⟩
        · have := j3 k (by rw [← e, hk]); omega
        · rw [e] at hk; cases hk; have := hb3.size; omega
      have hb7 : Below w.heap.size w w7 := hb3.grown h3 hb3.size (fun k e => by have := j3 k e; omega)
      refine ⟨hD7, v7, g7, rfl, h1.same fun k hk => World.putObj_heap_other ?_, hg7, hb7.trans ((Kp3.putObj w.heap.size w7 wa.heap.size (.deferred none) (by omega)).below hb7.size)⟩
      rintro rfl
      obtain ⟨c, hcc⟩ := h1.tagB _ hk
      rw [hD7] at hcc; cases hcc
    have HLn : Hid ((bpk n bs).length + 1 ≤ 140737488351232) := by show _ ≤ _; have := bpk_len hn bs; have := HA.out; omega
    obtain ⟨TL, hTL⟩ : ∃ TL, (bpk n bs).length = TL := ⟨_, rfl⟩
    have HTL : Hid ((bpk n bs).length = TL) := hTL
    rw [hTL] at q1 hl1
    clear HYI hyi hj9 hb9 hW9 hrow3 j1 j2 j3 j4 j5 hl2 hl3 hsz hBa hA0 hA1 hA2 hwa hB1 hL1 hD1 hW1 hTL
    go_wp2_with (at_builtin; refine wpList_more rfl _ _ rfl (.slice at' TL ct) tg (bpk n bs) rfl (by have := HS3.out; rw [HTL.out] at this; exact this) (some ⟨W9.heap.size, 0, none⟩) 1 1 [0] rfl (by intro h; cases h) rfl HR3.out HLn.out ?_; intro v8 w8 g8 hs8 hg8 hgr8; obtain ⟨a8, c8, hv8, -⟩ := hs8.shape; generalize (vals (bpk n bs ++ [0])).length = z8 at hv8; subst hv8; obtain ⟨y1, y2⟩ := HE.out w8 _ g8 hs8 hg8 hgr8; clear hs8 hg8 hgr8)
    refine ⟨by simp, .inl ⟨_, _, rfl, run_takeDeferred y1, ?_⟩⟩
    exact ⟨_, by simp [results, go_sem], y2⟩
end Go.Proofs.Ytkfokfjmdkondaa
