/- Blocks: a reader is given more bytes. -/
import Derived.Test.YtgffcdldljgiiaaGreatBk3
namespace Go.Proofs.YtgffcdldljgiiaaGreat
open Go.RowKit
attribute [local go_sem] Oper.semAt_some
theorem letsOut_block {id : Nat} {mk : LoopState → Option Code → Loop} {l : Nat} {R : Ending → World → Prop} : ¬ LetsOut (Exit.inBlock id (rfPost mk l R)) := by
  rintro ⟨a, w, h⟩
  exact h
theorem callFnB {f : FuncId} {fn : Func} (hf : Tryz.prog.funcs[f]? = some fn) (hn : (fn.name == "runtime.NumGoroutine") = false) (hb : fn.body.isNone = false) (args : Array Value) (w : World) : (callFunc f args).run Tryz.prog w = .ok (.enter f args) w := by
  have h1 : fn.name ≠ "runtime.NumGoroutine" := by simpa using hn
  have h2 : fn.body ≠ none := by intro e; rw [e] at hb; cases hb
  simp [callFunc, hf, h1, h2]
/-- What is told so far, in a box of its own. -/
def PuJ (w : World) (tb l D : Nat) (mk : LoopState → Option Code → Loop) (T : List Int) (W : World) : Prop :=
  ∃ tv tg, W.heap[tb]? = some (.cells #[tv] 22 (0, 0)) ∧ Sl W 5 tv tg (vals T) ∧ (∀ k, tg = some k → w.heap.size + 3 ≤ k) ∧ RfAt W l mk ∧ W.heap[D]? = some (.deferred (some []))
theorem PuJ.stays {w : World} {tb l D : Nat} {mk : LoopState → Option Code → Loop} (htb : w.heap.size ≤ tb) (hl : w.heap.size ≤ l) (hD : w.heap.size ≤ D) {T : List Int} {W W' : World} (h : PuJ w tb l D mk T W) (hk : ∀ k, w.heap.size ≤ k → k < W.heap.size → W'.heap[k]? = W.heap[k]?) : PuJ w tb l D mk T W' := by
  obtain ⟨tv, tg, h1, h2, h3, h4, h5⟩ := h
  exact ⟨tv, tg, (hk tb htb (lt_of_block h1)).trans h1, h2.same fun k e => hk k (by have := h3 k e; omega) (h2.lt e), h3, (hk l hl (lt_of_block h4)).trans h4, (hk D hD (lt_of_block h5)).trans h5⟩
def BpPost (w : World) (p : Nat) (g : Option Nat) (s : Bs) (bs : List Int) (e : Ending) (w' : World) : Prop :=
  ∃ tv tg g', e = .returned tv ∧ Sl w' 5 tv tg (vals (bgo s bs).1) ∧ (∀ k, tg = some k → w.heap.size ≤ k) ∧ BR w' p (bgo s bs).2 g' ∧ (g' = g ∨ ∃ k, g' = some k ∧ w.heap.size ≤ k) ∧ Fr w w' p g
set_option maxHeartbeats 400000 in
theorem bpush_nil (v : Value) (w : World) : Calls Tryz.prog 217 #[.pointer none, v] w fun e w' => e = .returned (.slice none 0 0) ∧ w' = w := by
  refine calls_of_wp_marks Tryz.func217 rfl ?_
  simp only [Tryz.ntmps217, List.size_toArray, List.length_cons, List.length_nil, Nat.reduceAdd, Nat.reduceSub, Array.replicate_succ, Array.replicate_zero, List.push_toArray, List.append_toArray, List.nil_append, List.cons_append]
  go_wp2
  exact ⟨_, results_tmp rfl _ _ _, rfl, rfl⟩
set_option maxHeartbeats 1600000 in
set_option maxRecDepth 100000 in
theorem bpush_any (p : Nat) (g : Option Nat) (s : Bs) (bs : List Int) (av : Option Addr) (m c : Nat) (w : World) (h : BR w p s g) (hm : bs.length = m) (hmc : m ≤ c) (hcm : c ≤ 9223372036854775807) (hc0 : av = none → c = 0) (hrow : Row w av bs) (hby : Bytes bs) (hleft : s.left ≤ 255) (hseen : s.seen + bs.length ≤ 4611686018427387904) (hrl : s.rest.length + bs.length ≤ 140737488351232) :
    Calls Tryz.prog 217 #[.pointer (some ⟨p, 0, none⟩), .slice av m c] w fun e w' => BpPost w p g s bs e w' := by
  have HA : Hid (BR w p s g ∧ bs.length = m ∧ m ≤ c ∧ c ≤ 9223372036854775807 ∧ (av = none → c = 0) ∧ Row w av bs ∧ Bytes bs ∧ s.left ≤ 255 ∧ s.seen + bs.length ≤ 4611686018427387904 ∧ s.rest.length + bs.length ≤ 140737488351232) := ⟨h, hm, hmc, hcm, hc0, hrow, hby, hleft, hseen, hrl⟩
  clear h hm hmc hcm hc0 hrow hby hleft hseen hrl
  refine calls_of_wp_marks Tryz.func217 rfl ?_
  simp only [Tryz.ntmps217, List.size_toArray, List.length_cons, List.length_nil, Nat.reduceAdd, Nat.reduceSub, Array.replicate_succ, Array.replicate_zero, List.push_toArray, List.append_toArray, List.nil_append, List.cons_append]
  go_wp2_with (go_at_call 227; refine (parts_any _ _ _ _ _).mono ?_; rintro e w' ⟨rfl, rfl⟩)
  obtain ⟨wa, hwa⟩ : ∃ wa, ((w.alloc (.cells #[.slice none 0 0] 22)).alloc (.cells #[.pointer (some ⟨p, 0, none⟩)] 93)).alloc (.cells #[.slice av m c] 22) = wa := ⟨_, rfl⟩
  have hsz : wa.heap.size = w.heap.size + 3 := by rw [← hwa]; simp
  have hBa : Below w.heap.size w wa := by rw [← hwa]; exact (((Below.refl _ w).alloc (Nat.le_refl _) _).alloc (by simp) _).alloc (by simp; omega) _
  have hA0 : wa.heap[w.heap.size]? = some (.cells #[.slice none 0 0] 22 (0, 0)) := by
    rw [← hwa, Below.heap_alloc _ _ _ (by simp; omega), Below.heap_alloc _ _ _ (by simp)]; exact World.alloc_heap_new w _
  have hA1 : wa.heap[w.heap.size + 1]? = some (.cells #[.pointer (some ⟨p, 0, none⟩)] 93 (0, 0)) := by
    rw [← hwa, Below.heap_alloc _ _ _ (by simp)]; have := World.alloc_heap_new (w.alloc (.cells #[.slice none 0 0] 22)) (.cells #[.pointer (some ⟨p, 0, none⟩)] 93); rwa [World.size_alloc] at this
  have hA2 : wa.heap[w.heap.size + 2]? = some (.cells #[.slice av m c] 22 (0, 0)) := by
    rw [← hwa]; have := World.alloc_heap_new ((w.alloc (.cells #[.slice none 0 0] 22)).alloc (.cells #[.pointer (some ⟨p, 0, none⟩)] 93)) (.cells #[.slice av m c] 22); rwa [World.size_alloc, World.size_alloc] at this
  rw [hwa]
  refine wp_rangeFunc_any (gf := 234) rfl (callFnB Tryz.func234 (by kernel_rfl) (by kernel_rfl)) ?_
  intro mk W1 hW1 hyi
  have hB1 : Below wa.heap.size wa W1 := by rw [← hW1]; exact ((Below.refl _ wa).alloc (Nat.le_refl _) _).alloc (by simp) _
  have hL1 : RfAt W1 (wa.heap.size + 1) mk := by
    unfold RfAt; rw [← hW1]; have := World.alloc_heap_new (wa.alloc (.deferred (some []))) (.loop (mk .ready none)); rwa [World.size_alloc] at this
  have hD1 : W1.heap[wa.heap.size]? = some (.deferred (some [])) := by
    rw [← hW1, Below.heap_alloc _ _ _ (by simp)]; exact World.alloc_heap_new wa _
  have HYI : Hid _ := hyi
  refine Calls.mono (parts1_any w p g s bs av m c (w.heap.size + 2) (w.heap.size + 1) (wa.heap.size + 1) W1 (PuJ w w.heap.size (wa.heap.size + 1) wa.heap.size mk)
    (fun T W W' hj _ hk => hj.stays (Nat.le_refl _) (by omega) (by omega) hk) ?yield ((hB1.block _ (by omega)).trans hA2) ((hB1.block _ (by omega)).trans hA1) (by omega) (by omega) HA.out.1 (hBa.trans (hB1.mono hBa.size)) HA.out.2.1 HA.out.2.2.1 HA.out.2.2.2.1 HA.out.2.2.2.2.1 HA.out.2.2.2.2.2.1 HA.out.2.2.2.2.2.2.1 HA.out.2.2.2.2.2.2.2.1 HA.out.2.2.2.2.2.2.2.2.1 HA.out.2.2.2.2.2.2.2.2.2 ⟨.slice none 0 0, none, (hB1.block _ (by omega)).trans hA0, Sl.nil _ _, (by intro k hk; cases hk), hL1, hD1⟩) ?fin
  case yield =>
    rintro T W a' n c' part ⟨tv, tg, j1, j2, j3, j4, j5⟩ hpl hc' hrp hTn
    refine HYI.out _ W _ rfl j4 ?_
    clear HYI hyi
    have hTb : T.length + n ≤ 140737488351232 := by have := HA.out; omega
    have hlt : wa.heap.size + 1 < W.heap.size := lt_of_block j4
    have hne : ∀ k, tg = some k → k ≠ wa.heap.size + 1 ∧ k ≠ wa.heap.size ∧ w.heap.size + 3 ≤ k := by
      intro k hk
      obtain ⟨cc, hcc⟩ := j2.tagB k hk
      refine ⟨?_, ?_, j3 k hk⟩
      · rintro rfl
        unfold RfAt at j4
        rw [j4] at hcc; cases hcc
      · rintro rfl
        rw [j5] at hcc; cases hcc
    obtain ⟨W2, hW2⟩ : ∃ W2, W.putObj (wa.heap.size + 1) (.loop (mk .busy none)) = W2 := ⟨_, rfl⟩
    have hWk : ∀ k, k ≠ wa.heap.size + 1 → W2.heap[k]? = W.heap[k]? := fun k hk => by rw [← hW2]; exact World.putObj_heap_other hk
    have hWs : W2.heap.size = W.heap.size := by rw [← hW2]; simp
    have hWl : W2.heap[wa.heap.size + 1]? = some (.loop (mk .busy none)) := by rw [← hW2]; exact World.putObj_heap_same hlt
    have hWo : W2.os = W.os ∧ W2.tape = W.tape ∧ W2.output = W.output := by rw [← hW2]; exact ⟨rfl, rfl, rfl⟩
    obtain ⟨at', ct, hv, hl1, hl2, hl3⟩ := j2.shape
    rw [vals_len] at hv hl1
    subst hv
    have j1' : W2.heap[w.heap.size]? = some (.cells #[.slice at' T.length ct] 22 (0, 0)) := (hWk _ (by omega)).trans j1
    obtain ⟨k1, f1⟩ := one_cell j1'
    have HSl : Hid (Sl W2 5 (.slice at' T.length ct) tg (vals T)) := j2.same fun k hk => hWk k (hne k hk).1
    have HRp : Hid (Row W2 a' part) := hrp.same fun x hx hz => hWk _ (by
      intro e
      rcases hrp with h | ⟨b, off, h, hcc⟩
      · exact hz h
      · rw [h] at hx; simp at hx; subst hx
        have h0 := hcc 0 (List.length_pos_iff.2 hz)
        unfold RfAt at j4
        simp only at e
        subst e
        simp [World.cell?, j4] at h0)
    have HE : Hid (∀ w7 v7 g7, Sl w7 5 v7 g7 (vals (T ++ part)) → (g7 = tg ∨ ∃ k, g7 = some k ∧ W2.heap.size ≤ k) → W2.grownBy w7 tg → w7.cell? ⟨w.heap.size, 0, none⟩ = some (.slice at' T.length ct) ∧ w7.frozen? ⟨w.heap.size, 0, none⟩ = false ∧
        (w7.setCell ⟨w.heap.size, 0, none⟩ v7).heap[wa.heap.size + 1]? = some (.loop (mk .busy none)) ∧ PuJ w w.heap.size (wa.heap.size + 1) wa.heap.size mk (T ++ part) ((w7.setCell ⟨w.heap.size, 0, none⟩ v7).putObj (wa.heap.size + 1) (.loop (mk .ready none))) ∧ Below w.heap.size W ((w7.setCell ⟨w.heap.size, 0, none⟩ v7).putObj (wa.heap.size + 1) (.loop (mk .ready none))) ∧
        ((w7.setCell ⟨w.heap.size, 0, none⟩ v7).putObj (wa.heap.size + 1) (.loop (mk .ready none))).heap[w.heap.size + 2]? = W.heap[w.heap.size + 2]? ∧ ((w7.setCell ⟨w.heap.size, 0, none⟩ v7).putObj (wa.heap.size + 1) (.loop (mk .ready none))).heap[w.heap.size + 1]? = W.heap[w.heap.size + 1]?) := by
      intro w7 v7 g7 h1 h2 h3
      have hb7 : ∀ k, k < W.heap.size → some k ≠ tg → w7.heap[k]? = W2.heap[k]? := fun k hk h => h3.block k (by omega) h
      have hnt : ∀ k, k < w.heap.size + 3 → some k ≠ tg := fun k hk e => by have := (hne k e.symm).2.2; omega
      have b0 : w7.heap[w.heap.size]? = some (.cells #[.slice at' T.length ct] 22 (0, 0)) := (hb7 _ (by omega) (hnt _ (by omega))).trans j1'
      obtain ⟨k2, f2⟩ := one_cell b0
      have hl7 : w7.heap[wa.heap.size + 1]? = some (.loop (mk .busy none)) := (hb7 _ hlt (fun e => (hne _ e.symm).1 rfl)).trans hWl
      have hl8 : (w7.setCell ⟨w.heap.size, 0, none⟩ v7).heap[wa.heap.size + 1]? = some (.loop (mk .busy none)) := (Below.heap_setCell _ _ _ _ (by show wa.heap.size + 1 ≠ w.heap.size; omega)).trans hl7
      have hg3 : ∀ k, g7 = some k → w.heap.size + 3 ≤ k ∧ k ≠ wa.heap.size + 1 := by
        intro k hk
        rcases h2 with e | ⟨j, e, hj⟩
        · rw [e] at hk; exact ⟨(hne k hk).2.2, (hne k hk).1⟩
        · rw [e] at hk; cases hk; omega
      have hoth : ∀ k, k ≠ wa.heap.size + 1 → k ≠ w.heap.size → ((w7.setCell ⟨w.heap.size, 0, none⟩ v7).putObj (wa.heap.size + 1) (.loop (mk .ready none))).heap[k]? = w7.heap[k]? := fun k h1 h2 => by
        rw [World.putObj_heap_other h1]; exact Below.heap_setCell _ _ _ _ h2
      refine ⟨k2, f2, hl8, ⟨v7, g7, ?_, ?_, fun k hk => (hg3 k hk).1, ?_, ?_⟩, ?_, ?_, ?_⟩
      · rw [World.putObj_heap_other (by omega)]
        rw [heap_setCell_same w7 w.heap.size 0 _ _ _ b0]; rfl
      · exact h1.same fun k hk => hoth k (hg3 k hk).2 (by have := (hg3 k hk).1; omega)
      · exact World.putObj_heap_same (lt_of_block hl8)
      · rw [hoth _ (by omega) (by omega)]
        exact (hb7 _ (by omega) (fun e => (hne _ e.symm).2.1 rfl)).trans ((hWk _ (by omega)).trans j5)
      · refine ⟨h3.os.trans hWo.1, h3.tape.trans hWo.2.1, h3.output.trans hWo.2.2, ?_, fun k hk => ?_⟩
        · have := h3.size; rw [World.putObj_size]; simp [World.setCell]; omega
        · rw [hoth k (by omega) (by omega)]
          exact (hb7 k (by omega) (hnt k (by omega))).trans (hWk k (by omega))
      · rw [hoth _ (by omega) (by omega)]
        exact (hb7 _ (by omega) (hnt _ (by omega))).trans (hWk _ (by omega))
      · rw [hoth _ (by omega) (by omega)]
        exact (hb7 _ (by omega) (hnt _ (by omega))).trans (hWk _ (by omega))
    have HT : Hid (T.length + n ≤ 140737488351232 ∧ part.length = n ∧ (a' = none → c' = 0)) := ⟨hTb, hpl, hc'⟩
    have HL4 : Hid (RfAt W (wa.heap.size + 1) mk) := j4
    obtain ⟨TL, hTL⟩ : ∃ TL, T.length = TL := ⟨_, rfl⟩
    have HTL : Hid (T.length = TL) := hTL
    rw [hTL] at k1 hl1
    clear hne hWk hWs hWl hWo j1 j2 j3 j4 j5 j1' hrp hpl hc' hTn hTb hl2 hl3 hsz hBa hA0 hA1 hA2 hwa hB1 hL1 hD1 hW1 hTL hlt
    simp only [List.zip_toArray, List.zip_cons_cons, List.zip_nil_right, List.foldl_toArray, List.foldl_cons, List.foldl_nil, List.setIfInBounds_toArray, List.set_cons_succ, List.set_cons_zero]
    gi_wp2
    refine ⟨HL4.out, ?_⟩
    rw [hW2]
    refine wpIn_block ?_
    refine wpIn_region_round letsOut_block ?hd ?_
    case hd => simp
    go_wp2_with (at_builtin; refine wpList_more rfl _ _ rfl (.slice at' TL ct) tg T rfl (by have := HSl.out; rw [HTL.out] at this; exact this) a' n c' part rfl HT.out.2.2 HT.out.2.1 HRp.out (by have := HT.out; omega) ?_; intro v7 w7 g7 hs7 hg7 hgr7; obtain ⟨a7, c7, hv7, -⟩ := hs7.shape; generalize (vals (T ++ part)).length = z7 at hv7; subst hv7; obtain ⟨y1, y2, y3, y4, y5, y6, y7⟩ := HE.out w7 _ g7 hs7 hg7 hgr7; clear hs7 hg7 hgr7)
    exact ⟨y3, rfl, y4, y5, y6, y7⟩
  case fin =>
    rintro e W' ⟨⟨v, rfl⟩, hj, ⟨g', hr', hg'⟩, hf'⟩
    obtain ⟨tv, tg, j1, j2, j3, j4, j5⟩ := hj
    refine ⟨⟨v, rfl⟩, .inl ⟨j4, ?_⟩⟩
    obtain ⟨at', ct, hv, hl1, hl2, hl3⟩ := j2.shape
    rw [vals_len] at hv hl1
    subst hv
    obtain ⟨W9, hW9⟩ : ∃ W9, W'.putObj (wa.heap.size + 1) (.loop (mk .exhausted none)) = W9 := ⟨_, rfl⟩
    have hoth : ∀ k, k ≠ wa.heap.size + 1 → W9.heap[k]? = W'.heap[k]? := fun k hk => by rw [← hW9]; exact World.putObj_heap_other hk
    have k1 := (one_cell ((hoth _ (by omega)).trans j1)).1
    have hD9 : W9.heap[wa.heap.size]? = some (.deferred (some [])) := (hoth _ (by omega)).trans j5
    have HP : Hid (BpPost w p g s bs (.returned (.slice at' (bgo s bs).1.length ct)) (W9.putObj wa.heap.size (.deferred none))) := by
      have htag : ∀ (k : Nat) (c : Array Value) (e : TypeId), W'.heap[k]? = some (.cells c e (0, 0)) → k ≠ wa.heap.size + 1 ∧ k ≠ wa.heap.size := by
        intro k c e hk
        constructor
        · rintro rfl; unfold RfAt at j4; rw [j4] at hk; cases hk
        · rintro rfl; rw [j5] at hk; cases hk
      have hall : ∀ (k : Nat) (c : Array Value) (e : TypeId), W'.heap[k]? = some (.cells c e (0, 0)) → (W9.putObj wa.heap.size (.deferred none)).heap[k]? = W'.heap[k]? := fun k c e hk => by
        rw [World.putObj_heap_other (htag k c e hk).2]; exact hoth k (htag k c e hk).1
      refine ⟨_, tg, g', rfl, j2.same fun k hk => ?_, fun k hk => by have := j3 k hk; omega, ?_, hg', ?_⟩
      · obtain ⟨cc, hcc⟩ := j2.tagB k hk
        exact hall k _ _ hcc
      · obtain ⟨v, r1, r2⟩ := hr'
        refine ⟨v, r1.same (hall p _ _ r1), r2.same fun k hk => ?_⟩
        obtain ⟨cc, hcc⟩ := r2.tagB k hk
        exact hall k _ _ hcc
      · refine ⟨?_, ?_, ?_, ?_, fun k hk h1 h2 => ?_⟩
        · rw [← hW9]; exact hf'.os
        · rw [← hW9]; exact hf'.tape
        · rw [← hW9]; exact hf'.output
        · rw [← hW9]; simp; exact hf'.size
        · rw [World.putObj_heap_other (by omega), hoth k (by omega)]; exact hf'.block k hk h1 h2
    rw [hW9]
    generalize (bgo s bs).1.length = BL at k1 HP
    clear j1 j2 j3 j4 j5 hr' hg' hf' hl1 hl2 hl3 hoth hW9 HYI hyi hsz hBa hA0 hA1 hA2 hwa hB1 hL1 hD1 hW1 HA
    go_wp2
    refine ⟨by simp, .inl ⟨_, _, rfl, run_takeDeferred hD9, ?_⟩⟩
    refine ⟨_, results_tmp rfl _ _ _, ?_⟩
    simp only [Array.getD_eq_getD_getElem?, List.getElem?_toArray, List.getElem?_cons_succ, List.getElem?_cons_zero, Option.getD_some]
    exact HP.out
end Go.Proofs.YtgffcdldljgiiaaGreat
