/- A front's lines of a file that has none, all of them. -/
import Derived.Test.YtgffcdldljgiiaaGreatFnD
namespace Go.Proofs.YtgffcdldljgiiaaGreat
open Go.RowKit
attribute [local go_sem] Oper.semAt_some
set_option maxRecDepth 20000 in
set_option maxHeartbeats 3200000 in
theorem all_any {w : World} {f n c : Nat} {a : Option Addr} {E E2 : Int} (hfl : f < w.heap.size)
    (HCP : ∀ W1, Below w.heap.size w W1 → Calls Tryz.prog 5 #[.pointer (some ⟨f, 0, none⟩), .slice a n c] W1 fun e W2 => e = .returned (.tuple #[.slice none 0 0, .int .i64 E]) ∧ W1.grownBy W2 (some f) ∧ (E = 0 → FrB W2 f .nilIface false))
    (hE : (E = 0 ∧ E2 = 2) ∨ (E = 3 ∧ E2 = 3)) :
    Calls Tryz.prog 14 #[.pointer (some ⟨f, 0, none⟩), .slice a n c] w fun e w' => e = .returned (.tuple #[.slice none 0 0, .int .i64 E2]) ∧ w.grownBy w' (some f) := by
  have HA : Hid (f < w.heap.size ∧ (∀ W1, Below w.heap.size w W1 → Calls Tryz.prog 5 #[.pointer (some ⟨f, 0, none⟩), .slice a n c] W1 fun e W2 => e = .returned (.tuple #[.slice none 0 0, .int .i64 E]) ∧ W1.grownBy W2 (some f) ∧ (E = 0 → FrB W2 f .nilIface false)) ∧ ((E = 0 ∧ E2 = 2) ∨ (E = 3 ∧ E2 = 3))) := ⟨hfl, HCP, hE⟩
  have hE2 : ¬ E2 = 0 := by omega
  clear hfl HCP hE
  refine calls_of_wp_marks Tryz.func14 rfl ?_
  simp only [Tryz.ntmps14, List.size_toArray, List.length_cons, List.length_nil, Nat.reduceAdd, Nat.reduceSub, Array.replicate_succ, Array.replicate_zero, List.push_toArray, List.append_toArray, List.nil_append, List.cons_append]
  go_wp2_with fail
  go_step3
  go_wp2_with fail
  go_step3
  go_wp2_with fail
  refine (whole_any f a n c _).mono ?_
  rintro e w' ⟨rfl, rfl⟩
  go_wp2_with fail
  obtain ⟨wa, hwa⟩ : ∃ wa, (((w.alloc (.cells #[.slice none 0 0] 25)).alloc (.cells #[.int .i64 0] 26)).alloc (.cells #[.pointer (some ⟨f, 0, none⟩)] 24)).alloc (.cells #[.slice a n c] 22) = wa := ⟨_, rfl⟩
  have hsz : wa.heap.size = w.heap.size + 4 := by rw [← hwa]; simp
  have hBa : Below w.heap.size w wa := by rw [← hwa]; exact ((((Below.refl _ w).alloc (Nat.le_refl _) _).alloc (by simp) _).alloc (by simp; omega) _).alloc (by simp; omega) _
  have hA0 : wa.heap[w.heap.size]? = some (.cells #[.slice none 0 0] 25 (0, 0)) := by
    rw [← hwa, Below.heap_alloc _ _ _ (by simp; omega), Below.heap_alloc _ _ _ (by simp; omega), Below.heap_alloc _ _ _ (by simp)]; exact World.alloc_heap_new w _
  have hA1 : wa.heap[w.heap.size + 1]? = some (.cells #[.int .i64 0] 26 (0, 0)) := by
    rw [← hwa, Below.heap_alloc _ _ _ (by simp), Below.heap_alloc _ _ _ (by simp)]; have := World.alloc_heap_new (w.alloc (.cells #[.slice none 0 0] 25)) (.cells #[.int .i64 0] 26); rwa [World.size_alloc] at this
  have hA2 : wa.heap[w.heap.size + 2]? = some (.cells #[.pointer (some ⟨f, 0, none⟩)] 24 (0, 0)) := by
    rw [← hwa, Below.heap_alloc _ _ _ (by simp)]; have := World.alloc_heap_new ((w.alloc (.cells #[.slice none 0 0] 25)).alloc (.cells #[.int .i64 0] 26)) (.cells #[.pointer (some ⟨f, 0, none⟩)] 24); rwa [World.size_alloc, World.size_alloc] at this
  have hA3 : wa.heap[w.heap.size + 3]? = some (.cells #[.slice a n c] 22 (0, 0)) := by
    rw [← hwa]; have := World.alloc_heap_new (((w.alloc (.cells #[.slice none 0 0] 25)).alloc (.cells #[.int .i64 0] 26)).alloc (.cells #[.pointer (some ⟨f, 0, none⟩)] 24)) (.cells #[.slice a n c] 22); rwa [World.size_alloc, World.size_alloc, World.size_alloc] at this
  rw [hwa]
  refine wp_rangeFunc_any (gf := 27) rfl (callFnS Tryz.func27 (by kernel_rfl) (by kernel_rfl)) ?_
  intro mk W1 hW1 hyi
  have hB1 : Below wa.heap.size wa W1 := by rw [← hW1]; exact ((Below.refl _ wa).alloc (Nat.le_refl _) _).alloc (by simp) _
  have hL1 : W1.heap[wa.heap.size + 1]? = some (.loop (mk .ready none)) := by
    rw [← hW1]; have := World.alloc_heap_new (wa.alloc (.deferred (some []))) (.loop (mk .ready none)); rwa [World.size_alloc] at this
  have hD1 : W1.heap[wa.heap.size]? = some (.deferred (some [])) := by
    rw [← hW1, Below.heap_alloc _ _ _ (by simp)]; exact World.alloc_heap_new wa _
  have HYI : Hid _ := hyi
  have hf := HA.out.1
  have hBw : Below w.heap.size w W1 := hBa.trans (hB1.mono hBa.size)
  have hs1 : w.heap.size + 5 < W1.heap.size := by have := lt_of_block hL1; omega
  have p2 := (one_cell ((hB1.block _ (by omega)).trans hA2)).1
  have p3 := (one_cell ((hB1.block _ (by omega)).trans hA3)).1
  have p0 := (hB1.block _ (by omega)).trans hA0
  have p1 := (hB1.block _ (by omega)).trans hA1
  refine Calls.mono (whole1_any (l := wa.heap.size + 1) (f := f) (R := fun W' => W'.heap[wa.heap.size + 1]? = some (.loop (mk .done (some (.exit 0)))) ∧ W'.heap[wa.heap.size]? = some (.deferred (some [])) ∧ W'.heap[w.heap.size]? = some (.cells #[.slice none 0 0] 25 (0, 0)) ∧ W'.heap[w.heap.size + 1]? = some (.cells #[.int .i64 E2] 26 (0, 0)) ∧ w.grownBy W' (some f)) p2 p3 (by omega) (by omega) (HA.out.2.1 W1 hBw) HA.out.2.2 ?yield) ?fin
  case yield =>
    intro W2 hg
    have j0 := (hg.block _ (by omega) (fun e => by cases e; omega)).trans p0
    have j1 := (hg.block _ (by omega) (fun e => by cases e; omega)).trans p1
    have jL := (hg.block _ (by omega) (fun e => by cases e; omega)).trans hL1
    have jD := (hg.block _ (by omega) (fun e => by cases e; omega)).trans hD1
    have hgw : w.grownBy W2 (some f) := ⟨hg.os.trans hBw.os, hg.tape.trans hBw.tape, hg.output.trans hBw.output, Nat.le_trans hBw.size hg.size, fun k hk hne => (hg.block k (by omega) hne).trans (hBw.block k hk)⟩
    refine HYI.out _ W2 _ rfl jL ?_
    simp only [List.zip_toArray, List.zip_cons_cons, List.zip_nil_right, List.foldl_toArray, List.foldl_cons, List.foldl_nil, List.setIfInBounds_toArray, List.set_cons_succ, List.set_cons_zero]
    have HJ : Hid (W2.heap[w.heap.size]? = some (.cells #[.slice none 0 0] 25 (0, 0)) ∧ W2.heap[w.heap.size + 1]? = some (.cells #[.int .i64 0] 26 (0, 0)) ∧ W2.heap[wa.heap.size + 1]? = some (.loop (mk .ready none)) ∧ W2.heap[wa.heap.size]? = some (.deferred (some [])) ∧ w.grownBy W2 (some f)) := ⟨j0, j1, jL, jD, hgw⟩
    have HZ : Hid (wa.heap.size = w.heap.size + 4 ∧ f < w.heap.size) := ⟨hsz, hf⟩
    clear hsz hBa hA0 hA1 hA2 hA3 hwa hB1 hL1 hD1 hW1 hf hBw hs1 p0 p1 p2 p3 j0 j1 jL jD hgw hg HYI hyi HA
    gi_wp2
    obtain ⟨W3, hW3⟩ : ∃ W3, W2.alloc (.cells #[.int .i64 0, .slice none 0 0, .slice none 0 0] 51) = W3 := ⟨_, rfl⟩
    rw [hW3]
    have hb3 : Below W2.heap.size W2 W3 := by rw [← hW3]; exact (Below.refl _ _).alloc (Nat.le_refl _) _
    obtain ⟨j0, j1, jL, jD, hgw⟩ := HJ.out
    obtain ⟨hsz, hf⟩ := HZ.out
    have q0 := (hb3.block _ (lt_of_block j0)).trans j0
    have q1 := (hb3.block _ (lt_of_block j1)).trans j1
    have qL := (hb3.block _ (lt_of_block jL)).trans jL
    have qD := (hb3.block _ (lt_of_block jD)).trans jD
    have hg3 : w.grownBy W3 (some f) := grownBy_trans hgw (grownBy_of_below hb3 _)
    refine ⟨qL, ?_⟩
    obtain ⟨W4, hW4⟩ : ∃ W4, W3.putObj (wa.heap.size + 1) (.loop (mk .busy none)) = W4 := ⟨_, rfl⟩
    rw [hW4]
    have ho4 : ∀ k, k ≠ wa.heap.size + 1 → W4.heap[k]? = W3.heap[k]? := fun k hk => by rw [← hW4]; exact World.putObj_heap_other hk
    have r0 := (ho4 _ (by omega)).trans q0
    have r1 := (ho4 _ (by omega)).trans q1
    have rL : W4.heap[wa.heap.size + 1]? = some (.loop (mk .busy none)) := by rw [← hW4]; exact World.putObj_heap_same (lt_of_block qL)
    have rD := (ho4 _ (by omega)).trans qD
    obtain ⟨k0, f0⟩ := one_cell r0
    obtain ⟨k1, f1⟩ := one_cell r1
    have hs4 : W4.heap.size = W3.heap.size := by rw [← hW4]; simp
    have ho : W4.os = W3.os ∧ W4.tape = W3.tape ∧ W4.output = W3.output := by rw [← hW4]; exact ⟨rfl, rfl, rfl⟩
    have HP : Hid (rfPost mk (wa.heap.size + 1) (fun e W' => e = .returned (.bool false) ∧ W'.heap[wa.heap.size + 1]? = some (.loop (mk .done (some (.exit 0)))) ∧ W'.heap[wa.heap.size]? = some (.deferred (some [])) ∧ W'.heap[w.heap.size]? = some (.cells #[.slice none 0 0] 25 (0, 0)) ∧ W'.heap[w.heap.size + 1]? = some (.cells #[.int .i64 E2] 26 (0, 0)) ∧ w.grownBy W' (some f)) (.exit 0) { tmps := #[], defers := [] } ((W4.setCell ⟨w.heap.size, 0, none⟩ (.slice none 0 0)).setCell ⟨w.heap.size + 1, 0, none⟩ (.int .i64 E2))) := by
      have e1 : ∀ k, k ≠ w.heap.size → k ≠ w.heap.size + 1 → ((W4.setCell ⟨w.heap.size, 0, none⟩ (.slice none 0 0)).setCell ⟨w.heap.size + 1, 0, none⟩ (.int .i64 E2)).heap[k]? = W4.heap[k]? := fun k h1 h2 => (Below.heap_setCell _ _ _ _ h2).trans (Below.heap_setCell _ _ _ _ h1)
      have e2 : (W4.setCell ⟨w.heap.size, 0, none⟩ (.slice none 0 0)).heap[w.heap.size]? = some (.cells #[.slice none 0 0] 25 (0, 0)) := by rw [heap_setCell_same W4 w.heap.size 0 _ _ _ r0]; rfl
      have e3 : ((W4.setCell ⟨w.heap.size, 0, none⟩ (.slice none 0 0)).setCell ⟨w.heap.size + 1, 0, none⟩ (.int .i64 E2)).heap[w.heap.size]? = some (.cells #[.slice none 0 0] 25 (0, 0)) := (Below.heap_setCell _ _ _ _ (by show w.heap.size ≠ w.heap.size + 1; omega)).trans e2
      have e4 : ((W4.setCell ⟨w.heap.size, 0, none⟩ (.slice none 0 0)).setCell ⟨w.heap.size + 1, 0, none⟩ (.int .i64 E2)).heap[w.heap.size + 1]? = some (.cells #[.int .i64 E2] 26 (0, 0)) := by
        rw [heap_setCell_same _ (w.heap.size + 1) 0 _ _ _ ((Below.heap_setCell _ _ _ _ (by show w.heap.size + 1 ≠ w.heap.size; omega)).trans r1)]; rfl
      have eL := (e1 (wa.heap.size + 1) (by omega) (by omega)).trans rL
      refine ⟨eL, rfl, World.putObj_heap_same (lt_of_block eL), ?_, ?_, ?_, ?_⟩
      · rw [World.putObj_heap_other (by omega), e1 _ (by omega) (by omega)]; exact rD
      · rw [World.putObj_heap_other (by omega)]; exact e3
      · rw [World.putObj_heap_other (by omega)]; exact e4
      · refine ⟨ho.1.trans hg3.os, ho.2.1.trans hg3.tape, ho.2.2.trans hg3.output, ?_, fun k hk hne => ?_⟩
        · have := hg3.size; rw [World.putObj_size]; simp [World.setCell]; omega
        · rw [World.putObj_heap_other (by omega), e1 k (by omega) (by omega), ho4 k (by omega)]; exact hg3.block k hk hne
    clear hW3 hW4 hb3 j0 j1 jL jD hgw hsz hf q0 q1 qL qD hg3 ho4 r0 r1 rL rD hs4 ho HJ HZ
    refine wpIn_block ?_
    gi_wp2
    exact HP.out
  case fin =>
    rintro e W' ⟨⟨v, rfl⟩, h1, h2, h3, h4, h5⟩
    refine ⟨⟨v, rfl⟩, .inr ⟨.exit 0, h1, ?_⟩⟩
    obtain ⟨W9, hW9⟩ : ∃ W9, W'.putObj (wa.heap.size + 1) (.loop (mk .exhausted (some (.exit 0)))) = W9 := ⟨_, rfl⟩
    rw [hW9]
    have hoth : ∀ k, k ≠ wa.heap.size + 1 → W9.heap[k]? = W'.heap[k]? := fun k hk => by rw [← hW9]; exact World.putObj_heap_other hk
    obtain ⟨k0, f0⟩ := one_cell ((hoth _ (by omega)).trans h3)
    obtain ⟨k1, f1⟩ := one_cell ((hoth _ (by omega)).trans h4)
    have hD9 : W9.heap[wa.heap.size]? = some (.deferred (some [])) := (hoth _ (by omega)).trans h2
    clear hA0 hA1 hA2 hA3 hwa hB1 hL1 hD1 hW1 hBw hs1 p0 p1 p2 p3 HYI hyi HA
    go_wp2
    go_region
    obtain ⟨W10, hW10⟩ : ∃ W10, ((W9.setCell ⟨w.heap.size, 0, none⟩ (.slice none 0 0)).setCell ⟨w.heap.size + 1, 0, none⟩ (.int .i64 E2)).drew = W10 := ⟨_, rfl⟩
    rw [hW10]
    have hw10 : ∀ k : Nat, W10.heap[k]? = ((W9.setCell ⟨w.heap.size, 0, none⟩ (.slice none 0 0)).setCell ⟨w.heap.size + 1, 0, none⟩ (.int .i64 E2)).heap[k]? := fun k => by rw [← hW10]; rfl
    have e1 : ∀ k : Nat, k ≠ w.heap.size → k ≠ w.heap.size + 1 → W10.heap[k]? = W9.heap[k]? := fun k h1 h2 => (hw10 k).trans ((Below.heap_setCell _ _ _ _ h2).trans (Below.heap_setCell _ _ _ _ h1))
    have g3 := (hoth w.heap.size (by omega)).trans h3
    have g4 := (hoth (w.heap.size + 1) (by omega)).trans h4
    have e3 : W10.heap[w.heap.size]? = some (.cells #[.slice none 0 0] 25 (0, 0)) := by
      rw [hw10, Below.heap_setCell _ _ _ _ (by show w.heap.size ≠ w.heap.size + 1; omega), heap_setCell_same W9 w.heap.size 0 _ _ _ g3]; rfl
    have e4 : W10.heap[w.heap.size + 1]? = some (.cells #[.int .i64 E2] 26 (0, 0)) := by
      rw [hw10, heap_setCell_same _ (w.heap.size + 1) 0 _ _ _ ((Below.heap_setCell _ _ _ _ (by show w.heap.size + 1 ≠ w.heap.size; omega)).trans g4)]; rfl
    have hD10 : W10.heap[wa.heap.size]? = some (.deferred (some [])) := (e1 _ (by omega) (by omega)).trans hD9
    have m0 := (one_cell ((World.putObj_heap_other (show w.heap.size ≠ wa.heap.size by omega)).trans e3 : (W10.putObj wa.heap.size (.deferred none)).heap[w.heap.size]? = _)).1
    have m1 := (one_cell ((World.putObj_heap_other (show w.heap.size + 1 ≠ wa.heap.size by omega)).trans e4 : (W10.putObj wa.heap.size (.deferred none)).heap[w.heap.size + 1]? = _)).1
    have HP : Hid (w.grownBy (W10.putObj wa.heap.size (.deferred none)) (some f)) := by
      refine ⟨?_, ?_, ?_, ?_, fun k hk hne => ?_⟩
      · show W10.os = _; rw [← hW10, ← hW9]; exact h5.os
      · show W10.tape = _; rw [← hW10, ← hW9]; exact h5.tape
      · show W10.output = _; rw [← hW10, ← hW9]; exact h5.output
      · have := h5.size; rw [World.putObj_size, ← hW10, ← hW9]; simp [World.setCell, World.drew]; omega
      · rw [World.putObj_heap_other (by omega), e1 k (by omega) (by omega), hoth k (by omega)]; exact h5.block k hk hne
    clear hW10 hw10 e1 g3 g4 e3 e4 h1 h2 h3 h4 h5 hoth hW9 hsz hBa hf hD9 k0 k1 f0 f1
    go_wp2
    try rw [Exit.noGoto_ret]
    refine ⟨by simp, .inl ⟨_, _, rfl, run_takeDeferred hD10, ?_⟩⟩
    refine ⟨_, (by rw [results_cell2N rfl]; go_simp; rfl), ?_⟩
    exact ⟨rfl, HP.out⟩
end Go.Proofs.YtgffcdldljgiiaaGreat
