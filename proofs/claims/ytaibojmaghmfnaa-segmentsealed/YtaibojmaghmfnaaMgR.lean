/- Which messages may be: the program. -/
import Derived.Test.YtaibojmaghmfnaaMgQ
import Derived.Deep.RegionWith
namespace Go.Proofs.Ytaibojmaghmfnaa
open Go.RowKit
theorem kd_cells {w : World} {b : Nat} {v0 v1 v2 v3 : Value} {t : TypeId} (h : w.heap[b]? = some (.cells #[v0, v1, v2, v3] t (0, 0))) : w.cell? ⟨b, 0, none⟩ = some v0 ∧ w.cell? ⟨b, 1, none⟩ = some v1 ∧ w.cell? ⟨b, 2, none⟩ = some v2 ∧ w.cell? ⟨b, 3, none⟩ = some v3 := by
  refine ⟨?_, ?_, ?_, ?_⟩ <;> simp [World.cell?, h]
/-- The blocks of a boxed kind and a boxed message. -/
def QK (w : World) (k c : Array Value) (w' : World) : Prop := Below w.heap.size w w' ∧ w'.heap[w.heap.size]? = some (.cells k 45 (0, 0)) ∧ w'.heap[w.heap.size + 1]? = some (.cells c 26 (0, 0))
theorem QK.box (w : World) (k c : Array Value) : QK w k c ((w.alloc (.cells k 45)).alloc (.cells c 26)) := by
  refine ⟨((Below.refl _ w).alloc (Nat.le_refl _) _).alloc (by simp) _, ?_, ?_⟩
  · rw [Below.heap_alloc _ _ _ (by simp)]; exact heap_alloc_newM w _
  · have := heap_alloc_newM (w.alloc (.cells k 45)) (.cells c 26)
    simpa using this
theorem QK.old {w : World} {k c : Array Value} {w1 w2 : World} (h : QK w k c w1) (hb : Below w1.heap.size w1 w2) : QK w k c w2 := ⟨h.1.trans (hb.mono h.1.size), (hb.block _ (lt_of_block h.2.1)).trans h.2.1, (hb.block _ (lt_of_block h.2.2)).trans h.2.2⟩
def my_ask (m : Ms) (_G : List (Int × Int)) : Bool := sameM m (on_ask m) && bn_ask m
set_option maxHeartbeats 6400000 in
theorem may_ask (m : Ms) (G : List (Int × Int)) (D : List Int) (w : World) (hm : MsM w m G D) : Calls Try.prog 18 #[kd_ask, m.V] w fun e w' => e = .returned (.bool (my_ask m G)) ∧ Below w.heap.size w w' := by
  have HQ : Hid (QK w #[.func (.func 54) #[] #[], .func (.func 55) #[] #[], .func (.func 58) #[] #[], .func (.func 59) #[] #[]] m.c12 _) := QK.box w #[.func (.func 54) #[] #[], .func (.func 55) #[] #[], .func (.func 58) #[] #[], .func (.func 59) #[] #[]] m.c12
  have hdn : m.dn ≤ 140737488355328 := by have := hm.d.2.2.2.1; omega
  have C1 : Hid (∀ u, QK w #[.func (.func 54) #[] #[], .func (.func 55) #[] #[], .func (.func 58) #[] #[], .func (.func 59) #[] #[]] m.c12 u → Calls Try.prog 54 #[m.V] u fun e w' => e = .returned (on_ask m).V ∧ QK w #[.func (.func 54) #[] #[], .func (.func 55) #[] #[], .func (.func 58) #[] #[], .func (.func 59) #[] #[]] m.c12 w') := fun u h => (only_ask m u).mono fun e w' q => ⟨q.1, h.old q.2⟩
  have C2 : Hid (∀ u, QK w #[.func (.func 54) #[] #[], .func (.func 55) #[] #[], .func (.func 58) #[] #[], .func (.func 59) #[] #[]] m.c12 u → Calls Try.prog 40 #[m.V, (on_ask m).V] u fun e w' => e = .returned (.bool (sameM m (on_ask m))) ∧ QK w #[.func (.func 54) #[] #[], .func (.func 55) #[] #[], .func (.func 58) #[] #[], .func (.func 59) #[] #[]] m.c12 w') := fun u h => (same_any_m m (on_ask m) u ⟨hm.rb, by have := hm.rb; unfold on_ask; simp only; omega⟩ ⟨hdn, by unfold on_ask; simp only; omega⟩).mono fun e w' q => ⟨q.1, h.old q.2⟩
  have C3 : Hid (∀ u, QK w #[.func (.func 54) #[] #[], .func (.func 55) #[] #[], .func (.func 58) #[] #[], .func (.func 59) #[] #[]] m.c12 u → Calls Try.prog 55 #[m.V] u fun e w' => e = .returned (.bool (bn_ask m)) ∧ QK w #[.func (.func 54) #[] #[], .func (.func 55) #[] #[], .func (.func 58) #[] #[], .func (.func 59) #[] #[]] m.c12 w') := fun u h => (bounds_ask m u hdn).mono fun e w' q => ⟨q.1, h.old q.2⟩
  unfold my_ask
  obtain ⟨S, hS⟩ : ∃ S, sameM m (on_ask m) = S := ⟨_, rfl⟩
  obtain ⟨N, hN⟩ : ∃ N, bn_ask m = N := ⟨_, rfl⟩
  rw [hS] at C2 ⊢
  rw [hN] at C3 ⊢
  clear hS hN hm hdn
  obtain ⟨k, bo, fi, su, si, ap, bd, ix, pa, co, ra, rn, rc, da, dn, dc⟩ := m
  unfold on_ask at *
  unfold Ms.V at *
  unfold Ms.c12 at *
  simp only at *
  unfold kd_ask fnv
  go_enter Try.func18, Try.ntmps18
  have q0 := HQ.out.2
  obtain ⟨a0, a1, a2, a3⟩ := kd_cells q0.1
  obtain ⟨d0, d1, d2, d3, d4, d5, d6, d7, d8, d9, d10, d11⟩ := twelve_cells q0.2
  clear q0
  have HQ0 : Hid (QK w #[.func (.func 54) #[] #[], .func (.func 55) #[] #[], .func (.func 58) #[] #[], .func (.func 59) #[] #[]] #[.int .i64 k, .int .u32 bo, .int .i64 fi, .int .u32 su, .int .i64 si, .int .i64 ap, .int .i64 bd, .int .i64 ix, .int .i64 pa, .int .i64 co, .slice ra rn rc, .slice da dn dc] ((w.alloc (.cells #[.func (.func 54) #[] #[], .func (.func 55) #[] #[], .func (.func 58) #[] #[], .func (.func 59) #[] #[]] 45)).alloc (.cells #[.int .i64 k, .int .u32 bo, .int .i64 fi, .int .u32 su, .int .i64 si, .int .i64 ap, .int .i64 bd, .int .i64 ix, .int .i64 pa, .int .i64 co, .slice ra rn rc, .slice da dn dc] 26)).drew) := HQ.out.old ⟨rfl, rfl, rfl, Nat.le_refl _, fun _ _ => rfl⟩
  go_upto_region 1 with fail
  cases S
  · refine wp_region_held_drew (S := fun u => u.cell? ⟨w.heap.size, 0, none⟩ = some (.func (.func 54) #[] #[]) ∧ u.cell? ⟨w.heap.size, 1, none⟩ = some (.func (.func 55) #[] #[]) ∧ u.cell? ⟨w.heap.size + 1, 0, none⟩ = some (.int .i64 k) ∧ u.cell? ⟨w.heap.size + 1, 1, none⟩ = some (.int .u32 bo) ∧ u.cell? ⟨w.heap.size + 1, 2, none⟩ = some (.int .i64 fi) ∧ u.cell? ⟨w.heap.size + 1, 3, none⟩ = some (.int .u32 su) ∧ u.cell? ⟨w.heap.size + 1, 4, none⟩ = some (.int .i64 si) ∧ u.cell? ⟨w.heap.size + 1, 5, none⟩ = some (.int .i64 ap) ∧ u.cell? ⟨w.heap.size + 1, 6, none⟩ = some (.int .i64 bd) ∧ u.cell? ⟨w.heap.size + 1, 7, none⟩ = some (.int .i64 ix) ∧ u.cell? ⟨w.heap.size + 1, 8, none⟩ = some (.int .i64 pa) ∧ u.cell? ⟨w.heap.size + 1, 9, none⟩ = some (.int .i64 co) ∧ u.cell? ⟨w.heap.size + 1, 10, none⟩ = some (.slice ra rn rc) ∧ u.cell? ⟨w.heap.size + 1, 11, none⟩ = some (.slice da dn dc)) (by kernel_rfl) ?_ (fun hHeld => ?_)
    · obtain ⟨z0, z1, z2, z3⟩ := kd_cells HQ0.out.2.1
      obtain ⟨y0, y1, y2, y3, y4, y5, y6, y7, y8, y9, y10, y11⟩ := twelve_cells HQ0.out.2.2
      with_reducible exact ⟨by with_reducible assumption, by with_reducible assumption, by with_reducible assumption, by with_reducible assumption, by with_reducible assumption, by with_reducible assumption, by with_reducible assumption, by with_reducible assumption, by with_reducible assumption, by with_reducible assumption, by with_reducible assumption, by with_reducible assumption, by with_reducible assumption, by with_reducible assumption⟩
    refine wpAnyH_take (i := 0) (v := .agg #[.int .i64 k, .int .u32 bo, .int .i64 fi, .int .u32 su, .int .i64 si, .int .i64 ap, .int .i64 bd, .int .i64 ix, .int .i64 pa, .int .i64 co, .slice ra rn rc, .slice da dn dc]) rfl (by kernel_rfl) (by kernel_rfl) (by kernel_rfl) (fun _ _ _ h => h) (Or.inl ⟨by rfl, ?_⟩) hHeld ?_
    · intro wq hSw
      try dsimp only at hSw
      go_simp
    try simp only [Act.put]
    try simp only [List.setIfInBounds_toArray]
    try simp only [List.set_cons_succ]
    try simp only [List.set_cons_zero]
    refine wpAnyH_take (i := 1) (v := .pointer (some ⟨w.heap.size, 0, none⟩)) rfl (by kernel_rfl) (by kernel_rfl) (by kernel_rfl) (fun _ _ _ h => h) (Or.inl ⟨by rfl, ?_⟩) hHeld ?_
    · intro wq hSw
      try dsimp only at hSw
      go_simp
    try simp only [Act.put]
    try simp only [List.setIfInBounds_toArray]
    try simp only [List.set_cons_succ]
    try simp only [List.set_cons_zero]
    refine wpAnyH_take (i := 2) (v := .func (.func 54) #[] #[]) rfl (by kernel_rfl) (by kernel_rfl) (by kernel_rfl) (fun _ _ _ h => h) (Or.inl ⟨by rfl, ?_⟩) hHeld ?_
    · intro wq hSw
      try dsimp only at hSw
      go_simp
    try simp only [Act.put]
    try simp only [List.setIfInBounds_toArray]
    try simp only [List.set_cons_succ]
    try simp only [List.set_cons_zero]
    refine wpAnyH_take (i := 3) (v := .agg #[.int .i64 k, .int .u32 bo, .int .i64 fi, .int .u32 su, .int .i64 si, .int .i64 ap, .int .i64 bd, .int .i64 ix, .int .i64 pa, .int .i64 co, .slice ra rn rc, .slice da dn dc]) rfl (by kernel_rfl) (by kernel_rfl) (by kernel_rfl) (fun _ _ _ h => h) (Or.inl ⟨by rfl, ?_⟩) hHeld ?_
    · intro wq hSw
      try dsimp only at hSw
      go_simp
    try simp only [Act.put]
    try simp only [List.setIfInBounds_toArray]
    try simp only [List.set_cons_succ]
    try simp only [List.set_cons_zero]
    refine wpAnyH_ready (rs := [4]) (by kernel_rfl) (by simp) (AllReadyH.cons (o := _) rfl (fun K hK => ?_) AllReadyH.nil)
    go_simp
    (go_at_call 54; (with_reducible refine Calls.mono (C1.out _ HQ0.out) ?_); rintro e x1 ⟨rfl, q1⟩; have HQ1 : Hid (QK w #[.func (.func 54) #[] #[], .func (.func 55) #[] #[], .func (.func 58) #[] #[], .func (.func 59) #[] #[]] #[.int .i64 k, .int .u32 bo, .int .i64 fi, .int .u32 su, .int .i64 si, .int .i64 ap, .int .i64 bd, .int .i64 ix, .int .i64 pa, .int .i64 co, .slice ra rn rc, .slice da dn dc] x1) := q1; obtain ⟨ek0, ek1, ek2, ek3⟩ := kd_cells q1.2.1; obtain ⟨em0, em1, em2, em3, em4, em5, em6, em7, em8, em9, em10, em11⟩ := twelve_cells q1.2.2; clear q1)
    go_wp2_with fail
    refine hK.out _ _ ?_ (fun hHeld => ?_)
    · with_reducible exact ⟨by with_reducible assumption, by with_reducible assumption, by with_reducible assumption, by with_reducible assumption, by with_reducible assumption, by with_reducible assumption, by with_reducible assumption, by with_reducible assumption, by with_reducible assumption, by with_reducible assumption, by with_reducible assumption, by with_reducible assumption, by with_reducible assumption, by with_reducible assumption⟩
    clear hK K
    try simp only [Act.put]
    try simp only [List.setIfInBounds_toArray]
    try simp only [List.set_cons_succ]
    try simp only [List.set_cons_zero]
    refine wpAnyH_ready (rs := [5]) (by kernel_rfl) (by simp) (AllReadyH.cons (o := _) rfl (fun K hK => ?_) AllReadyH.nil)
    go_simp
    (go_at_call 40; (with_reducible refine Calls.mono (C2.out _ HQ1.out) ?_); rintro e x2 ⟨rfl, q2⟩; have HQ2 : Hid (QK w #[.func (.func 54) #[] #[], .func (.func 55) #[] #[], .func (.func 58) #[] #[], .func (.func 59) #[] #[]] #[.int .i64 k, .int .u32 bo, .int .i64 fi, .int .u32 su, .int .i64 si, .int .i64 ap, .int .i64 bd, .int .i64 ix, .int .i64 pa, .int .i64 co, .slice ra rn rc, .slice da dn dc] x2) := q2; obtain ⟨fk0, fk1, fk2, fk3⟩ := kd_cells q2.2.1; obtain ⟨fm0, fm1, fm2, fm3, fm4, fm5, fm6, fm7, fm8, fm9, fm10, fm11⟩ := twelve_cells q2.2.2; clear q2)
    go_wp2_with fail
    refine hK.out _ _ ?_ (fun hHeld => ?_)
    · with_reducible exact ⟨by with_reducible assumption, by with_reducible assumption, by with_reducible assumption, by with_reducible assumption, by with_reducible assumption, by with_reducible assumption, by with_reducible assumption, by with_reducible assumption, by with_reducible assumption, by with_reducible assumption, by with_reducible assumption, by with_reducible assumption, by with_reducible assumption, by with_reducible assumption⟩
    clear hK K
    try simp only [Act.put]
    try simp only [List.setIfInBounds_toArray]
    try simp only [List.set_cons_succ]
    try simp only [List.set_cons_zero]
    refine wpAnyH_take (i := 6) (v := .bool false) rfl (by kernel_rfl) (by kernel_rfl) (by kernel_rfl) (fun _ _ _ h => h) (Or.inl ⟨by rfl, ?_⟩) hHeld ?_
    · intro wq hSw
      try dsimp only at hSw
      go_simp
    try simp only [Act.put]
    try simp only [List.setIfInBounds_toArray]
    try simp only [List.set_cons_succ]
    try simp only [List.set_cons_zero]
    refine wpAnyH_take (i := 7) (v := undef) rfl (by kernel_rfl) (by kernel_rfl) (by kernel_rfl) (fun _ _ _ h => h) (Or.inr ⟨by rfl, rfl⟩) hHeld ?_
    try simp only [Act.put]
    try simp only [List.setIfInBounds_toArray]
    try simp only [List.set_cons_succ]
    try simp only [List.set_cons_zero]
    refine wpAnyH_take (i := 8) (v := undef) rfl (by kernel_rfl) (by kernel_rfl) (by kernel_rfl) (fun _ _ _ h => h) (Or.inr ⟨by rfl, rfl⟩) hHeld ?_
    try simp only [Act.put]
    try simp only [List.setIfInBounds_toArray]
    try simp only [List.set_cons_succ]
    try simp only [List.set_cons_zero]
    refine wpAnyH_take (i := 9) (v := undef) rfl (by kernel_rfl) (by kernel_rfl) (by kernel_rfl) (fun _ _ _ h => h) (Or.inr ⟨by rfl, rfl⟩) hHeld ?_
    try simp only [Act.put]
    try simp only [List.setIfInBounds_toArray]
    try simp only [List.set_cons_succ]
    try simp only [List.set_cons_zero]
    refine wpAnyH_take (i := 10) (v := undef) rfl (by kernel_rfl) (by kernel_rfl) (by kernel_rfl) (fun _ _ _ h => h) (Or.inr ⟨by rfl, rfl⟩) hHeld ?_
    try simp only [Act.put]
    try simp only [List.setIfInBounds_toArray]
    try simp only [List.set_cons_succ]
    try simp only [List.set_cons_zero]
    refine wpAnyH_take (i := 11) (v := .bool false) rfl (by kernel_rfl) (by kernel_rfl) (by kernel_rfl) (fun _ _ _ h => h) (Or.inl ⟨by rfl, ?_⟩) hHeld ?_
    · intro wq hSw
      try dsimp only at hSw
      go_simp
    try simp only [Act.put]
    try simp only [List.setIfInBounds_toArray]
    try simp only [List.set_cons_succ]
    try simp only [List.set_cons_zero]
    refine wpAnyH_ready (rs := [12]) (by kernel_rfl) (by simp) (AllReadyH.cons (o := _) rfl (fun K hK => ?_) AllReadyH.nil)
    go_simp
    refine hK.out _ _ hHeld (fun hHeld => ?_)
    clear hK K
    try simp only [Act.put]
    try simp only [List.setIfInBounds_toArray]
    try simp only [List.set_cons_succ]
    try simp only [List.set_cons_zero]
    refine wpAnyH_done (by kernel_rfl) ?_ _
    all_goals go_wp2
    all_goals go_ret
    all_goals exact ⟨by simp, HQ2.out.1⟩
  · go_region_held3 (fun u => u.cell? ⟨w.heap.size, 0, none⟩ = some (.func (.func 54) #[] #[]) ∧ u.cell? ⟨w.heap.size, 1, none⟩ = some (.func (.func 55) #[] #[]) ∧ u.cell? ⟨w.heap.size + 1, 0, none⟩ = some (.int .i64 k) ∧ u.cell? ⟨w.heap.size + 1, 1, none⟩ = some (.int .u32 bo) ∧ u.cell? ⟨w.heap.size + 1, 2, none⟩ = some (.int .i64 fi) ∧ u.cell? ⟨w.heap.size + 1, 3, none⟩ = some (.int .u32 su) ∧ u.cell? ⟨w.heap.size + 1, 4, none⟩ = some (.int .i64 si) ∧ u.cell? ⟨w.heap.size + 1, 5, none⟩ = some (.int .i64 ap) ∧ u.cell? ⟨w.heap.size + 1, 6, none⟩ = some (.int .i64 bd) ∧ u.cell? ⟨w.heap.size + 1, 7, none⟩ = some (.int .i64 ix) ∧ u.cell? ⟨w.heap.size + 1, 8, none⟩ = some (.int .i64 pa) ∧ u.cell? ⟨w.heap.size + 1, 9, none⟩ = some (.int .i64 co) ∧ u.cell? ⟨w.heap.size + 1, 10, none⟩ = some (.slice ra rn rc) ∧ u.cell? ⟨w.heap.size + 1, 11, none⟩ = some (.slice da dn dc))
      (first | (with_reducible exact ⟨by with_reducible assumption, by with_reducible assumption, by with_reducible assumption, by with_reducible assumption, by with_reducible assumption, by with_reducible assumption, by with_reducible assumption, by with_reducible assumption, by with_reducible assumption, by with_reducible assumption, by with_reducible assumption, by with_reducible assumption, by with_reducible assumption, by with_reducible assumption⟩) | go_keep) (first
      | (go_at_call 54; (with_reducible refine Calls.mono (C1.out _ HQ0.out) ?_); rintro e x1 ⟨rfl, q1⟩; have HQ1 : Hid (QK w #[.func (.func 54) #[] #[], .func (.func 55) #[] #[], .func (.func 58) #[] #[], .func (.func 59) #[] #[]] #[.int .i64 k, .int .u32 bo, .int .i64 fi, .int .u32 su, .int .i64 si, .int .i64 ap, .int .i64 bd, .int .i64 ix, .int .i64 pa, .int .i64 co, .slice ra rn rc, .slice da dn dc] x1) := q1; obtain ⟨ek0, ek1, ek2, ek3⟩ := kd_cells q1.2.1; obtain ⟨em0, em1, em2, em3, em4, em5, em6, em7, em8, em9, em10, em11⟩ := twelve_cells q1.2.2; clear q1)
      | (go_at_call 40; (with_reducible refine Calls.mono (C2.out _ HQ1.out) ?_); rintro e x2 ⟨rfl, q2⟩; have HQ2 : Hid (QK w #[.func (.func 54) #[] #[], .func (.func 55) #[] #[], .func (.func 58) #[] #[], .func (.func 59) #[] #[]] #[.int .i64 k, .int .u32 bo, .int .i64 fi, .int .u32 su, .int .i64 si, .int .i64 ap, .int .i64 bd, .int .i64 ix, .int .i64 pa, .int .i64 co, .slice ra rn rc, .slice da dn dc] x2) := q2; obtain ⟨fk0, fk1, fk2, fk3⟩ := kd_cells q2.2.1; obtain ⟨fm0, fm1, fm2, fm3, fm4, fm5, fm6, fm7, fm8, fm9, fm10, fm11⟩ := twelve_cells q2.2.2; clear q2)
      | (go_at_call 55; (with_reducible refine Calls.mono (C3.out _ HQ2.out) ?_); rintro e x3 ⟨rfl, q3⟩; have HQ3 : Hid (QK w #[.func (.func 54) #[] #[], .func (.func 55) #[] #[], .func (.func 58) #[] #[], .func (.func 59) #[] #[]] #[.int .i64 k, .int .u32 bo, .int .i64 fi, .int .u32 su, .int .i64 si, .int .i64 ap, .int .i64 bd, .int .i64 ix, .int .i64 pa, .int .i64 co, .slice ra rn rc, .slice da dn dc] x3) := q3; obtain ⟨gk0, gk1, gk2, gk3⟩ := kd_cells q3.2.1; obtain ⟨gm0, gm1, gm2, gm3, gm4, gm5, gm6, gm7, gm8, gm9, gm10, gm11⟩ := twelve_cells q3.2.2; clear q3)
      | fail)
    go_wp2
    go_ret
    exact ⟨by simp, HQ3.out.1⟩
def my_offer (m : Ms) (_G : List (Int × Int)) : Bool := sameM m (on_offer m) && bn_offer m
set_option maxHeartbeats 6400000 in
theorem may_offer (m : Ms) (G : List (Int × Int)) (D : List Int) (w : World) (hm : MsM w m G D) : Calls Try.prog 18 #[kd_offer, m.V] w fun e w' => e = .returned (.bool (my_offer m G)) ∧ Below w.heap.size w w' := by
  have HQ : Hid (QK w #[.func (.func 60) #[] #[], .func (.func 61) #[] #[], .func (.func 62) #[] #[], .func (.func 63) #[] #[]] m.c12 _) := QK.box w #[.func (.func 60) #[] #[], .func (.func 61) #[] #[], .func (.func 62) #[] #[], .func (.func 63) #[] #[]] m.c12
  have hdn : m.dn ≤ 140737488355328 := by have := hm.d.2.2.2.1; omega
  have C1 : Hid (∀ u, QK w #[.func (.func 60) #[] #[], .func (.func 61) #[] #[], .func (.func 62) #[] #[], .func (.func 63) #[] #[]] m.c12 u → Calls Try.prog 60 #[m.V] u fun e w' => e = .returned (on_offer m).V ∧ QK w #[.func (.func 60) #[] #[], .func (.func 61) #[] #[], .func (.func 62) #[] #[], .func (.func 63) #[] #[]] m.c12 w') := fun u h => (only_offer m u).mono fun e w' q => ⟨q.1, h.old q.2⟩
  have C2 : Hid (∀ u, QK w #[.func (.func 60) #[] #[], .func (.func 61) #[] #[], .func (.func 62) #[] #[], .func (.func 63) #[] #[]] m.c12 u → Calls Try.prog 40 #[m.V, (on_offer m).V] u fun e w' => e = .returned (.bool (sameM m (on_offer m))) ∧ QK w #[.func (.func 60) #[] #[], .func (.func 61) #[] #[], .func (.func 62) #[] #[], .func (.func 63) #[] #[]] m.c12 w') := fun u h => (same_any_m m (on_offer m) u ⟨hm.rb, by have := hm.rb; unfold on_offer; simp only; omega⟩ ⟨hdn, by unfold on_offer; simp only; omega⟩).mono fun e w' q => ⟨q.1, h.old q.2⟩
  have C3 : Hid (∀ u, QK w #[.func (.func 60) #[] #[], .func (.func 61) #[] #[], .func (.func 62) #[] #[], .func (.func 63) #[] #[]] m.c12 u → Calls Try.prog 61 #[m.V] u fun e w' => e = .returned (.bool (bn_offer m)) ∧ QK w #[.func (.func 60) #[] #[], .func (.func 61) #[] #[], .func (.func 62) #[] #[], .func (.func 63) #[] #[]] m.c12 w') := fun u h => (bounds_offer m u hdn).mono fun e w' q => ⟨q.1, h.old q.2⟩
  unfold my_offer
  obtain ⟨S, hS⟩ : ∃ S, sameM m (on_offer m) = S := ⟨_, rfl⟩
  obtain ⟨N, hN⟩ : ∃ N, bn_offer m = N := ⟨_, rfl⟩
  rw [hS] at C2 ⊢
  rw [hN] at C3 ⊢
  clear hS hN hm hdn
  obtain ⟨k, bo, fi, su, si, ap, bd, ix, pa, co, ra, rn, rc, da, dn, dc⟩ := m
  unfold on_offer at *
  unfold Ms.V at *
  unfold Ms.c12 at *
  simp only at *
  unfold kd_offer fnv
  go_enter Try.func18, Try.ntmps18
  have q0 := HQ.out.2
  obtain ⟨a0, a1, a2, a3⟩ := kd_cells q0.1
  obtain ⟨d0, d1, d2, d3, d4, d5, d6, d7, d8, d9, d10, d11⟩ := twelve_cells q0.2
  clear q0
  have HQ0 : Hid (QK w #[.func (.func 60) #[] #[], .func (.func 61) #[] #[], .func (.func 62) #[] #[], .func (.func 63) #[] #[]] #[.int .i64 k, .int .u32 bo, .int .i64 fi, .int .u32 su, .int .i64 si, .int .i64 ap, .int .i64 bd, .int .i64 ix, .int .i64 pa, .int .i64 co, .slice ra rn rc, .slice da dn dc] ((w.alloc (.cells #[.func (.func 60) #[] #[], .func (.func 61) #[] #[], .func (.func 62) #[] #[], .func (.func 63) #[] #[]] 45)).alloc (.cells #[.int .i64 k, .int .u32 bo, .int .i64 fi, .int .u32 su, .int .i64 si, .int .i64 ap, .int .i64 bd, .int .i64 ix, .int .i64 pa, .int .i64 co, .slice ra rn rc, .slice da dn dc] 26)).drew) := HQ.out.old ⟨rfl, rfl, rfl, Nat.le_refl _, fun _ _ => rfl⟩
  go_upto_region 1 with fail
  cases S
  · refine wp_region_held_drew (S := fun u => u.cell? ⟨w.heap.size, 0, none⟩ = some (.func (.func 60) #[] #[]) ∧ u.cell? ⟨w.heap.size, 1, none⟩ = some (.func (.func 61) #[] #[]) ∧ u.cell? ⟨w.heap.size + 1, 0, none⟩ = some (.int .i64 k) ∧ u.cell? ⟨w.heap.size + 1, 1, none⟩ = some (.int .u32 bo) ∧ u.cell? ⟨w.heap.size + 1, 2, none⟩ = some (.int .i64 fi) ∧ u.cell? ⟨w.heap.size + 1, 3, none⟩ = some (.int .u32 su) ∧ u.cell? ⟨w.heap.size + 1, 4, none⟩ = some (.int .i64 si) ∧ u.cell? ⟨w.heap.size + 1, 5, none⟩ = some (.int .i64 ap) ∧ u.cell? ⟨w.heap.size + 1, 6, none⟩ = some (.int .i64 bd) ∧ u.cell? ⟨w.heap.size + 1, 7, none⟩ = some (.int .i64 ix) ∧ u.cell? ⟨w.heap.size + 1, 8, none⟩ = some (.int .i64 pa) ∧ u.cell? ⟨w.heap.size + 1, 9, none⟩ = some (.int .i64 co) ∧ u.cell? ⟨w.heap.size + 1, 10, none⟩ = some (.slice ra rn rc) ∧ u.cell? ⟨w.heap.size + 1, 11, none⟩ = some (.slice da dn dc)) (by kernel_rfl) ?_ (fun hHeld => ?_)
    · obtain ⟨z0, z1, z2, z3⟩ := kd_cells HQ0.out.2.1
      obtain ⟨y0, y1, y2, y3, y4, y5, y6, y7, y8, y9, y10, y11⟩ := twelve_cells HQ0.out.2.2
      with_reducible exact ⟨by with_reducible assumption, by with_reducible assumption, by with_reducible assumption, by with_reducible assumption, by with_reducible assumption, by with_reducible assumption, by with_reducible assumption, by with_reducible assumption, by with_reducible assumption, by with_reducible assumption, by with_reducible assumption, by with_reducible assumption, by with_reducible assumption, by with_reducible assumption⟩
    refine wpAnyH_take (i := 0) (v := .agg #[.int .i64 k, .int .u32 bo, .int .i64 fi, .int .u32 su, .int .i64 si, .int .i64 ap, .int .i64 bd, .int .i64 ix, .int .i64 pa, .int .i64 co, .slice ra rn rc, .slice da dn dc]) rfl (by kernel_rfl) (by kernel_rfl) (by kernel_rfl) (fun _ _ _ h => h) (Or.inl ⟨by rfl, ?_⟩) hHeld ?_
    · intro wq hSw
      try dsimp only at hSw
      go_simp
    try simp only [Act.put]
    try simp only [List.setIfInBounds_toArray]
    try simp only [List.set_cons_succ]
    try simp only [List.set_cons_zero]
    refine wpAnyH_take (i := 1) (v := .pointer (some ⟨w.heap.size, 0, none⟩)) rfl (by kernel_rfl) (by kernel_rfl) (by kernel_rfl) (fun _ _ _ h => h) (Or.inl ⟨by rfl, ?_⟩) hHeld ?_
    · intro wq hSw
      try dsimp only at hSw
      go_simp
    try simp only [Act.put]
    try simp only [List.setIfInBounds_toArray]
    try simp only [List.set_cons_succ]
    try simp only [List.set_cons_zero]
    refine wpAnyH_take (i := 2) (v := .func (.func 60) #[] #[]) rfl (by kernel_rfl) (by kernel_rfl) (by kernel_rfl) (fun _ _ _ h => h) (Or.inl ⟨by rfl, ?_⟩) hHeld ?_
    · intro wq hSw
      try dsimp only at hSw
      go_simp
    try simp only [Act.put]
    try simp only [List.setIfInBounds_toArray]
    try simp only [List.set_cons_succ]
    try simp only [List.set_cons_zero]
    refine wpAnyH_take (i := 3) (v := .agg #[.int .i64 k, .int .u32 bo, .int .i64 fi, .int .u32 su, .int .i64 si, .int .i64 ap, .int .i64 bd, .int .i64 ix, .int .i64 pa, .int .i64 co, .slice ra rn rc, .slice da dn dc]) rfl (by kernel_rfl) (by kernel_rfl) (by kernel_rfl) (fun _ _ _ h => h) (Or.inl ⟨by rfl, ?_⟩) hHeld ?_
    · intro wq hSw
      try dsimp only at hSw
      go_simp
    try simp only [Act.put]
    try simp only [List.setIfInBounds_toArray]
    try simp only [List.set_cons_succ]
    try simp only [List.set_cons_zero]
    refine wpAnyH_ready (rs := [4]) (by kernel_rfl) (by simp) (AllReadyH.cons (o := _) rfl (fun K hK => ?_) AllReadyH.nil)
    go_simp
    (go_at_call 60; (with_reducible refine Calls.mono (C1.out _ HQ0.out) ?_); rintro e x1 ⟨rfl, q1⟩; have HQ1 : Hid (QK w #[.func (.func 60) #[] #[], .func (.func 61) #[] #[], .func (.func 62) #[] #[], .func (.func 63) #[] #[]] #[.int .i64 k, .int .u32 bo, .int .i64 fi, .int .u32 su, .int .i64 si, .int .i64 ap, .int .i64 bd, .int .i64 ix, .int .i64 pa, .int .i64 co, .slice ra rn rc, .slice da dn dc] x1) := q1; obtain ⟨ek0, ek1, ek2, ek3⟩ := kd_cells q1.2.1; obtain ⟨em0, em1, em2, em3, em4, em5, em6, em7, em8, em9, em10, em11⟩ := twelve_cells q1.2.2; clear q1)
    go_wp2_with fail
    refine hK.out _ _ ?_ (fun hHeld => ?_)
    · with_reducible exact ⟨by with_reducible assumption, by with_reducible assumption, by with_reducible assumption, by with_reducible assumption, by with_reducible assumption, by with_reducible assumption, by with_reducible assumption, by with_reducible assumption, by with_reducible assumption, by with_reducible assumption, by with_reducible assumption, by with_reducible assumption, by with_reducible assumption, by with_reducible assumption⟩
    clear hK K
    try simp only [Act.put]
    try simp only [List.setIfInBounds_toArray]
    try simp only [List.set_cons_succ]
    try simp only [List.set_cons_zero]
    refine wpAnyH_ready (rs := [5]) (by kernel_rfl) (by simp) (AllReadyH.cons (o := _) rfl (fun K hK => ?_) AllReadyH.nil)
    go_simp
    (go_at_call 40; (with_reducible refine Calls.mono (C2.out _ HQ1.out) ?_); rintro e x2 ⟨rfl, q2⟩; have HQ2 : Hid (QK w #[.func (.func 60) #[] #[], .func (.func 61) #[] #[], .func (.func 62) #[] #[], .func (.func 63) #[] #[]] #[.int .i64 k, .int .u32 bo, .int .i64 fi, .int .u32 su, .int .i64 si, .int .i64 ap, .int .i64 bd, .int .i64 ix, .int .i64 pa, .int .i64 co, .slice ra rn rc, .slice da dn dc] x2) := q2; obtain ⟨fk0, fk1, fk2, fk3⟩ := kd_cells q2.2.1; obtain ⟨fm0, fm1, fm2, fm3, fm4, fm5, fm6, fm7, fm8, fm9, fm10, fm11⟩ := twelve_cells q2.2.2; clear q2)
    go_wp2_with fail
    refine hK.out _ _ ?_ (fun hHeld => ?_)
    · with_reducible exact ⟨by with_reducible assumption, by with_reducible assumption, by with_reducible assumption, by with_reducible assumption, by with_reducible assumption, by with_reducible assumption, by with_reducible assumption, by with_reducible assumption, by with_reducible assumption, by with_reducible assumption, by with_reducible assumption, by with_reducible assumption, by with_reducible assumption, by with_reducible assumption⟩
    clear hK K
    try simp only [Act.put]
    try simp only [List.setIfInBounds_toArray]
    try simp only [List.set_cons_succ]
    try simp only [List.set_cons_zero]
    refine wpAnyH_take (i := 6) (v := .bool false) rfl (by kernel_rfl) (by kernel_rfl) (by kernel_rfl) (fun _ _ _ h => h) (Or.inl ⟨by rfl, ?_⟩) hHeld ?_
    · intro wq hSw
      try dsimp only at hSw
      go_simp
    try simp only [Act.put]
    try simp only [List.setIfInBounds_toArray]
    try simp only [List.set_cons_succ]
    try simp only [List.set_cons_zero]
    refine wpAnyH_take (i := 7) (v := undef) rfl (by kernel_rfl) (by kernel_rfl) (by kernel_rfl) (fun _ _ _ h => h) (Or.inr ⟨by rfl, rfl⟩) hHeld ?_
    try simp only [Act.put]
    try simp only [List.setIfInBounds_toArray]
    try simp only [List.set_cons_succ]
    try simp only [List.set_cons_zero]
    refine wpAnyH_take (i := 8) (v := undef) rfl (by kernel_rfl) (by kernel_rfl) (by kernel_rfl) (fun _ _ _ h => h) (Or.inr ⟨by rfl, rfl⟩) hHeld ?_
    try simp only [Act.put]
    try simp only [List.setIfInBounds_toArray]
    try simp only [List.set_cons_succ]
    try simp only [List.set_cons_zero]
    refine wpAnyH_take (i := 9) (v := undef) rfl (by kernel_rfl) (by kernel_rfl) (by kernel_rfl) (fun _ _ _ h => h) (Or.inr ⟨by rfl, rfl⟩) hHeld ?_
    try simp only [Act.put]
    try simp only [List.setIfInBounds_toArray]
    try simp only [List.set_cons_succ]
    try simp only [List.set_cons_zero]
    refine wpAnyH_take (i := 10) (v := undef) rfl (by kernel_rfl) (by kernel_rfl) (by kernel_rfl) (fun _ _ _ h => h) (Or.inr ⟨by rfl, rfl⟩) hHeld ?_
    try simp only [Act.put]
    try simp only [List.setIfInBounds_toArray]
    try simp only [List.set_cons_succ]
    try simp only [List.set_cons_zero]
    refine wpAnyH_take (i := 11) (v := .bool false) rfl (by kernel_rfl) (by kernel_rfl) (by kernel_rfl) (fun _ _ _ h => h) (Or.inl ⟨by rfl, ?_⟩) hHeld ?_
    · intro wq hSw
      try dsimp only at hSw
      go_simp
    try simp only [Act.put]
    try simp only [List.setIfInBounds_toArray]
    try simp only [List.set_cons_succ]
    try simp only [List.set_cons_zero]
    refine wpAnyH_ready (rs := [12]) (by kernel_rfl) (by simp) (AllReadyH.cons (o := _) rfl (fun K hK => ?_) AllReadyH.nil)
    go_simp
    refine hK.out _ _ hHeld (fun hHeld => ?_)
    clear hK K
    try simp only [Act.put]
    try simp only [List.setIfInBounds_toArray]
    try simp only [List.set_cons_succ]
    try simp only [List.set_cons_zero]
    refine wpAnyH_done (by kernel_rfl) ?_ _
    all_goals go_wp2
    all_goals go_ret
    all_goals exact ⟨by simp, HQ2.out.1⟩
  · go_region_held3 (fun u => u.cell? ⟨w.heap.size, 0, none⟩ = some (.func (.func 60) #[] #[]) ∧ u.cell? ⟨w.heap.size, 1, none⟩ = some (.func (.func 61) #[] #[]) ∧ u.cell? ⟨w.heap.size + 1, 0, none⟩ = some (.int .i64 k) ∧ u.cell? ⟨w.heap.size + 1, 1, none⟩ = some (.int .u32 bo) ∧ u.cell? ⟨w.heap.size + 1, 2, none⟩ = some (.int .i64 fi) ∧ u.cell? ⟨w.heap.size + 1, 3, none⟩ = some (.int .u32 su) ∧ u.cell? ⟨w.heap.size + 1, 4, none⟩ = some (.int .i64 si) ∧ u.cell? ⟨w.heap.size + 1, 5, none⟩ = some (.int .i64 ap) ∧ u.cell? ⟨w.heap.size + 1, 6, none⟩ = some (.int .i64 bd) ∧ u.cell? ⟨w.heap.size + 1, 7, none⟩ = some (.int .i64 ix) ∧ u.cell? ⟨w.heap.size + 1, 8, none⟩ = some (.int .i64 pa) ∧ u.cell? ⟨w.heap.size + 1, 9, none⟩ = some (.int .i64 co) ∧ u.cell? ⟨w.heap.size + 1, 10, none⟩ = some (.slice ra rn rc) ∧ u.cell? ⟨w.heap.size + 1, 11, none⟩ = some (.slice da dn dc))
      (first | (with_reducible exact ⟨by with_reducible assumption, by with_reducible assumption, by with_reducible assumption, by with_reducible assumption, by with_reducible assumption, by with_reducible assumption, by with_reducible assumption, by with_reducible assumption, by with_reducible assumption, by with_reducible assumption, by with_reducible assumption, by with_reducible assumption, by with_reducible assumption, by with_reducible assumption⟩) | go_keep) (first
      | (go_at_call 60; (with_reducible refine Calls.mono (C1.out _ HQ0.out) ?_); rintro e x1 ⟨rfl, q1⟩; have HQ1 : Hid (QK w #[.func (.func 60) #[] #[], .func (.func 61) #[] #[], .func (.func 62) #[] #[], .func (.func 63) #[] #[]] #[.int .i64 k, .int .u32 bo, .int .i64 fi, .int .u32 su, .int .i64 si, .int .i64 ap, .int .i64 bd, .int .i64 ix, .int .i64 pa, .int .i64 co, .slice ra rn rc, .slice da dn dc] x1) := q1; obtain ⟨ek0, ek1, ek2, ek3⟩ := kd_cells q1.2.1; obtain ⟨em0, em1, em2, em3, em4, em5, em6, em7, em8, em9, em10, em11⟩ := twelve_cells q1.2.2; clear q1)
      | (go_at_call 40; (with_reducible refine Calls.mono (C2.out _ HQ1.out) ?_); rintro e x2 ⟨rfl, q2⟩; have HQ2 : Hid (QK w #[.func (.func 60) #[] #[], .func (.func 61) #[] #[], .func (.func 62) #[] #[], .func (.func 63) #[] #[]] #[.int .i64 k, .int .u32 bo, .int .i64 fi, .int .u32 su, .int .i64 si, .int .i64 ap, .int .i64 bd, .int .i64 ix, .int .i64 pa, .int .i64 co, .slice ra rn rc, .slice da dn dc] x2) := q2; obtain ⟨fk0, fk1, fk2, fk3⟩ := kd_cells q2.2.1; obtain ⟨fm0, fm1, fm2, fm3, fm4, fm5, fm6, fm7, fm8, fm9, fm10, fm11⟩ := twelve_cells q2.2.2; clear q2)
      | (go_at_call 61; (with_reducible refine Calls.mono (C3.out _ HQ2.out) ?_); rintro e x3 ⟨rfl, q3⟩; have HQ3 : Hid (QK w #[.func (.func 60) #[] #[], .func (.func 61) #[] #[], .func (.func 62) #[] #[], .func (.func 63) #[] #[]] #[.int .i64 k, .int .u32 bo, .int .i64 fi, .int .u32 su, .int .i64 si, .int .i64 ap, .int .i64 bd, .int .i64 ix, .int .i64 pa, .int .i64 co, .slice ra rn rc, .slice da dn dc] x3) := q3; obtain ⟨gk0, gk1, gk2, gk3⟩ := kd_cells q3.2.1; obtain ⟨gm0, gm1, gm2, gm3, gm4, gm5, gm6, gm7, gm8, gm9, gm10, gm11⟩ := twelve_cells q3.2.2; clear q3)
      | fail)
    go_wp2
    go_ret
    exact ⟨by simp, HQ3.out.1⟩
def my_data (m : Ms) (_G : List (Int × Int)) : Bool := sameM m (on_data m) && bn_data m
set_option maxHeartbeats 6400000 in
theorem may_data (m : Ms) (G : List (Int × Int)) (D : List Int) (w : World) (hm : MsM w m G D) : Calls Try.prog 18 #[kd_data, m.V] w fun e w' => e = .returned (.bool (my_data m G)) ∧ Below w.heap.size w w' := by
  have HQ : Hid (QK w #[.func (.func 64) #[] #[], .func (.func 65) #[] #[], .func (.func 67) #[] #[], .func (.func 68) #[] #[]] m.c12 _) := QK.box w #[.func (.func 64) #[] #[], .func (.func 65) #[] #[], .func (.func 67) #[] #[], .func (.func 68) #[] #[]] m.c12
  have hdn : m.dn ≤ 140737488355328 := by have := hm.d.2.2.2.1; omega
  have C1 : Hid (∀ u, QK w #[.func (.func 64) #[] #[], .func (.func 65) #[] #[], .func (.func 67) #[] #[], .func (.func 68) #[] #[]] m.c12 u → Calls Try.prog 64 #[m.V] u fun e w' => e = .returned (on_data m).V ∧ QK w #[.func (.func 64) #[] #[], .func (.func 65) #[] #[], .func (.func 67) #[] #[], .func (.func 68) #[] #[]] m.c12 w') := fun u h => (only_data m u).mono fun e w' q => ⟨q.1, h.old q.2⟩
  have C2 : Hid (∀ u, QK w #[.func (.func 64) #[] #[], .func (.func 65) #[] #[], .func (.func 67) #[] #[], .func (.func 68) #[] #[]] m.c12 u → Calls Try.prog 40 #[m.V, (on_data m).V] u fun e w' => e = .returned (.bool (sameM m (on_data m))) ∧ QK w #[.func (.func 64) #[] #[], .func (.func 65) #[] #[], .func (.func 67) #[] #[], .func (.func 68) #[] #[]] m.c12 w') := fun u h => (same_any_m m (on_data m) u ⟨hm.rb, by have := hm.rb; unfold on_data; simp only; omega⟩ ⟨hdn, by unfold on_data; simp only; omega⟩).mono fun e w' q => ⟨q.1, h.old q.2⟩
  have C3 : Hid (∀ u, QK w #[.func (.func 64) #[] #[], .func (.func 65) #[] #[], .func (.func 67) #[] #[], .func (.func 68) #[] #[]] m.c12 u → Calls Try.prog 65 #[m.V] u fun e w' => e = .returned (.bool (bn_data m)) ∧ QK w #[.func (.func 64) #[] #[], .func (.func 65) #[] #[], .func (.func 67) #[] #[], .func (.func 68) #[] #[]] m.c12 w') := fun u h => (bounds_data m u hdn).mono fun e w' q => ⟨q.1, h.old q.2⟩
  unfold my_data
  obtain ⟨S, hS⟩ : ∃ S, sameM m (on_data m) = S := ⟨_, rfl⟩
  obtain ⟨N, hN⟩ : ∃ N, bn_data m = N := ⟨_, rfl⟩
  rw [hS] at C2 ⊢
  rw [hN] at C3 ⊢
  clear hS hN hm hdn
  obtain ⟨k, bo, fi, su, si, ap, bd, ix, pa, co, ra, rn, rc, da, dn, dc⟩ := m
  unfold on_data at *
  unfold Ms.V at *
  unfold Ms.c12 at *
  simp only at *
  unfold kd_data fnv
  go_enter Try.func18, Try.ntmps18
  have q0 := HQ.out.2
  obtain ⟨a0, a1, a2, a3⟩ := kd_cells q0.1
  obtain ⟨d0, d1, d2, d3, d4, d5, d6, d7, d8, d9, d10, d11⟩ := twelve_cells q0.2
  clear q0
  have HQ0 : Hid (QK w #[.func (.func 64) #[] #[], .func (.func 65) #[] #[], .func (.func 67) #[] #[], .func (.func 68) #[] #[]] #[.int .i64 k, .int .u32 bo, .int .i64 fi, .int .u32 su, .int .i64 si, .int .i64 ap, .int .i64 bd, .int .i64 ix, .int .i64 pa, .int .i64 co, .slice ra rn rc, .slice da dn dc] ((w.alloc (.cells #[.func (.func 64) #[] #[], .func (.func 65) #[] #[], .func (.func 67) #[] #[], .func (.func 68) #[] #[]] 45)).alloc (.cells #[.int .i64 k, .int .u32 bo, .int .i64 fi, .int .u32 su, .int .i64 si, .int .i64 ap, .int .i64 bd, .int .i64 ix, .int .i64 pa, .int .i64 co, .slice ra rn rc, .slice da dn dc] 26)).drew) := HQ.out.old ⟨rfl, rfl, rfl, Nat.le_refl _, fun _ _ => rfl⟩
  go_upto_region 1 with fail
  cases S
  · refine wp_region_held_drew (S := fun u => u.cell? ⟨w.heap.size, 0, none⟩ = some (.func (.func 64) #[] #[]) ∧ u.cell? ⟨w.heap.size, 1, none⟩ = some (.func (.func 65) #[] #[]) ∧ u.cell? ⟨w.heap.size + 1, 0, none⟩ = some (.int .i64 k) ∧ u.cell? ⟨w.heap.size + 1, 1, none⟩ = some (.int .u32 bo) ∧ u.cell? ⟨w.heap.size + 1, 2, none⟩ = some (.int .i64 fi) ∧ u.cell? ⟨w.heap.size + 1, 3, none⟩ = some (.int .u32 su) ∧ u.cell? ⟨w.heap.size + 1, 4, none⟩ = some (.int .i64 si) ∧ u.cell? ⟨w.heap.size + 1, 5, none⟩ = some (.int .i64 ap) ∧ u.cell? ⟨w.heap.size + 1, 6, none⟩ = some (.int .i64 bd) ∧ u.cell? ⟨w.heap.size + 1, 7, none⟩ = some (.int .i64 ix) ∧ u.cell? ⟨w.heap.size + 1, 8, none⟩ = some (.int .i64 pa) ∧ u.cell? ⟨w.heap.size + 1, 9, none⟩ = some (.int .i64 co) ∧ u.cell? ⟨w.heap.size + 1, 10, none⟩ = some (.slice ra rn rc) ∧ u.cell? ⟨w.heap.size + 1, 11, none⟩ = some (.slice da dn dc)) (by kernel_rfl) ?_ (fun hHeld => ?_)
    · obtain ⟨z0, z1, z2, z3⟩ := kd_cells HQ0.out.2.1
      obtain ⟨y0, y1, y2, y3, y4, y5, y6, y7, y8, y9, y10, y11⟩ := twelve_cells HQ0.out.2.2
      with_reducible exact ⟨by with_reducible assumption, by with_reducible assumption, by with_reducible assumption, by with_reducible assumption, by with_reducible assumption, by with_reducible assumption, by with_reducible assumption, by with_reducible assumption, by with_reducible assumption, by with_reducible assumption, by with_reducible assumption, by with_reducible assumption, by with_reducible assumption, by with_reducible assumption⟩
    refine wpAnyH_take (i := 0) (v := .agg #[.int .i64 k, .int .u32 bo, .int .i64 fi, .int .u32 su, .int .i64 si, .int .i64 ap, .int .i64 bd, .int .i64 ix, .int .i64 pa, .int .i64 co, .slice ra rn rc, .slice da dn dc]) rfl (by kernel_rfl) (by kernel_rfl) (by kernel_rfl) (fun _ _ _ h => h) (Or.inl ⟨by rfl, ?_⟩) hHeld ?_
    · intro wq hSw
      try dsimp only at hSw
      go_simp
    try simp only [Act.put]
    try simp only [List.setIfInBounds_toArray]
    try simp only [List.set_cons_succ]
    try simp only [List.set_cons_zero]
    refine wpAnyH_take (i := 1) (v := .pointer (some ⟨w.heap.size, 0, none⟩)) rfl (by kernel_rfl) (by kernel_rfl) (by kernel_rfl) (fun _ _ _ h => h) (Or.inl ⟨by rfl, ?_⟩) hHeld ?_
    · intro wq hSw
      try dsimp only at hSw
      go_simp
    try simp only [Act.put]
    try simp only [List.setIfInBounds_toArray]
    try simp only [List.set_cons_succ]
    try simp only [List.set_cons_zero]
    refine wpAnyH_take (i := 2) (v := .func (.func 64) #[] #[]) rfl (by kernel_rfl) (by kernel_rfl) (by kernel_rfl) (fun _ _ _ h => h) (Or.inl ⟨by rfl, ?_⟩) hHeld ?_
    · intro wq hSw
      try dsimp only at hSw
      go_simp
    try simp only [Act.put]
    try simp only [List.setIfInBounds_toArray]
    try simp only [List.set_cons_succ]
    try simp only [List.set_cons_zero]
    refine wpAnyH_take (i := 3) (v := .agg #[.int .i64 k, .int .u32 bo, .int .i64 fi, .int .u32 su, .int .i64 si, .int .i64 ap, .int .i64 bd, .int .i64 ix, .int .i64 pa, .int .i64 co, .slice ra rn rc, .slice da dn dc]) rfl (by kernel_rfl) (by kernel_rfl) (by kernel_rfl) (fun _ _ _ h => h) (Or.inl ⟨by rfl, ?_⟩) hHeld ?_
    · intro wq hSw
      try dsimp only at hSw
      go_simp
    try simp only [Act.put]
    try simp only [List.setIfInBounds_toArray]
    try simp only [List.set_cons_succ]
    try simp only [List.set_cons_zero]
    refine wpAnyH_ready (rs := [4]) (by kernel_rfl) (by simp) (AllReadyH.cons (o := _) rfl (fun K hK => ?_) AllReadyH.nil)
    go_simp
    (go_at_call 64; (with_reducible refine Calls.mono (C1.out _ HQ0.out) ?_); rintro e x1 ⟨rfl, q1⟩; have HQ1 : Hid (QK w #[.func (.func 64) #[] #[], .func (.func 65) #[] #[], .func (.func 67) #[] #[], .func (.func 68) #[] #[]] #[.int .i64 k, .int .u32 bo, .int .i64 fi, .int .u32 su, .int .i64 si, .int .i64 ap, .int .i64 bd, .int .i64 ix, .int .i64 pa, .int .i64 co, .slice ra rn rc, .slice da dn dc] x1) := q1; obtain ⟨ek0, ek1, ek2, ek3⟩ := kd_cells q1.2.1; obtain ⟨em0, em1, em2, em3, em4, em5, em6, em7, em8, em9, em10, em11⟩ := twelve_cells q1.2.2; clear q1)
    go_wp2_with fail
    refine hK.out _ _ ?_ (fun hHeld => ?_)
    · with_reducible exact ⟨by with_reducible assumption, by with_reducible assumption, by with_reducible assumption, by with_reducible assumption, by with_reducible assumption, by with_reducible assumption, by with_reducible assumption, by with_reducible assumption, by with_reducible assumption, by with_reducible assumption, by with_reducible assumption, by with_reducible assumption, by with_reducible assumption, by with_reducible assumption⟩
    clear hK K
    try simp only [Act.put]
    try simp only [List.setIfInBounds_toArray]
    try simp only [List.set_cons_succ]
    try simp only [List.set_cons_zero]
    refine wpAnyH_ready (rs := [5]) (by kernel_rfl) (by simp) (AllReadyH.cons (o := _) rfl (fun K hK => ?_) AllReadyH.nil)
    go_simp
    (go_at_call 40; (with_reducible refine Calls.mono (C2.out _ HQ1.out) ?_); rintro e x2 ⟨rfl, q2⟩; have HQ2 : Hid (QK w #[.func (.func 64) #[] #[], .func (.func 65) #[] #[], .func (.func 67) #[] #[], .func (.func 68) #[] #[]] #[.int .i64 k, .int .u32 bo, .int .i64 fi, .int .u32 su, .int .i64 si, .int .i64 ap, .int .i64 bd, .int .i64 ix, .int .i64 pa, .int .i64 co, .slice ra rn rc, .slice da dn dc] x2) := q2; obtain ⟨fk0, fk1, fk2, fk3⟩ := kd_cells q2.2.1; obtain ⟨fm0, fm1, fm2, fm3, fm4, fm5, fm6, fm7, fm8, fm9, fm10, fm11⟩ := twelve_cells q2.2.2; clear q2)
    go_wp2_with fail
    refine hK.out _ _ ?_ (fun hHeld => ?_)
    · with_reducible exact ⟨by with_reducible assumption, by with_reducible assumption, by with_reducible assumption, by with_reducible assumption, by with_reducible assumption, by with_reducible assumption, by with_reducible assumption, by with_reducible assumption, by with_reducible assumption, by with_reducible assumption, by with_reducible assumption, by with_reducible assumption, by with_reducible assumption, by with_reducible assumption⟩
    clear hK K
    try simp only [Act.put]
    try simp only [List.setIfInBounds_toArray]
    try simp only [List.set_cons_succ]
    try simp only [List.set_cons_zero]
    refine wpAnyH_take (i := 6) (v := .bool false) rfl (by kernel_rfl) (by kernel_rfl) (by kernel_rfl) (fun _ _ _ h => h) (Or.inl ⟨by rfl, ?_⟩) hHeld ?_
    · intro wq hSw
      try dsimp only at hSw
      go_simp
    try simp only [Act.put]
    try simp only [List.setIfInBounds_toArray]
    try simp only [List.set_cons_succ]
    try simp only [List.set_cons_zero]
    refine wpAnyH_take (i := 7) (v := undef) rfl (by kernel_rfl) (by kernel_rfl) (by kernel_rfl) (fun _ _ _ h => h) (Or.inr ⟨by rfl, rfl⟩) hHeld ?_
    try simp only [Act.put]
    try simp only [List.setIfInBounds_toArray]
    try simp only [List.set_cons_succ]
    try simp only [List.set_cons_zero]
    refine wpAnyH_take (i := 8) (v := undef) rfl (by kernel_rfl) (by kernel_rfl) (by kernel_rfl) (fun _ _ _ h => h) (Or.inr ⟨by rfl, rfl⟩) hHeld ?_
    try simp only [Act.put]
    try simp only [List.setIfInBounds_toArray]
    try simp only [List.set_cons_succ]
    try simp only [List.set_cons_zero]
    refine wpAnyH_take (i := 9) (v := undef) rfl (by kernel_rfl) (by kernel_rfl) (by kernel_rfl) (fun _ _ _ h => h) (Or.inr ⟨by rfl, rfl⟩) hHeld ?_
    try simp only [Act.put]
    try simp only [List.setIfInBounds_toArray]
    try simp only [List.set_cons_succ]
    try simp only [List.set_cons_zero]
    refine wpAnyH_take (i := 10) (v := undef) rfl (by kernel_rfl) (by kernel_rfl) (by kernel_rfl) (fun _ _ _ h => h) (Or.inr ⟨by rfl, rfl⟩) hHeld ?_
    try simp only [Act.put]
    try simp only [List.setIfInBounds_toArray]
    try simp only [List.set_cons_succ]
    try simp only [List.set_cons_zero]
    refine wpAnyH_take (i := 11) (v := .bool false) rfl (by kernel_rfl) (by kernel_rfl) (by kernel_rfl) (fun _ _ _ h => h) (Or.inl ⟨by rfl, ?_⟩) hHeld ?_
    · intro wq hSw
      try dsimp only at hSw
      go_simp
    try simp only [Act.put]
    try simp only [List.setIfInBounds_toArray]
    try simp only [List.set_cons_succ]
    try simp only [List.set_cons_zero]
    refine wpAnyH_ready (rs := [12]) (by kernel_rfl) (by simp) (AllReadyH.cons (o := _) rfl (fun K hK => ?_) AllReadyH.nil)
    go_simp
    refine hK.out _ _ hHeld (fun hHeld => ?_)
    clear hK K
    try simp only [Act.put]
    try simp only [List.setIfInBounds_toArray]
    try simp only [List.set_cons_succ]
    try simp only [List.set_cons_zero]
    refine wpAnyH_done (by kernel_rfl) ?_ _
    all_goals go_wp2
    all_goals go_ret
    all_goals exact ⟨by simp, HQ2.out.1⟩
  · go_region_held3 (fun u => u.cell? ⟨w.heap.size, 0, none⟩ = some (.func (.func 64) #[] #[]) ∧ u.cell? ⟨w.heap.size, 1, none⟩ = some (.func (.func 65) #[] #[]) ∧ u.cell? ⟨w.heap.size + 1, 0, none⟩ = some (.int .i64 k) ∧ u.cell? ⟨w.heap.size + 1, 1, none⟩ = some (.int .u32 bo) ∧ u.cell? ⟨w.heap.size + 1, 2, none⟩ = some (.int .i64 fi) ∧ u.cell? ⟨w.heap.size + 1, 3, none⟩ = some (.int .u32 su) ∧ u.cell? ⟨w.heap.size + 1, 4, none⟩ = some (.int .i64 si) ∧ u.cell? ⟨w.heap.size + 1, 5, none⟩ = some (.int .i64 ap) ∧ u.cell? ⟨w.heap.size + 1, 6, none⟩ = some (.int .i64 bd) ∧ u.cell? ⟨w.heap.size + 1, 7, none⟩ = some (.int .i64 ix) ∧ u.cell? ⟨w.heap.size + 1, 8, none⟩ = some (.int .i64 pa) ∧ u.cell? ⟨w.heap.size + 1, 9, none⟩ = some (.int .i64 co) ∧ u.cell? ⟨w.heap.size + 1, 10, none⟩ = some (.slice ra rn rc) ∧ u.cell? ⟨w.heap.size + 1, 11, none⟩ = some (.slice da dn dc))
      (first | (with_reducible exact ⟨by with_reducible assumption, by with_reducible assumption, by with_reducible assumption, by with_reducible assumption, by with_reducible assumption, by with_reducible assumption, by with_reducible assumption, by with_reducible assumption, by with_reducible assumption, by with_reducible assumption, by with_reducible assumption, by with_reducible assumption, by with_reducible assumption, by with_reducible assumption⟩) | go_keep) (first
      | (go_at_call 64; (with_reducible refine Calls.mono (C1.out _ HQ0.out) ?_); rintro e x1 ⟨rfl, q1⟩; have HQ1 : Hid (QK w #[.func (.func 64) #[] #[], .func (.func 65) #[] #[], .func (.func 67) #[] #[], .func (.func 68) #[] #[]] #[.int .i64 k, .int .u32 bo, .int .i64 fi, .int .u32 su, .int .i64 si, .int .i64 ap, .int .i64 bd, .int .i64 ix, .int .i64 pa, .int .i64 co, .slice ra rn rc, .slice da dn dc] x1) := q1; obtain ⟨ek0, ek1, ek2, ek3⟩ := kd_cells q1.2.1; obtain ⟨em0, em1, em2, em3, em4, em5, em6, em7, em8, em9, em10, em11⟩ := twelve_cells q1.2.2; clear q1)
      | (go_at_call 40; (with_reducible refine Calls.mono (C2.out _ HQ1.out) ?_); rintro e x2 ⟨rfl, q2⟩; have HQ2 : Hid (QK w #[.func (.func 64) #[] #[], .func (.func 65) #[] #[], .func (.func 67) #[] #[], .func (.func 68) #[] #[]] #[.int .i64 k, .int .u32 bo, .int .i64 fi, .int .u32 su, .int .i64 si, .int .i64 ap, .int .i64 bd, .int .i64 ix, .int .i64 pa, .int .i64 co, .slice ra rn rc, .slice da dn dc] x2) := q2; obtain ⟨fk0, fk1, fk2, fk3⟩ := kd_cells q2.2.1; obtain ⟨fm0, fm1, fm2, fm3, fm4, fm5, fm6, fm7, fm8, fm9, fm10, fm11⟩ := twelve_cells q2.2.2; clear q2)
      | (go_at_call 65; (with_reducible refine Calls.mono (C3.out _ HQ2.out) ?_); rintro e x3 ⟨rfl, q3⟩; have HQ3 : Hid (QK w #[.func (.func 64) #[] #[], .func (.func 65) #[] #[], .func (.func 67) #[] #[], .func (.func 68) #[] #[]] #[.int .i64 k, .int .u32 bo, .int .i64 fi, .int .u32 su, .int .i64 si, .int .i64 ap, .int .i64 bd, .int .i64 ix, .int .i64 pa, .int .i64 co, .slice ra rn rc, .slice da dn dc] x3) := q3; obtain ⟨gk0, gk1, gk2, gk3⟩ := kd_cells q3.2.1; obtain ⟨gm0, gm1, gm2, gm3, gm4, gm5, gm6, gm7, gm8, gm9, gm10, gm11⟩ := twelve_cells q3.2.2; clear q3)
      | fail)
    go_wp2
    go_ret
    exact ⟨by simp, HQ3.out.1⟩
def my_ack (m : Ms) (G : List (Int × Int)) : Bool := sameM m (on_ack m) && bn_ack m G
set_option maxHeartbeats 6400000 in
theorem may_ack (m : Ms) (G : List (Int × Int)) (D : List Int) (w : World) (hm : MsM w m G D) : Calls Try.prog 18 #[kd_ack, m.V] w fun e w' => e = .returned (.bool (my_ack m G)) ∧ Below w.heap.size w w' := by
  have HQ : Hid (QK w #[.func (.func 70) #[] #[], .func (.func 71) #[] #[], .func (.func 73) #[] #[], .func (.func 74) #[] #[]] m.c12 _) := QK.box w #[.func (.func 70) #[] #[], .func (.func 71) #[] #[], .func (.func 73) #[] #[], .func (.func 74) #[] #[]] m.c12
  have hdn : m.dn ≤ 140737488355328 := by have := hm.d.2.2.2.1; omega
  have C1 : Hid (∀ u, QK w #[.func (.func 70) #[] #[], .func (.func 71) #[] #[], .func (.func 73) #[] #[], .func (.func 74) #[] #[]] m.c12 u → Calls Try.prog 70 #[m.V] u fun e w' => e = .returned (on_ack m).V ∧ QK w #[.func (.func 70) #[] #[], .func (.func 71) #[] #[], .func (.func 73) #[] #[], .func (.func 74) #[] #[]] m.c12 w') := fun u h => (only_ack m u).mono fun e w' q => ⟨q.1, h.old q.2⟩
  have C2 : Hid (∀ u, QK w #[.func (.func 70) #[] #[], .func (.func 71) #[] #[], .func (.func 73) #[] #[], .func (.func 74) #[] #[]] m.c12 u → Calls Try.prog 40 #[m.V, (on_ack m).V] u fun e w' => e = .returned (.bool (sameM m (on_ack m))) ∧ QK w #[.func (.func 70) #[] #[], .func (.func 71) #[] #[], .func (.func 73) #[] #[], .func (.func 74) #[] #[]] m.c12 w') := fun u h => (same_any_m m (on_ack m) u ⟨hm.rb, by have := hm.rb; unfold on_ack; simp only; omega⟩ ⟨hdn, by unfold on_ack; simp only; omega⟩).mono fun e w' q => ⟨q.1, h.old q.2⟩
  have C3 : Hid (∀ u, QK w #[.func (.func 70) #[] #[], .func (.func 71) #[] #[], .func (.func 73) #[] #[], .func (.func 74) #[] #[]] m.c12 u → Calls Try.prog 71 #[m.V] u fun e w' => e = .returned (.bool (bn_ack m G)) ∧ QK w #[.func (.func 70) #[] #[], .func (.func 71) #[] #[], .func (.func 73) #[] #[], .func (.func 74) #[] #[]] m.c12 w') := fun u h => (bounds_ack m G D u (hm.old h.1)).mono fun e w' q => ⟨q.1, h.old q.2⟩
  unfold my_ack
  obtain ⟨S, hS⟩ : ∃ S, sameM m (on_ack m) = S := ⟨_, rfl⟩
  obtain ⟨N, hN⟩ : ∃ N, bn_ack m G = N := ⟨_, rfl⟩
  rw [hS] at C2 ⊢
  rw [hN] at C3 ⊢
  clear hS hN hm hdn
  obtain ⟨k, bo, fi, su, si, ap, bd, ix, pa, co, ra, rn, rc, da, dn, dc⟩ := m
  unfold on_ack at *
  unfold Ms.V at *
  unfold Ms.c12 at *
  simp only at *
  unfold kd_ack fnv
  go_enter Try.func18, Try.ntmps18
  have q0 := HQ.out.2
  obtain ⟨a0, a1, a2, a3⟩ := kd_cells q0.1
  obtain ⟨d0, d1, d2, d3, d4, d5, d6, d7, d8, d9, d10, d11⟩ := twelve_cells q0.2
  clear q0
  have HQ0 : Hid (QK w #[.func (.func 70) #[] #[], .func (.func 71) #[] #[], .func (.func 73) #[] #[], .func (.func 74) #[] #[]] #[.int .i64 k, .int .u32 bo, .int .i64 fi, .int .u32 su, .int .i64 si, .int .i64 ap, .int .i64 bd, .int .i64 ix, .int .i64 pa, .int .i64 co, .slice ra rn rc, .slice da dn dc] ((w.alloc (.cells #[.func (.func 70) #[] #[], .func (.func 71) #[] #[], .func (.func 73) #[] #[], .func (.func 74) #[] #[]] 45)).alloc (.cells #[.int .i64 k, .int .u32 bo, .int .i64 fi, .int .u32 su, .int .i64 si, .int .i64 ap, .int .i64 bd, .int .i64 ix, .int .i64 pa, .int .i64 co, .slice ra rn rc, .slice da dn dc] 26)).drew) := HQ.out.old ⟨rfl, rfl, rfl, Nat.le_refl _, fun _ _ => rfl⟩
  go_upto_region 1 with fail
  cases S
  · refine wp_region_held_drew (S := fun u => u.cell? ⟨w.heap.size, 0, none⟩ = some (.func (.func 70) #[] #[]) ∧ u.cell? ⟨w.heap.size, 1, none⟩ = some (.func (.func 71) #[] #[]) ∧ u.cell? ⟨w.heap.size + 1, 0, none⟩ = some (.int .i64 k) ∧ u.cell? ⟨w.heap.size + 1, 1, none⟩ = some (.int .u32 bo) ∧ u.cell? ⟨w.heap.size + 1, 2, none⟩ = some (.int .i64 fi) ∧ u.cell? ⟨w.heap.size + 1, 3, none⟩ = some (.int .u32 su) ∧ u.cell? ⟨w.heap.size + 1, 4, none⟩ = some (.int .i64 si) ∧ u.cell? ⟨w.heap.size + 1, 5, none⟩ = some (.int .i64 ap) ∧ u.cell? ⟨w.heap.size + 1, 6, none⟩ = some (.int .i64 bd) ∧ u.cell? ⟨w.heap.size + 1, 7, none⟩ = some (.int .i64 ix) ∧ u.cell? ⟨w.heap.size + 1, 8, none⟩ = some (.int .i64 pa) ∧ u.cell? ⟨w.heap.size + 1, 9, none⟩ = some (.int .i64 co) ∧ u.cell? ⟨w.heap.size + 1, 10, none⟩ = some (.slice ra rn rc) ∧ u.cell? ⟨w.heap.size + 1, 11, none⟩ = some (.slice da dn dc)) (by kernel_rfl) ?_ (fun hHeld => ?_)
    · obtain ⟨z0, z1, z2, z3⟩ := kd_cells HQ0.out.2.1
      obtain ⟨y0, y1, y2, y3, y4, y5, y6, y7, y8, y9, y10, y11⟩ := twelve_cells HQ0.out.2.2
      with_reducible exact ⟨by with_reducible assumption, by with_reducible assumption, by with_reducible assumption, by with_reducible assumption, by with_reducible assumption, by with_reducible assumption, by with_reducible assumption, by with_reducible assumption, by with_reducible assumption, by with_reducible assumption, by with_reducible assumption, by with_reducible assumption, by with_reducible assumption, by with_reducible assumption⟩
    refine wpAnyH_take (i := 0) (v := .agg #[.int .i64 k, .int .u32 bo, .int .i64 fi, .int .u32 su, .int .i64 si, .int .i64 ap, .int .i64 bd, .int .i64 ix, .int .i64 pa, .int .i64 co, .slice ra rn rc, .slice da dn dc]) rfl (by kernel_rfl) (by kernel_rfl) (by kernel_rfl) (fun _ _ _ h => h) (Or.inl ⟨by rfl, ?_⟩) hHeld ?_
    · intro wq hSw
      try dsimp only at hSw
      go_simp
    try simp only [Act.put]
    try simp only [List.setIfInBounds_toArray]
    try simp only [List.set_cons_succ]
    try simp only [List.set_cons_zero]
    refine wpAnyH_take (i := 1) (v := .pointer (some ⟨w.heap.size, 0, none⟩)) rfl (by kernel_rfl) (by kernel_rfl) (by kernel_rfl) (fun _ _ _ h => h) (Or.inl ⟨by rfl, ?_⟩) hHeld ?_
    · intro wq hSw
      try dsimp only at hSw
      go_simp
    try simp only [Act.put]
    try simp only [List.setIfInBounds_toArray]
    try simp only [List.set_cons_succ]
    try simp only [List.set_cons_zero]
    refine wpAnyH_take (i := 2) (v := .func (.func 70) #[] #[]) rfl (by kernel_rfl) (by kernel_rfl) (by kernel_rfl) (fun _ _ _ h => h) (Or.inl ⟨by rfl, ?_⟩) hHeld ?_
    · intro wq hSw
      try dsimp only at hSw
      go_simp
    try simp only [Act.put]
    try simp only [List.setIfInBounds_toArray]
    try simp only [List.set_cons_succ]
    try simp only [List.set_cons_zero]
    refine wpAnyH_take (i := 3) (v := .agg #[.int .i64 k, .int .u32 bo, .int .i64 fi, .int .u32 su, .int .i64 si, .int .i64 ap, .int .i64 bd, .int .i64 ix, .int .i64 pa, .int .i64 co, .slice ra rn rc, .slice da dn dc]) rfl (by kernel_rfl) (by kernel_rfl) (by kernel_rfl) (fun _ _ _ h => h) (Or.inl ⟨by rfl, ?_⟩) hHeld ?_
    · intro wq hSw
      try dsimp only at hSw
      go_simp
    try simp only [Act.put]
    try simp only [List.setIfInBounds_toArray]
    try simp only [List.set_cons_succ]
    try simp only [List.set_cons_zero]
    refine wpAnyH_ready (rs := [4]) (by kernel_rfl) (by simp) (AllReadyH.cons (o := _) rfl (fun K hK => ?_) AllReadyH.nil)
    go_simp
    (go_at_call 70; (with_reducible refine Calls.mono (C1.out _ HQ0.out) ?_); rintro e x1 ⟨rfl, q1⟩; have HQ1 : Hid (QK w #[.func (.func 70) #[] #[], .func (.func 71) #[] #[], .func (.func 73) #[] #[], .func (.func 74) #[] #[]] #[.int .i64 k, .int .u32 bo, .int .i64 fi, .int .u32 su, .int .i64 si, .int .i64 ap, .int .i64 bd, .int .i64 ix, .int .i64 pa, .int .i64 co, .slice ra rn rc, .slice da dn dc] x1) := q1; obtain ⟨ek0, ek1, ek2, ek3⟩ := kd_cells q1.2.1; obtain ⟨em0, em1, em2, em3, em4, em5, em6, em7, em8, em9, em10, em11⟩ := twelve_cells q1.2.2; clear q1)
    go_wp2_with fail
    refine hK.out _ _ ?_ (fun hHeld => ?_)
    · with_reducible exact ⟨by with_reducible assumption, by with_reducible assumption, by with_reducible assumption, by with_reducible assumption, by with_reducible assumption, by with_reducible assumption, by with_reducible assumption, by with_reducible assumption, by with_reducible assumption, by with_reducible assumption, by with_reducible assumption, by with_reducible assumption, by with_reducible assumption, by with_reducible assumption⟩
    clear hK K
    try simp only [Act.put]
    try simp only [List.setIfInBounds_toArray]
    try simp only [List.set_cons_succ]
    try simp only [List.set_cons_zero]
    refine wpAnyH_ready (rs := [5]) (by kernel_rfl) (by simp) (AllReadyH.cons (o := _) rfl (fun K hK => ?_) AllReadyH.nil)
    go_simp
    (go_at_call 40; (with_reducible refine Calls.mono (C2.out _ HQ1.out) ?_); rintro e x2 ⟨rfl, q2⟩; have HQ2 : Hid (QK w #[.func (.func 70) #[] #[], .func (.func 71) #[] #[], .func (.func 73) #[] #[], .func (.func 74) #[] #[]] #[.int .i64 k, .int .u32 bo, .int .i64 fi, .int .u32 su, .int .i64 si, .int .i64 ap, .int .i64 bd, .int .i64 ix, .int .i64 pa, .int .i64 co, .slice ra rn rc, .slice da dn dc] x2) := q2; obtain ⟨fk0, fk1, fk2, fk3⟩ := kd_cells q2.2.1; obtain ⟨fm0, fm1, fm2, fm3, fm4, fm5, fm6, fm7, fm8, fm9, fm10, fm11⟩ := twelve_cells q2.2.2; clear q2)
    go_wp2_with fail
    refine hK.out _ _ ?_ (fun hHeld => ?_)
    · with_reducible exact ⟨by with_reducible assumption, by with_reducible assumption, by with_reducible assumption, by with_reducible assumption, by with_reducible assumption, by with_reducible assumption, by with_reducible assumption, by with_reducible assumption, by with_reducible assumption, by with_reducible assumption, by with_reducible assumption, by with_reducible assumption, by with_reducible assumption, by with_reducible assumption⟩
    clear hK K
    try simp only [Act.put]
    try simp only [List.setIfInBounds_toArray]
    try simp only [List.set_cons_succ]
    try simp only [List.set_cons_zero]
    refine wpAnyH_take (i := 6) (v := .bool false) rfl (by kernel_rfl) (by kernel_rfl) (by kernel_rfl) (fun _ _ _ h => h) (Or.inl ⟨by rfl, ?_⟩) hHeld ?_
    · intro wq hSw
      try dsimp only at hSw
      go_simp
    try simp only [Act.put]
    try simp only [List.setIfInBounds_toArray]
    try simp only [List.set_cons_succ]
    try simp only [List.set_cons_zero]
    refine wpAnyH_take (i := 7) (v := undef) rfl (by kernel_rfl) (by kernel_rfl) (by kernel_rfl) (fun _ _ _ h => h) (Or.inr ⟨by rfl, rfl⟩) hHeld ?_
    try simp only [Act.put]
    try simp only [List.setIfInBounds_toArray]
    try simp only [List.set_cons_succ]
    try simp only [List.set_cons_zero]
    refine wpAnyH_take (i := 8) (v := undef) rfl (by kernel_rfl) (by kernel_rfl) (by kernel_rfl) (fun _ _ _ h => h) (Or.inr ⟨by rfl, rfl⟩) hHeld ?_
    try simp only [Act.put]
    try simp only [List.setIfInBounds_toArray]
    try simp only [List.set_cons_succ]
    try simp only [List.set_cons_zero]
    refine wpAnyH_take (i := 9) (v := undef) rfl (by kernel_rfl) (by kernel_rfl) (by kernel_rfl) (fun _ _ _ h => h) (Or.inr ⟨by rfl, rfl⟩) hHeld ?_
    try simp only [Act.put]
    try simp only [List.setIfInBounds_toArray]
    try simp only [List.set_cons_succ]
    try simp only [List.set_cons_zero]
    refine wpAnyH_take (i := 10) (v := undef) rfl (by kernel_rfl) (by kernel_rfl) (by kernel_rfl) (fun _ _ _ h => h) (Or.inr ⟨by rfl, rfl⟩) hHeld ?_
    try simp only [Act.put]
    try simp only [List.setIfInBounds_toArray]
    try simp only [List.set_cons_succ]
    try simp only [List.set_cons_zero]
    refine wpAnyH_take (i := 11) (v := .bool false) rfl (by kernel_rfl) (by kernel_rfl) (by kernel_rfl) (fun _ _ _ h => h) (Or.inl ⟨by rfl, ?_⟩) hHeld ?_
    · intro wq hSw
      try dsimp only at hSw
      go_simp
    try simp only [Act.put]
    try simp only [List.setIfInBounds_toArray]
    try simp only [List.set_cons_succ]
    try simp only [List.set_cons_zero]
    refine wpAnyH_ready (rs := [12]) (by kernel_rfl) (by simp) (AllReadyH.cons (o := _) rfl (fun K hK => ?_) AllReadyH.nil)
    go_simp
    refine hK.out _ _ hHeld (fun hHeld => ?_)
    clear hK K
    try simp only [Act.put]
    try simp only [List.setIfInBounds_toArray]
    try simp only [List.set_cons_succ]
    try simp only [List.set_cons_zero]
    refine wpAnyH_done (by kernel_rfl) ?_ _
    all_goals go_wp2
    all_goals go_ret
    all_goals exact ⟨by simp, HQ2.out.1⟩
  · go_region_held3 (fun u => u.cell? ⟨w.heap.size, 0, none⟩ = some (.func (.func 70) #[] #[]) ∧ u.cell? ⟨w.heap.size, 1, none⟩ = some (.func (.func 71) #[] #[]) ∧ u.cell? ⟨w.heap.size + 1, 0, none⟩ = some (.int .i64 k) ∧ u.cell? ⟨w.heap.size + 1, 1, none⟩ = some (.int .u32 bo) ∧ u.cell? ⟨w.heap.size + 1, 2, none⟩ = some (.int .i64 fi) ∧ u.cell? ⟨w.heap.size + 1, 3, none⟩ = some (.int .u32 su) ∧ u.cell? ⟨w.heap.size + 1, 4, none⟩ = some (.int .i64 si) ∧ u.cell? ⟨w.heap.size + 1, 5, none⟩ = some (.int .i64 ap) ∧ u.cell? ⟨w.heap.size + 1, 6, none⟩ = some (.int .i64 bd) ∧ u.cell? ⟨w.heap.size + 1, 7, none⟩ = some (.int .i64 ix) ∧ u.cell? ⟨w.heap.size + 1, 8, none⟩ = some (.int .i64 pa) ∧ u.cell? ⟨w.heap.size + 1, 9, none⟩ = some (.int .i64 co) ∧ u.cell? ⟨w.heap.size + 1, 10, none⟩ = some (.slice ra rn rc) ∧ u.cell? ⟨w.heap.size + 1, 11, none⟩ = some (.slice da dn dc))
      (first | (with_reducible exact ⟨by with_reducible assumption, by with_reducible assumption, by with_reducible assumption, by with_reducible assumption, by with_reducible assumption, by with_reducible assumption, by with_reducible assumption, by with_reducible assumption, by with_reducible assumption, by with_reducible assumption, by with_reducible assumption, by with_reducible assumption, by with_reducible assumption, by with_reducible assumption⟩) | go_keep) (first
      | (go_at_call 70; (with_reducible refine Calls.mono (C1.out _ HQ0.out) ?_); rintro e x1 ⟨rfl, q1⟩; have HQ1 : Hid (QK w #[.func (.func 70) #[] #[], .func (.func 71) #[] #[], .func (.func 73) #[] #[], .func (.func 74) #[] #[]] #[.int .i64 k, .int .u32 bo, .int .i64 fi, .int .u32 su, .int .i64 si, .int .i64 ap, .int .i64 bd, .int .i64 ix, .int .i64 pa, .int .i64 co, .slice ra rn rc, .slice da dn dc] x1) := q1; obtain ⟨ek0, ek1, ek2, ek3⟩ := kd_cells q1.2.1; obtain ⟨em0, em1, em2, em3, em4, em5, em6, em7, em8, em9, em10, em11⟩ := twelve_cells q1.2.2; clear q1)
      | (go_at_call 40; (with_reducible refine Calls.mono (C2.out _ HQ1.out) ?_); rintro e x2 ⟨rfl, q2⟩; have HQ2 : Hid (QK w #[.func (.func 70) #[] #[], .func (.func 71) #[] #[], .func (.func 73) #[] #[], .func (.func 74) #[] #[]] #[.int .i64 k, .int .u32 bo, .int .i64 fi, .int .u32 su, .int .i64 si, .int .i64 ap, .int .i64 bd, .int .i64 ix, .int .i64 pa, .int .i64 co, .slice ra rn rc, .slice da dn dc] x2) := q2; obtain ⟨fk0, fk1, fk2, fk3⟩ := kd_cells q2.2.1; obtain ⟨fm0, fm1, fm2, fm3, fm4, fm5, fm6, fm7, fm8, fm9, fm10, fm11⟩ := twelve_cells q2.2.2; clear q2)
      | (go_at_call 71; (with_reducible refine Calls.mono (C3.out _ HQ2.out) ?_); rintro e x3 ⟨rfl, q3⟩; have HQ3 : Hid (QK w #[.func (.func 70) #[] #[], .func (.func 71) #[] #[], .func (.func 73) #[] #[], .func (.func 74) #[] #[]] #[.int .i64 k, .int .u32 bo, .int .i64 fi, .int .u32 su, .int .i64 si, .int .i64 ap, .int .i64 bd, .int .i64 ix, .int .i64 pa, .int .i64 co, .slice ra rn rc, .slice da dn dc] x3) := q3; obtain ⟨gk0, gk1, gk2, gk3⟩ := kd_cells q3.2.1; obtain ⟨gm0, gm1, gm2, gm3, gm4, gm5, gm6, gm7, gm8, gm9, gm10, gm11⟩ := twelve_cells q3.2.2; clear q3)
      | fail)
    go_wp2
    go_ret
    exact ⟨by simp, HQ3.out.1⟩
def my_no (m : Ms) (_G : List (Int × Int)) : Bool := sameM m (on_no m) && bn_no m
set_option maxHeartbeats 6400000 in
theorem may_no (m : Ms) (G : List (Int × Int)) (D : List Int) (w : World) (hm : MsM w m G D) : Calls Try.prog 18 #[kd_no, m.V] w fun e w' => e = .returned (.bool (my_no m G)) ∧ Below w.heap.size w w' := by
  have HQ : Hid (QK w #[.func (.func 75) #[] #[], .func (.func 76) #[] #[], .func (.func 77) #[] #[], .func (.func 78) #[] #[]] m.c12 _) := QK.box w #[.func (.func 75) #[] #[], .func (.func 76) #[] #[], .func (.func 77) #[] #[], .func (.func 78) #[] #[]] m.c12
  have hdn : m.dn ≤ 140737488355328 := by have := hm.d.2.2.2.1; omega
  have C1 : Hid (∀ u, QK w #[.func (.func 75) #[] #[], .func (.func 76) #[] #[], .func (.func 77) #[] #[], .func (.func 78) #[] #[]] m.c12 u → Calls Try.prog 75 #[m.V] u fun e w' => e = .returned (on_no m).V ∧ QK w #[.func (.func 75) #[] #[], .func (.func 76) #[] #[], .func (.func 77) #[] #[], .func (.func 78) #[] #[]] m.c12 w') := fun u h => (only_no m u).mono fun e w' q => ⟨q.1, h.old q.2⟩
  have C2 : Hid (∀ u, QK w #[.func (.func 75) #[] #[], .func (.func 76) #[] #[], .func (.func 77) #[] #[], .func (.func 78) #[] #[]] m.c12 u → Calls Try.prog 40 #[m.V, (on_no m).V] u fun e w' => e = .returned (.bool (sameM m (on_no m))) ∧ QK w #[.func (.func 75) #[] #[], .func (.func 76) #[] #[], .func (.func 77) #[] #[], .func (.func 78) #[] #[]] m.c12 w') := fun u h => (same_any_m m (on_no m) u ⟨hm.rb, by have := hm.rb; unfold on_no; simp only; omega⟩ ⟨hdn, by unfold on_no; simp only; omega⟩).mono fun e w' q => ⟨q.1, h.old q.2⟩
  have C3 : Hid (∀ u, QK w #[.func (.func 75) #[] #[], .func (.func 76) #[] #[], .func (.func 77) #[] #[], .func (.func 78) #[] #[]] m.c12 u → Calls Try.prog 76 #[m.V] u fun e w' => e = .returned (.bool (bn_no m)) ∧ QK w #[.func (.func 75) #[] #[], .func (.func 76) #[] #[], .func (.func 77) #[] #[], .func (.func 78) #[] #[]] m.c12 w') := fun u h => (bounds_no m u hdn).mono fun e w' q => ⟨q.1, h.old q.2⟩
  unfold my_no
  obtain ⟨S, hS⟩ : ∃ S, sameM m (on_no m) = S := ⟨_, rfl⟩
  obtain ⟨N, hN⟩ : ∃ N, bn_no m = N := ⟨_, rfl⟩
  rw [hS] at C2 ⊢
  rw [hN] at C3 ⊢
  clear hS hN hm hdn
  obtain ⟨k, bo, fi, su, si, ap, bd, ix, pa, co, ra, rn, rc, da, dn, dc⟩ := m
  unfold on_no at *
  unfold Ms.V at *
  unfold Ms.c12 at *
  simp only at *
  unfold kd_no fnv
  go_enter Try.func18, Try.ntmps18
  have q0 := HQ.out.2
  obtain ⟨a0, a1, a2, a3⟩ := kd_cells q0.1
  obtain ⟨d0, d1, d2, d3, d4, d5, d6, d7, d8, d9, d10, d11⟩ := twelve_cells q0.2
  clear q0
  have HQ0 : Hid (QK w #[.func (.func 75) #[] #[], .func (.func 76) #[] #[], .func (.func 77) #[] #[], .func (.func 78) #[] #[]] #[.int .i64 k, .int .u32 bo, .int .i64 fi, .int .u32 su, .int .i64 si, .int .i64 ap, .int .i64 bd, .int .i64 ix, .int .i64 pa, .int .i64 co, .slice ra rn rc, .slice da dn dc] ((w.alloc (.cells #[.func (.func 75) #[] #[], .func (.func 76) #[] #[], .func (.func 77) #[] #[], .func (.func 78) #[] #[]] 45)).alloc (.cells #[.int .i64 k, .int .u32 bo, .int .i64 fi, .int .u32 su, .int .i64 si, .int .i64 ap, .int .i64 bd, .int .i64 ix, .int .i64 pa, .int .i64 co, .slice ra rn rc, .slice da dn dc] 26)).drew) := HQ.out.old ⟨rfl, rfl, rfl, Nat.le_refl _, fun _ _ => rfl⟩
  go_upto_region 1 with fail
  cases S
  · refine wp_region_held_drew (S := fun u => u.cell? ⟨w.heap.size, 0, none⟩ = some (.func (.func 75) #[] #[]) ∧ u.cell? ⟨w.heap.size, 1, none⟩ = some (.func (.func 76) #[] #[]) ∧ u.cell? ⟨w.heap.size + 1, 0, none⟩ = some (.int .i64 k) ∧ u.cell? ⟨w.heap.size + 1, 1, none⟩ = some (.int .u32 bo) ∧ u.cell? ⟨w.heap.size + 1, 2, none⟩ = some (.int .i64 fi) ∧ u.cell? ⟨w.heap.size + 1, 3, none⟩ = some (.int .u32 su) ∧ u.cell? ⟨w.heap.size + 1, 4, none⟩ = some (.int .i64 si) ∧ u.cell? ⟨w.heap.size + 1, 5, none⟩ = some (.int .i64 ap) ∧ u.cell? ⟨w.heap.size + 1, 6, none⟩ = some (.int .i64 bd) ∧ u.cell? ⟨w.heap.size + 1, 7, none⟩ = some (.int .i64 ix) ∧ u.cell? ⟨w.heap.size + 1, 8, none⟩ = some (.int .i64 pa) ∧ u.cell? ⟨w.heap.size + 1, 9, none⟩ = some (.int .i64 co) ∧ u.cell? ⟨w.heap.size + 1, 10, none⟩ = some (.slice ra rn rc) ∧ u.cell? ⟨w.heap.size + 1, 11, none⟩ = some (.slice da dn dc)) (by kernel_rfl) ?_ (fun hHeld => ?_)
    · obtain ⟨z0, z1, z2, z3⟩ := kd_cells HQ0.out.2.1
      obtain ⟨y0, y1, y2, y3, y4, y5, y6, y7, y8, y9, y10, y11⟩ := twelve_cells HQ0.out.2.2
      with_reducible exact ⟨by with_reducible assumption, by with_reducible assumption, by with_reducible assumption, by with_reducible assumption, by with_reducible assumption, by with_reducible assumption, by with_reducible assumption, by with_reducible assumption, by with_reducible assumption, by with_reducible assumption, by with_reducible assumption, by with_reducible assumption, by with_reducible assumption, by with_reducible assumption⟩
    refine wpAnyH_take (i := 0) (v := .agg #[.int .i64 k, .int .u32 bo, .int .i64 fi, .int .u32 su, .int .i64 si, .int .i64 ap, .int .i64 bd, .int .i64 ix, .int .i64 pa, .int .i64 co, .slice ra rn rc, .slice da dn dc]) rfl (by kernel_rfl) (by kernel_rfl) (by kernel_rfl) (fun _ _ _ h => h) (Or.inl ⟨by rfl, ?_⟩) hHeld ?_
    · intro wq hSw
      try dsimp only at hSw
      go_simp
    try simp only [Act.put]
    try simp only [List.setIfInBounds_toArray]
    try simp only [List.set_cons_succ]
    try simp only [List.set_cons_zero]
    refine wpAnyH_take (i := 1) (v := .pointer (some ⟨w.heap.size, 0, none⟩)) rfl (by kernel_rfl) (by kernel_rfl) (by kernel_rfl) (fun _ _ _ h => h) (Or.inl ⟨by rfl, ?_⟩) hHeld ?_
    · intro wq hSw
      try dsimp only at hSw
      go_simp
    try simp only [Act.put]
    try simp only [List.setIfInBounds_toArray]
    try simp only [List.set_cons_succ]
    try simp only [List.set_cons_zero]
    refine wpAnyH_take (i := 2) (v := .func (.func 75) #[] #[]) rfl (by kernel_rfl) (by kernel_rfl) (by kernel_rfl) (fun _ _ _ h => h) (Or.inl ⟨by rfl, ?_⟩) hHeld ?_
    · intro wq hSw
      try dsimp only at hSw
      go_simp
    try simp only [Act.put]
    try simp only [List.setIfInBounds_toArray]
    try simp only [List.set_cons_succ]
    try simp only [List.set_cons_zero]
    refine wpAnyH_take (i := 3) (v := .agg #[.int .i64 k, .int .u32 bo, .int .i64 fi, .int .u32 su, .int .i64 si, .int .i64 ap, .int .i64 bd, .int .i64 ix, .int .i64 pa, .int .i64 co, .slice ra rn rc, .slice da dn dc]) rfl (by kernel_rfl) (by kernel_rfl) (by kernel_rfl) (fun _ _ _ h => h) (Or.inl ⟨by rfl, ?_⟩) hHeld ?_
    · intro wq hSw
      try dsimp only at hSw
      go_simp
    try simp only [Act.put]
    try simp only [List.setIfInBounds_toArray]
    try simp only [List.set_cons_succ]
    try simp only [List.set_cons_zero]
    refine wpAnyH_ready (rs := [4]) (by kernel_rfl) (by simp) (AllReadyH.cons (o := _) rfl (fun K hK => ?_) AllReadyH.nil)
    go_simp
    (go_at_call 75; (with_reducible refine Calls.mono (C1.out _ HQ0.out) ?_); rintro e x1 ⟨rfl, q1⟩; have HQ1 : Hid (QK w #[.func (.func 75) #[] #[], .func (.func 76) #[] #[], .func (.func 77) #[] #[], .func (.func 78) #[] #[]] #[.int .i64 k, .int .u32 bo, .int .i64 fi, .int .u32 su, .int .i64 si, .int .i64 ap, .int .i64 bd, .int .i64 ix, .int .i64 pa, .int .i64 co, .slice ra rn rc, .slice da dn dc] x1) := q1; obtain ⟨ek0, ek1, ek2, ek3⟩ := kd_cells q1.2.1; obtain ⟨em0, em1, em2, em3, em4, em5, em6, em7, em8, em9, em10, em11⟩ := twelve_cells q1.2.2; clear q1)
    go_wp2_with fail
    refine hK.out _ _ ?_ (fun hHeld => ?_)
    · with_reducible exact ⟨by with_reducible assumption, by with_reducible assumption, by with_reducible assumption, by with_reducible assumption, by with_reducible assumption, by with_reducible assumption, by with_reducible assumption, by with_reducible assumption, by with_reducible assumption, by with_reducible assumption, by with_reducible assumption, by with_reducible assumption, by with_reducible assumption, by with_reducible assumption⟩
    clear hK K
    try simp only [Act.put]
    try simp only [List.setIfInBounds_toArray]
    try simp only [List.set_cons_succ]
    try simp only [List.set_cons_zero]
    refine wpAnyH_ready (rs := [5]) (by kernel_rfl) (by simp) (AllReadyH.cons (o := _) rfl (fun K hK => ?_) AllReadyH.nil)
    go_simp
    (go_at_call 40; (with_reducible refine Calls.mono (C2.out _ HQ1.out) ?_); rintro e x2 ⟨rfl, q2⟩; have HQ2 : Hid (QK w #[.func (.func 75) #[] #[], .func (.func 76) #[] #[], .func (.func 77) #[] #[], .func (.func 78) #[] #[]] #[.int .i64 k, .int .u32 bo, .int .i64 fi, .int .u32 su, .int .i64 si, .int .i64 ap, .int .i64 bd, .int .i64 ix, .int .i64 pa, .int .i64 co, .slice ra rn rc, .slice da dn dc] x2) := q2; obtain ⟨fk0, fk1, fk2, fk3⟩ := kd_cells q2.2.1; obtain ⟨fm0, fm1, fm2, fm3, fm4, fm5, fm6, fm7, fm8, fm9, fm10, fm11⟩ := twelve_cells q2.2.2; clear q2)
    go_wp2_with fail
    refine hK.out _ _ ?_ (fun hHeld => ?_)
    · with_reducible exact ⟨by with_reducible assumption, by with_reducible assumption, by with_reducible assumption, by with_reducible assumption, by with_reducible assumption, by with_reducible assumption, by with_reducible assumption, by with_reducible assumption, by with_reducible assumption, by with_reducible assumption, by with_reducible assumption, by with_reducible assumption, by with_reducible assumption, by with_reducible assumption⟩
    clear hK K
    try simp only [Act.put]
    try simp only [List.setIfInBounds_toArray]
    try simp only [List.set_cons_succ]
    try simp only [List.set_cons_zero]
    refine wpAnyH_take (i := 6) (v := .bool false) rfl (by kernel_rfl) (by kernel_rfl) (by kernel_rfl) (fun _ _ _ h => h) (Or.inl ⟨by rfl, ?_⟩) hHeld ?_
    · intro wq hSw
      try dsimp only at hSw
      go_simp
    try simp only [Act.put]
    try simp only [List.setIfInBounds_toArray]
    try simp only [List.set_cons_succ]
    try simp only [List.set_cons_zero]
    refine wpAnyH_take (i := 7) (v := undef) rfl (by kernel_rfl) (by kernel_rfl) (by kernel_rfl) (fun _ _ _ h => h) (Or.inr ⟨by rfl, rfl⟩) hHeld ?_
    try simp only [Act.put]
    try simp only [List.setIfInBounds_toArray]
    try simp only [List.set_cons_succ]
    try simp only [List.set_cons_zero]
    refine wpAnyH_take (i := 8) (v := undef) rfl (by kernel_rfl) (by kernel_rfl) (by kernel_rfl) (fun _ _ _ h => h) (Or.inr ⟨by rfl, rfl⟩) hHeld ?_
    try simp only [Act.put]
    try simp only [List.setIfInBounds_toArray]
    try simp only [List.set_cons_succ]
    try simp only [List.set_cons_zero]
    refine wpAnyH_take (i := 9) (v := undef) rfl (by kernel_rfl) (by kernel_rfl) (by kernel_rfl) (fun _ _ _ h => h) (Or.inr ⟨by rfl, rfl⟩) hHeld ?_
    try simp only [Act.put]
    try simp only [List.setIfInBounds_toArray]
    try simp only [List.set_cons_succ]
    try simp only [List.set_cons_zero]
    refine wpAnyH_take (i := 10) (v := undef) rfl (by kernel_rfl) (by kernel_rfl) (by kernel_rfl) (fun _ _ _ h => h) (Or.inr ⟨by rfl, rfl⟩) hHeld ?_
    try simp only [Act.put]
    try simp only [List.setIfInBounds_toArray]
    try simp only [List.set_cons_succ]
    try simp only [List.set_cons_zero]
    refine wpAnyH_take (i := 11) (v := .bool false) rfl (by kernel_rfl) (by kernel_rfl) (by kernel_rfl) (fun _ _ _ h => h) (Or.inl ⟨by rfl, ?_⟩) hHeld ?_
    · intro wq hSw
      try dsimp only at hSw
      go_simp
    try simp only [Act.put]
    try simp only [List.setIfInBounds_toArray]
    try simp only [List.set_cons_succ]
    try simp only [List.set_cons_zero]
    refine wpAnyH_ready (rs := [12]) (by kernel_rfl) (by simp) (AllReadyH.cons (o := _) rfl (fun K hK => ?_) AllReadyH.nil)
    go_simp
    refine hK.out _ _ hHeld (fun hHeld => ?_)
    clear hK K
    try simp only [Act.put]
    try simp only [List.setIfInBounds_toArray]
    try simp only [List.set_cons_succ]
    try simp only [List.set_cons_zero]
    refine wpAnyH_done (by kernel_rfl) ?_ _
    all_goals go_wp2
    all_goals go_ret
    all_goals exact ⟨by simp, HQ2.out.1⟩
  · go_region_held3 (fun u => u.cell? ⟨w.heap.size, 0, none⟩ = some (.func (.func 75) #[] #[]) ∧ u.cell? ⟨w.heap.size, 1, none⟩ = some (.func (.func 76) #[] #[]) ∧ u.cell? ⟨w.heap.size + 1, 0, none⟩ = some (.int .i64 k) ∧ u.cell? ⟨w.heap.size + 1, 1, none⟩ = some (.int .u32 bo) ∧ u.cell? ⟨w.heap.size + 1, 2, none⟩ = some (.int .i64 fi) ∧ u.cell? ⟨w.heap.size + 1, 3, none⟩ = some (.int .u32 su) ∧ u.cell? ⟨w.heap.size + 1, 4, none⟩ = some (.int .i64 si) ∧ u.cell? ⟨w.heap.size + 1, 5, none⟩ = some (.int .i64 ap) ∧ u.cell? ⟨w.heap.size + 1, 6, none⟩ = some (.int .i64 bd) ∧ u.cell? ⟨w.heap.size + 1, 7, none⟩ = some (.int .i64 ix) ∧ u.cell? ⟨w.heap.size + 1, 8, none⟩ = some (.int .i64 pa) ∧ u.cell? ⟨w.heap.size + 1, 9, none⟩ = some (.int .i64 co) ∧ u.cell? ⟨w.heap.size + 1, 10, none⟩ = some (.slice ra rn rc) ∧ u.cell? ⟨w.heap.size + 1, 11, none⟩ = some (.slice da dn dc))
      (first | (with_reducible exact ⟨by with_reducible assumption, by with_reducible assumption, by with_reducible assumption, by with_reducible assumption, by with_reducible assumption, by with_reducible assumption, by with_reducible assumption, by with_reducible assumption, by with_reducible assumption, by with_reducible assumption, by with_reducible assumption, by with_reducible assumption, by with_reducible assumption, by with_reducible assumption⟩) | go_keep) (first
      | (go_at_call 75; (with_reducible refine Calls.mono (C1.out _ HQ0.out) ?_); rintro e x1 ⟨rfl, q1⟩; have HQ1 : Hid (QK w #[.func (.func 75) #[] #[], .func (.func 76) #[] #[], .func (.func 77) #[] #[], .func (.func 78) #[] #[]] #[.int .i64 k, .int .u32 bo, .int .i64 fi, .int .u32 su, .int .i64 si, .int .i64 ap, .int .i64 bd, .int .i64 ix, .int .i64 pa, .int .i64 co, .slice ra rn rc, .slice da dn dc] x1) := q1; obtain ⟨ek0, ek1, ek2, ek3⟩ := kd_cells q1.2.1; obtain ⟨em0, em1, em2, em3, em4, em5, em6, em7, em8, em9, em10, em11⟩ := twelve_cells q1.2.2; clear q1)
      | (go_at_call 40; (with_reducible refine Calls.mono (C2.out _ HQ1.out) ?_); rintro e x2 ⟨rfl, q2⟩; have HQ2 : Hid (QK w #[.func (.func 75) #[] #[], .func (.func 76) #[] #[], .func (.func 77) #[] #[], .func (.func 78) #[] #[]] #[.int .i64 k, .int .u32 bo, .int .i64 fi, .int .u32 su, .int .i64 si, .int .i64 ap, .int .i64 bd, .int .i64 ix, .int .i64 pa, .int .i64 co, .slice ra rn rc, .slice da dn dc] x2) := q2; obtain ⟨fk0, fk1, fk2, fk3⟩ := kd_cells q2.2.1; obtain ⟨fm0, fm1, fm2, fm3, fm4, fm5, fm6, fm7, fm8, fm9, fm10, fm11⟩ := twelve_cells q2.2.2; clear q2)
      | (go_at_call 76; (with_reducible refine Calls.mono (C3.out _ HQ2.out) ?_); rintro e x3 ⟨rfl, q3⟩; have HQ3 : Hid (QK w #[.func (.func 75) #[] #[], .func (.func 76) #[] #[], .func (.func 77) #[] #[], .func (.func 78) #[] #[]] #[.int .i64 k, .int .u32 bo, .int .i64 fi, .int .u32 su, .int .i64 si, .int .i64 ap, .int .i64 bd, .int .i64 ix, .int .i64 pa, .int .i64 co, .slice ra rn rc, .slice da dn dc] x3) := q3; obtain ⟨gk0, gk1, gk2, gk3⟩ := kd_cells q3.2.1; obtain ⟨gm0, gm1, gm2, gm3, gm4, gm5, gm6, gm7, gm8, gm9, gm10, gm11⟩ := twelve_cells q3.2.2; clear q3)
      | fail)
    go_wp2
    go_ret
    exact ⟨by simp, HQ3.out.1⟩
end Go.Proofs.Ytaibojmaghmfnaa
