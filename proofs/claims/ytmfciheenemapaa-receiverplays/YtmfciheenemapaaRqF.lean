/- The receiver: Take; New. -/
import Derived.Test.YtmfciheenemapaaRqE
namespace Go.Proofs.Ytmfciheenemapaa
open Go.RowKit
set_option maxHeartbeats 1600000 in
theorem rnew_no (n W : Int) (w : World) (h : ¬ (0 ≤ n ∧ n ≤ 1048577 ∧ 1 ≤ W ∧ W ≤ 64)) : Calls Try.prog 8 #[.int .i64 n, .int .i64 W] w fun e w' => e = .returned (.tuple #[.pointer none, .int .i64 1]) ∧ w' = w := by
  by_cases c1 : n < 0
  · go_enter Try.func8, Try.ntmps8
    go_wp2
    refine bodyPost_ret (v := .tuple #[.pointer none, .int .i64 1]) (by simp [results, Try.results8, go_sem]) rfl ⟨rfl, rfl⟩
  by_cases c2 : 1048577 < n
  · go_enter Try.func8, Try.ntmps8
    go_wp2
    refine bodyPost_ret (v := .tuple #[.pointer none, .int .i64 1]) (by simp [results, Try.results8, go_sem]) rfl ⟨rfl, rfl⟩
  by_cases c3 : W < 1
  · go_enter Try.func8, Try.ntmps8
    go_wp2
    refine bodyPost_ret (v := .tuple #[.pointer none, .int .i64 1]) (by simp [results, Try.results8, go_sem]) rfl ⟨rfl, rfl⟩
  by_cases c4 : 64 < W
  · go_enter Try.func8, Try.ntmps8
    go_wp2
    refine bodyPost_ret (v := .tuple #[.pointer none, .int .i64 1]) (by simp [results, Try.results8, go_sem]) rfl ⟨rfl, rfl⟩
  exact absurd ⟨by omega, by omega, by omega, by omega⟩ h
theorem mkmapR (w : World) : (Instr.makeMap 49 none).run Try.prog w = .ok (.map (some w.heap.size)) (w.alloc (.map #[] 0)) := by
  simp [Instr.makeMap]
/-- A new receiver. -/
def NwP (w : World) (n W : Int) (e : Ending) (w' : World) : Prop := ∃ b m, e = .returned (.tuple #[.pointer (some ⟨b, 0, none⟩), .int .i64 0]) ∧ Rc w' b m n W 0 [] ∧ Below w.heap.size w w' ∧ w.heap.size ≤ b ∧ w.heap.size ≤ m
set_option maxHeartbeats 1600000 in
theorem rnew_yes (n W : Int) (w : World) (h : 0 ≤ n ∧ n ≤ 1048577 ∧ 1 ≤ W ∧ W ≤ 64) : Calls Try.prog 8 #[.int .i64 n, .int .i64 W] w fun e w' => NwP w n W e w' := by
  obtain ⟨h1, h2, h3, h4⟩ := h
  have c1 : ¬ n < 0 := by omega
  have c2 : ¬ 1048577 < n := by omega
  have c3 : ¬ W < 1 := by omega
  have c4 : ¬ 64 < W := by omega
  have mk := mkmapR
  go_enter Try.func8, Try.ntmps8
  go_wp2
  have hx : ((w.alloc (.map #[] 0)).alloc (.cells #[.int .i64 n, .int .i64 W, .int .i64 0, .map (some w.heap.size)] 51)).heap[w.heap.size + 1]? = some (.cells #[.int .i64 n, .int .i64 W, .int .i64 0, .map (some w.heap.size)] 51 (0, 0)) := by
    have := heap_alloc_new (w.alloc (.map #[] 0)) (.cells #[.int .i64 n, .int .i64 W, .int .i64 0, .map (some w.heap.size)] 51)
    simpa using this
  have hy : ((w.alloc (.map #[] 0)).alloc (.cells #[.int .i64 n, .int .i64 W, .int .i64 0, .map (some w.heap.size)] 51)).heap[w.heap.size]? = some (.map #[] 0) := by
    rw [Below.heap_alloc _ _ _ (by simp)]
    exact heap_alloc_new w _
  refine bodyPost_ret (v := .tuple #[.pointer (some ⟨w.heap.size + 1, 0, none⟩), .int .i64 0]) (by simp [results, Try.results8, go_sem]) rfl ?_
  refine ⟨w.heap.size + 1, w.heap.size, rfl, ?_, ((Below.refl _ _).alloc (Nat.le_refl _) _).alloc (by simp) _, by omega, Nat.le_refl _⟩
  exact ⟨hx, HM.of_made hy, trivial, (fun p hp => by cases hp), (fun p hp => by cases hp), h1, h2, h3, h4, Int.le_refl _, h1⟩
/-- What Take leaves when the item may come. -/
def TkY (w : World) (b m : Nat) (n W nx : Int) (H : List (Int × Pt)) (i : Int) (zs : List Int) (e : Ending) (w' : World) : Prop :=
  ∃ q : Pt, q.z = zs ∧ (∀ x, q.a = some x → w.heap.size ≤ x.block) ∧ PtOk w' q ∧ ∃ v g, e = .returned (.tuple #[v, .bool true]) ∧ Sl w' 32 v g (pvl (relN nx (hIns i q H)).1) ∧ (∀ k, g = some k → w.heap.size ≤ k) ∧ F2 b m w w' ∧ Rc w' b m n W (relN nx (hIns i q H)).2.1 (relN nx (hIns i q H)).2.2
theorem mcB_ex {n W nx i : Int} {H : List (Int × Pt)} (h : mcB n W nx H i = true) : hHas H i = false ∧ nx ≤ i ∧ i < nx + W ∧ i < n := by
  unfold mcB at h
  simp only [Bool.and_eq_true, Bool.not_eq_true', decide_eq_true_eq] at h
  exact ⟨h.1.1.1, h.1.1.2, h.1.2, h.2⟩
/-- An item has come. -/
theorem Rc.put {w w1 : World} {b m : Nat} {n W nx : Int} {H : List (Int × Pt)} (h : Rc w b m n W nx H) {i : Int} (hmc : mcB n W nx H i = true) {q : Pt} (hq : PtOk w q) (hm : HM w1 m (hIns i q H)) (hg : w.grownBy w1 (some m)) : Rc w1 b m n W nx (hIns i q H) := by
  obtain ⟨c1, c2, c3, c4⟩ := mcB_ex hmc
  obtain ⟨es, cl, hmt⟩ := h.m.tag
  have hbm : b ≠ m := by rintro rfl; rw [h.c] at hmt; cases hmt
  have f : F2 b m w w1 := F2.map hg
  refine ⟨(hg.block b (lt_of_block h.c) (by simpa using hbm)).trans h.c, hm, h.up.ins q c2 c1, fun p hp => ?_, fun p hp => ?_, h.nb⟩
  · rcases (hIns_mem i q p H).1 hp with rfl | hp
    · exact ⟨c3, c4⟩
    · exact h.top p hp
  · rcases (hIns_mem i q p H).1 hp with rfl | hp
    · exact f.pt h hq
    · exact f.pt h (h.ok p hp)
set_option maxHeartbeats 6400000 in
theorem take_no {w : World} {b m : Nat} {n W nx : Int} {H : List (Int × Pt)} (h : Rc w b m n W nx H) (i : Int) (hi : (Lit.int .i64 i).wf = true) (v : Value) (hmc : mcB n W nx H i = false) : Calls Try.prog 11 #[.pointer (some ⟨b, 0, none⟩), .int .i64 i, v] w fun e w' => e = .returned (.tuple #[.slice none 0 0, .bool false]) ∧ Below w.heap.size w w' := by
  have HM := rmay_any h i hi
  rw [hmc] at HM
  clear h hmc
  go_enter Try.func11, Try.ntmps11
  go_wp2_with (go_at_call 22; refine Calls.mono HM ?_; rintro e w' ⟨rfl, rfl⟩)
  refine bodyPost_ret (v := .tuple #[.slice none 0 0, .bool false]) (by simp [results, Try.results11, go_sem]) rfl ⟨rfl, ⟨rfl, rfl, rfl, Nat.le_refl _, fun _ _ => rfl⟩⟩
set_option maxHeartbeats 6400000 in
theorem take_yes {w : World} {b m : Nat} {n W nx : Int} {H : List (Int × Pt)} (h : Rc w b m n W nx H) (i : Int) (hi : (Lit.int .i64 i).wf = true) {a : Option Addr} {N c : Nat} {zs : List Int} (hn : zs.length = N) (hnil : a = none → c = 0) (hl : N ≤ 1000000) (hb : Bytes zs) (hr : Row w a zs) (hmc : mcB n W nx H i = true) : Calls Try.prog 11 #[.pointer (some ⟨b, 0, none⟩), .int .i64 i, .slice a N c] w fun e w' => TkY w b m n W nx H i zs e w' := by
  have HMC := rmay_any h i hi
  rw [hmc] at HMC
  have hwd : Below w.heap.size w w.drew.drew := ⟨rfl, rfl, rfl, Nat.le_refl _, fun _ _ => rfl⟩
  have HC : Hid (Calls Try.prog 23 #[.slice a N c] w.drew.drew fun e w' => ClB w.drew.drew zs e w') := rclone_any hn hnil hl hb (hr.old hwd)
  have HR : Hid (Rc w b m n W nx H) := h
  obtain ⟨k0, k1, k2, k3, -⟩ := rc_cells h.c
  have hlen := h.len
  have hbw := lt_of_block h.c
  clear h hn hnil hl hb hr
  go_enter Try.func11, Try.ntmps11
  go_upto_region 3 with (first | (go_at_call 22; refine Calls.mono HMC ?_; rintro e w' ⟨rfl, rfl⟩))
  refine wp_region_held_drew (S := fun u => u.cell? ⟨b, 3, none⟩ = some (.map (some m))) (by kernel_rfl) k3 (fun hHeld => ?_)
  refine wpAnyH_take (i := 0) (v := .pointer (some ⟨b, 0, none⟩)) rfl (by kernel_rfl) (by kernel_rfl) (by kernel_rfl) (fun _ _ _ h => h) (Or.inl ⟨by kernel_rfl, ?_⟩) hHeld ?_
  · intro wq hSw
    try dsimp only at hSw
    go_simp
  simp only [Act.put, List.getElem_toArray, List.getElem_cons_zero]
  try simp only [List.setIfInBounds_toArray]
  try simp only [List.set_cons_succ]
  try simp only [List.set_cons_zero]
  refine wpAnyH_take (i := 1) (v := .pointer (some ⟨b, 0, none⟩)) rfl (by kernel_rfl) (by kernel_rfl) (by kernel_rfl) (fun _ _ _ h => h) (Or.inl ⟨by kernel_rfl, ?_⟩) hHeld ?_
  · intro wq hSw
    try dsimp only at hSw
    go_simp
  simp only [Act.put, List.getElem_toArray, List.getElem_cons_succ, List.getElem_cons_zero]
  try simp only [List.setIfInBounds_toArray]
  try simp only [List.set_cons_succ]
  try simp only [List.set_cons_zero]
  refine wpAnyH_take (i := 2) (v := .pointer (some ⟨b, 3, none⟩)) rfl (by kernel_rfl) (by kernel_rfl) (by kernel_rfl) (fun _ _ _ h => h) (Or.inl ⟨by kernel_rfl, ?_⟩) hHeld ?_
  · intro wq hSw
    try dsimp only at hSw
    go_simp
  simp only [Act.put, List.getElem_toArray, List.getElem_cons_succ, List.getElem_cons_zero]
  try simp only [List.setIfInBounds_toArray]
  try simp only [List.set_cons_succ]
  try simp only [List.set_cons_zero]
  refine wpAnyH_take (i := 3) (v := .map (some m)) rfl (by kernel_rfl) (by kernel_rfl) (by kernel_rfl) (fun _ _ _ h => h) (Or.inl ⟨by kernel_rfl, ?_⟩) hHeld ?_
  · intro wq hSw
    try dsimp only at hSw
    go_simp
  simp only [Act.put, List.getElem_toArray, List.getElem_cons_succ, List.getElem_cons_zero]
  try simp only [List.setIfInBounds_toArray]
  try simp only [List.set_cons_succ]
  try simp only [List.set_cons_zero]
  refine wpAnyH_take (i := 4) (v := .int .i64 i) rfl (by kernel_rfl) (by kernel_rfl) (by kernel_rfl) (fun _ _ _ h => h) (Or.inl ⟨by kernel_rfl, ?_⟩) hHeld ?_
  · intro wq hSw
    try dsimp only at hSw
    go_simp
  simp only [Act.put, List.getElem_toArray, List.getElem_cons_succ, List.getElem_cons_zero]
  try simp only [List.setIfInBounds_toArray]
  try simp only [List.set_cons_succ]
  try simp only [List.set_cons_zero]
  refine wpAnyH_take (i := 5) (v := .slice a N c) rfl (by kernel_rfl) (by kernel_rfl) (by kernel_rfl) (fun _ _ _ h => h) (Or.inl ⟨by kernel_rfl, ?_⟩) hHeld ?_
  · intro wq hSw
    try dsimp only at hSw
    go_simp
  simp only [Act.put, List.getElem_toArray, List.getElem_cons_succ, List.getElem_cons_zero]
  try simp only [List.setIfInBounds_toArray]
  try simp only [List.set_cons_succ]
  try simp only [List.set_cons_zero]
  refine wpAnyH_ready (rs := [6]) (by kernel_rfl) (by simp) (AllReadyH.cons (o := _) rfl (fun K hK => ?_) AllReadyH.nil)
  go_simp
  (go_at_call 23; refine Calls.mono HC.out ?_; rintro e w1 ⟨q, rfl, q1, q2, q3, q4⟩)
  have HQ : Hid (q.z = zs ∧ PtOk w1 q ∧ Below w.heap.size w w1 ∧ ∀ x, q.a = some x → w.heap.size ≤ x.block) := ⟨q1, q2, hwd.trans (q3.mono (Nat.le_refl _)), q4⟩
  have HR1 : Hid (Rc w1 b m n W nx H) := HR.out.old HQ.out.2.2.1
  obtain ⟨j0, j1, j2, j3, -⟩ := rc_cells HR1.out.c
  obtain ⟨w2, hrun, hm2, hg2⟩ := HR1.out.m.put (by unfold maxLen; omega) hi (mcB_ex hmc).1 q
  have HR2 : Hid (Rc w2 b m n W nx (hIns i q H) ∧ F2 b m w w2 ∧ PtOk w2 q) := ⟨HR1.out.put hmc HQ.out.2.1 hm2 hg2, (F2.of_below HQ.out.2.2.1).trans (F2.map hg2), (F2.map hg2).pt HR1.out HQ.out.2.1⟩
  clear q1 q2 q3 q4 hm2 hg2
  obtain ⟨qa, qc, qz⟩ := q
  unfold ptV at hrun
  unfold ptV
  simp only at hrun
  go_wp2_with fail
  refine hK.out _ _ j3 (fun hHeld => ?_)
  clear hK K
  try simp only [Act.put, List.getElem_toArray, List.getElem_cons_succ, List.getElem_cons_zero]
  try simp only [List.setIfInBounds_toArray]
  try simp only [List.set_cons_succ]
  try simp only [List.set_cons_zero]
  refine wpAnyH_ready (rs := [7]) (by kernel_rfl) (by simp) (AllReadyH.cons (o := _) rfl (fun K hK => ?_) AllReadyH.nil)
  go_simp
  refine hK.out _ _ (rc_cells HR2.out.1.c).2.2.2.1 (fun hHeld => ?_)
  clear hK K
  try simp only [Act.put]
  refine wpAnyH_done (by kernel_rfl) ?_ _
  go_wp2_with (first | (go_at_call 24; refine Calls.mono (release_any HR2.out.1) ?_; rintro e w3 ⟨v, g, rfl, z1, z2, z3, z4⟩))
  have HE : Hid (TkY w b m n W nx H i zs (.returned (.tuple #[v, .bool true])) w3) :=
    ⟨⟨qa, qc, qz⟩, HQ.out.1, HQ.out.2.2.2, z3.pt HR2.out.1 HR2.out.2.2, v, g, rfl, z1, fun k hk => Nat.le_trans HR2.out.2.1.size (z2 k hk), HR2.out.2.1.trans z3, z4⟩
  clear z1 z2 z3 z4
  refine bodyPost_ret (v := .tuple #[v, .bool true]) (by simp [results, Try.results11, go_sem]) rfl HE.out
end Go.Proofs.Ytmfciheenemapaa
