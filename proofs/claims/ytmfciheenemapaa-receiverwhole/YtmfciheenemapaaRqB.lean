/- The receiver: its cells; the small calls; the held numbers, sorted. -/
import Derived.Test.YtmfciheenemapaaRqA
import Derived.Deep.RegionHeld3
namespace Go.Proofs.Ytmfciheenemapaa
open Go.RowKit Go.Maps Go.Sort Go.Shelf
shelf_lay_g SlLaysZI.n7 Ggz 7 at Try 27 as keysA
shelf_lay_g SlLaysZI.n6 Ggz 6 at Try 26 as sortedA
shelf_lay_g SlLaysM.n5 Slgm 5 at Try 29 as sortA
/-- slices.Sort's two contracts here. -/
theorem sortsA (m : Nat) : AnyZI.SortsIn Try.prog sortedA_ren Fence.wide m :=
  ⟨fun blk off cap ss W hH hblk hsz => callsIn_wide.2 (AnyM.slices_Sort_int sortA blk off cap ss W hH hblk hsz),
   fun p cap W => callsIn_wide.2 (AnyM.slices_Sort_int_none sortA p cap W)⟩
structure Rc (w : World) (b m : Nat) (n W nx : Int) (H : List (Int × Pt)) : Prop where
  c : w.heap[b]? = some (.cells #[.int .i64 n, .int .i64 W, .int .i64 nx, .map (some m)] 51 (0, 0))
  m : HM w m H
  up : HUp nx H
  top : ∀ p ∈ H, p.1 < nx + W ∧ p.1 < n
  ok : ∀ p ∈ H, PtOk w p.2
  nb : 0 ≤ n ∧ n ≤ 1048577 ∧ 1 ≤ W ∧ W ≤ 64 ∧ 0 ≤ nx ∧ nx ≤ n
theorem rc_cells {w : World} {b : Nat} {v0 v1 v2 v3 : Value} {t : TypeId} (h : w.heap[b]? = some (.cells #[v0, v1, v2, v3] t (0, 0))) : w.cell? ⟨b, 0, none⟩ = some v0 ∧ w.cell? ⟨b, 1, none⟩ = some v1 ∧ w.cell? ⟨b, 2, none⟩ = some v2 ∧ w.cell? ⟨b, 3, none⟩ = some v3 ∧ ∀ j, w.frozen? ⟨b, j, none⟩ = false := by
  refine ⟨?_, ?_, ?_, ?_, fun j => ?_⟩ <;> simp [World.cell?, World.frozen?, h]
theorem pt_row {w w' : World} {q : Pt} (h : PtOk w q) (hs : ∀ x, q.a = some x → w'.heap[x.block]? = w.heap[x.block]?) : PtOk w' q := ⟨h.1, h.2.1, h.2.2.1, h.2.2.2.1, h.2.2.2.2.same fun x hx _ => hs x hx⟩
theorem pt_old {w w' : World} {q : Pt} (h : PtOk w q) (hb : Below w.heap.size w w') : PtOk w' q := ⟨h.1, h.2.1, h.2.2.1, h.2.2.2.1, h.2.2.2.2.old hb⟩
theorem Rc.old {w w' : World} {b m : Nat} {n W nx : Int} {H : List (Int × Pt)} (h : Rc w b m n W nx H) (hb : Below w.heap.size w w') : Rc w' b m n W nx H :=
  ⟨(hb.block _ (lt_of_block h.c)).trans h.c, h.m.old hb, h.up, h.top, fun p hp => pt_old (h.ok p hp) hb, h.nb⟩
theorem HUp.len : ∀ {H : List (Int × Pt)} {lo hi : Int}, HUp lo H → (∀ p ∈ H, p.1 < hi) → lo ≤ hi → (H.length : Int) ≤ hi - lo
  | [], lo, hi, _, _, h => by simp; omega
  | y :: r, lo, hi, h, ht, hl => by
    have h1 := ht y (by simp)
    have := HUp.len (hi := hi) h.2 (fun p hp => ht p (by simp [hp])) (by omega)
    have := h.1
    simp
    omega
theorem Rc.len {w : World} {b m : Nat} {n W nx : Int} {H : List (Int × Pt)} (h : Rc w b m n W nx H) : H.length ≤ 64 := by
  obtain ⟨n0, n1, n2, n3, n4, n5⟩ := h.nb
  have := h.up.len (hi := nx + W) (fun p hp => (h.top p hp).1) (by omega)
  omega
theorem Rc.wf {w : World} {b m : Nat} {n W nx : Int} {H : List (Int × Pt)} (h : Rc w b m n W nx H) : ∀ p ∈ H, 0 ≤ p.1 ∧ p.1 < 1048577 := by
  intro p hp
  obtain ⟨n0, n1, n2, n3, n4, n5⟩ := h.nb
  have := h.up.mem p hp
  have := (h.top p hp).2
  omega
set_option maxHeartbeats 400000 in
theorem rnext_any {w : World} {b m : Nat} {n W nx : Int} {H : List (Int × Pt)} (h : Rc w b m n W nx H) : Calls Try.prog 14 #[.pointer (some ⟨b, 0, none⟩)] w fun e w' => e = .returned (.int .i64 nx) ∧ w' = w := by
  obtain ⟨k0, k1, k2, k3, -⟩ := rc_cells h.c
  clear h
  go_enter Try.func14, Try.ntmps14
  go_wp2
  go_ret
  exact ⟨rfl, rfl⟩
set_option maxHeartbeats 400000 in
theorem rnext_nil (w : World) : Calls Try.prog 14 #[.pointer none] w fun e w' => e = .returned (.int .i64 0) ∧ w' = w := by
  go_enter Try.func14, Try.ntmps14
  go_wp2
  go_ret
  exact ⟨rfl, rfl⟩
set_option maxHeartbeats 400000 in
theorem rheld_any {w : World} {b m : Nat} {n W nx : Int} {H : List (Int × Pt)} (h : Rc w b m n W nx H) : Calls Try.prog 16 #[.pointer (some ⟨b, 0, none⟩)] w fun e w' => e = .returned (.int .i64 H.length) ∧ w' = w := by
  obtain ⟨k0, k1, k2, k3, -⟩ := rc_cells h.c
  have hl := h.m.len 3
  clear h
  go_enter Try.func16, Try.ntmps16
  go_wp2
  go_ret
  exact ⟨rfl, rfl⟩
set_option maxHeartbeats 400000 in
theorem rheld_nil (w : World) : Calls Try.prog 16 #[.pointer none] w fun e w' => e = .returned (.int .i64 0) ∧ w' = w := by
  go_enter Try.func16, Try.ntmps16
  go_wp2
  go_ret
  exact ⟨rfl, rfl⟩
set_option maxHeartbeats 400000 in
theorem rdone_any {w : World} {b m : Nat} {n W nx : Int} {H : List (Int × Pt)} (h : Rc w b m n W nx H) : Calls Try.prog 21 #[.pointer (some ⟨b, 0, none⟩)] w fun e w' => e = .returned (.bool (nx == n)) ∧ w' = w.drew := by
  obtain ⟨k0, k1, k2, k3, -⟩ := rc_cells h.c
  clear h
  go_enter Try.func21, Try.ntmps21
  go_wp2
  go_region
  go_wp2
  go_ret
  exact ⟨rfl, rfl⟩
set_option maxHeartbeats 400000 in
theorem rdone_nil (w : World) : Calls Try.prog 21 #[.pointer none] w fun e w' => e = .returned (.bool false) ∧ w' = w.drew := by
  go_enter Try.func21, Try.ntmps21
  go_wp2
  go_region
  go_wp2
  go_ret
  exact ⟨rfl, rfl⟩
set_option maxHeartbeats 400000 in
theorem rranges_nil (w : World) : Calls Try.prog 19 #[.pointer none] w fun e w' => e = .returned (.slice none 0 0) ∧ w' = w := by
  go_enter Try.func19, Try.ntmps19
  go_wp2
  go_step3
  go_wp2
  try rw [Exit.noGoto_ret]
  go_ret
  exact ⟨rfl, rfl⟩
set_option maxHeartbeats 400000 in
theorem rtake_nil (i : Int) (v : Value) (w : World) : Calls Try.prog 11 #[.pointer none, .int .i64 i, v] w fun e w' => e = .returned (.tuple #[.slice none 0 0, .bool false]) ∧ w' = w := by
  go_enter Try.func11, Try.ntmps11
  go_wp2
  refine bodyPost_ret (v := .tuple #[.slice none 0 0, .bool false]) (by simp [results, Try.results11, go_sem]) rfl ⟨rfl, rfl⟩
theorem ret_boolR {a b : Bool} (h : a = b) : Ending.returned (.bool a) = .returned (.bool b) := by rw [h]
theorem up_pairwise : ∀ {H : List (Int × Pt)} {lo : Int}, HUp lo H → (H.map (·.1)).Pairwise (fun x y => leI x y = true)
  | [], _, _ => List.Pairwise.nil
  | y :: r, lo, h => by
    rw [List.map_cons, List.pairwise_cons]
    refine ⟨fun z hz => ?_, up_pairwise h.2⟩
    obtain ⟨p, hp, rfl⟩ := List.mem_map.1 hz
    have := h.2.mem p hp
    simp [leI]
    omega
theorem intKeys_hD (H : List (Int × Pt)) : intKeys (hD H) = H.map (·.1) := by
  unfold hD
  show (H.map hE).map (fun p => Go.intOf p.1) = _
  rw [List.map_map]
  rfl
set_option maxHeartbeats 1000000 in
theorem rorder_any {w : World} {b m : Nat} {n W nx : Int} {H : List (Int × Pt)} (h : Rc w b m n W nx H) : Calls Try.prog 25 #[.pointer (some ⟨b, 0, none⟩)] w fun e w' => ∃ v, e = .returned v ∧ w'.ownsRow w.heap.size 3 1 v H.length ((H.map (·.1)).map encZ) ∧ Below w.heap.size w w' := by
  refine (callsIn_wide (n := 6)).1 ?_
  obtain ⟨k0, k1, k2, k3, -⟩ := rc_cells h.c
  have hown : w.ownsMap Try.prog 3 hR m H.length (hD H) := h.m
  have hbl := h.m.lt
  have hs0 : Maps.size (hD H) = H.length := by simp [hD, Maps.size]
  have hlen := h.len
  have hmax : Maps.size (hD H) ≤ maxLen := by rw [hs0]; unfold maxLen; omega
  have hbytes : Maps.size (hD H) * 8 ≤ 140737488355328 := by rw [hs0]; omega
  have hseq : SeqGives Fence.wide 2 Try.prog 30 #[.pointer (some ⟨w.heap.size, 0, none⟩)] encZ (fun ss => ss.Perm (intKeys (hD H))) (Maps.size (hD H)) (w.alloc (.cells #[.map (some m)] 49)) :=
    AnyZI.keys_gives (ρ := keysA_ren) { keysA with } Fence.wide _ trivial rfl (by omega) w.heap.size m H.length (hD H) _ (by simp) (by simp) (World.ownsMap.alloc hown _)
  have cK : ∀ mb W, CallsIn Fence.wide 5 Try.prog 27 #[.map mb] W fun e w' => e = .returned (.func (.func 30) #[] #[.pointer (some ⟨W.heap.size, 0, none⟩)]) ∧ w' = W.alloc (.cells #[.map mb] 49) := fun mb W => AnyZI.keys_in keysA Fence.wide 5 trivial rfl mb W
  have cS := AnyZI.sorted_in sortedA Fence.wide 5 trivial trivial trivial trivial rfl (by omega) (sortsA _) (enters_of Try.func29 (by kernel_rfl) rfl) 30 #[.pointer (some ⟨w.heap.size, 0, none⟩)] trivial (enters_of Try.func30 (by kernel_rfl) rfl) _ _ hmax hbytes _ hseq
  change CallsIn _ _ Try.prog 26 _ _ _ at cS
  have hfK : Fence.wide.fn 27 := trivial
  have hfS : Fence.wide.fn 26 := trivial
  have hE : ∀ ss : List Int, ss.Perm (intKeys (hD H)) → ss.length = H.length ∧ ss.mergeSort (fun x y => decide (x ≤ y)) = H.map (·.1) := fun ss hp => by
    rw [intKeys_hD] at hp
    refine ⟨by rw [hp.length_eq, List.length_map], ?_⟩
    have e1 : ss.mergeSort leI = (H.map (·.1)).mergeSort leI := mergeSort_of_perm_i hp
    have e2 : (H.map (·.1)).mergeSort leI = H.map (·.1) := List.mergeSort_of_pairwise (up_pairwise h.up)
    exact e1.trans e2
  clear h hmax hbytes hs0
  refine callsIn_of_wp Try.func25 rfl trivial ?_ rfl
  simp only [Try.ntmps25, List.size_toArray, List.length_cons, List.length_nil, Nat.reduceAdd, Nat.reduceSub, Array.replicate_succ, Array.replicate_zero, List.push_toArray, List.append_toArray, List.nil_append, List.cons_append]
  gi_wp2_with (first
    | (gi_at_call 27; refine (cK _ _).mono ?_; rintro e w' ⟨rfl, rfl⟩)
    | (gi_at_call 26; refine cS.mono ?_; rintro e w' ⟨v, ss, rfl, hS, hrow, hnil, hb⟩))
  go_ret
  obtain ⟨e1, e2⟩ := hE ss hS
  refine ⟨v, rfl, ?_, ((Below.refl _ w).alloc (Nat.le_refl _) _).trans (hb.mono (by simp))⟩
  rw [e1, e2] at hrow
  exact ownsRow_base_a hrow (by simp)
end Go.Proofs.Ytmfciheenemapaa
