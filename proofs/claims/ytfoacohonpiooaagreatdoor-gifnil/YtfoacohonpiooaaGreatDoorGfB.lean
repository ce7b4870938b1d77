/- A GIF's decoder: read of one byte of the beginning, or of none; push, Push; the nil decoder. -/
import Derived.Test.YtfoacohonpiooaaGreatDoorGfA
import Derived.Test.YtfoacohonpiooaaGreatDoorRfL
namespace Go.Proofs.YtfoacohonpiooaaGreatDoor
open Go.RowKit
theorem results_cellPG {fn : Func} {p q : Tmp} {ty : TypeId} (h : fn.results = #[.cell p ty, .tmp q]) (tmps : Array Value) (P : Program) (w : World) :
    (results fn tmps).run P w = ((asAddr (tmps.getD p undef)).run P w).andThen fun a w₁ => ((loadVar ty a).run P w₁).andThen fun v w₂ => .ok (.tuple #[v, tmps.getD q undef]) w₂ := by
  simp only [results, h]
  simp [Sem.run_bind]
def GrP (w : World) (d B : Nat) (seen E : Int) (ys : List Int) (e : Ending) (w' : World) : Prop :=
  e = .returned (.tuple #[.slice none 0 0, .int .i64 E]) ∧ Below B w w' ∧ ∃ kv', DgM w' d B seen kv' ys
set_option maxHeartbeats 1600000 in
set_option maxRecDepth 20000 in
theorem gread_none {w : World} {d B : Nat} {seen : Int} {kv : Value} {zs : List Int} (h : DgM w d B seen kv zs) :
    Calls Tryz.prog 13 #[.pointer (some ⟨d, 0, none⟩), .slice none 0 0] w fun e w' => GrP w d B seen 0 zs e w' := by
  have HP : Hid (GrP w d B seen 0 zs (.returned (.tuple #[.slice none 0 0, .int .i64 0])) w) := ⟨rfl, Below.refl _ _, kv, h⟩
  clear h
  refine calls_of_wp_marks Tryz.func13 rfl ?_
  simp only [Tryz.ntmps13, List.size_toArray, List.length_cons, List.length_nil, Nat.reduceAdd, Nat.reduceSub, Array.replicate_succ, Array.replicate_zero, List.push_toArray, List.append_toArray, List.nil_append, List.cons_append]
  go_wp2_with fail
  go_step3
  go_wp2_with fail
  go_step3
  go_wp2_with fail
  go_loopw [4, 5, 7, 8, 11] (fun t e _ _ i wr => t = .slice none 0 0 ∧ e = .int .i64 0 ∧ i = .int .i64 0 ∧ wr = w) (fun _ _ _ _ _ _ => 0)
  case atStart => exact ⟨rfl, rfl, rfl, rfl⟩
  case round =>
    obtain ⟨rfl, rfl, rfl, rfl⟩ := hrel
    go_wp2
    try rw [Exit.noGoto_ret]
    refine ⟨_, results_tmp2 rfl _ _ _, ?_⟩
    exact HP.out
set_option maxHeartbeats 3200000 in
set_option maxRecDepth 20000 in
theorem gread_one {w : World} {d B b : Nat} {kv : Value} {zs : List Int} {E2 : Int} (seen : Nat) (hse : seen ≤ 100) (v : Int) (hv : v = 71 ∨ v = 72) (h : DgM w d B seen kv zs) (hB : B ≤ w.heap.size) (hc : w.cell? ⟨b, 0, none⟩ = some (.int .u8 v)) (hbb : Bytes (zs ++ [v])) (hl : (zs ++ [v]).length ≤ 100) (ho : gAll (zs ++ [v]) = .error E2) (he2 : E2 = 2 ∨ E2 = 3) (E : Int) (hE : (if E2 = 2 then 0 else E2) = E) :
    Calls Tryz.prog 13 #[.pointer (some ⟨d, 0, none⟩), .slice (some ⟨b, 0, none⟩) 1 1] w fun e w' => GrP w d B ((seen : Int) + 1) E (zs ++ [v]) e w' := by
  obtain ⟨k0, k1, k2, k3, kf⟩ := h.block.cells
  obtain ⟨w2, hw2⟩ : ∃ w2, w.setCell ⟨d, 1, none⟩ (.int .i64 ((seen : Int) + 1)) = w2 := ⟨_, rfl⟩
  have h2 : DgM w2 d B ((seen : Int) + 1) kv zs := by rw [← hw2]; exact h.seen _
  have hb2 : Below B w w2 := by rw [← hw2]; exact (Below.refl _ _).setCell (p := ⟨d, 1, none⟩) h.low _
  obtain ⟨j0, j1, j2, j3, jf⟩ := h2.block.cells
  have CO := gopen_any v (by rcases hv with rfl | rfl <;> decide) h2 hbb hl ho he2 E hE
  have HB : Hid (Below B w w2 ∧ B ≤ w2.heap.size) := ⟨hb2, Nat.le_trans hB hb2.size⟩
  have hs1 : ¬ (seen : Int) = 1048576 := by omega
  have hE3 : E = 0 ∨ E = 3 := by rcases he2 with h | h <;> subst h <;> simp at hE <;> omega
  clear h h2 hb2 hbb hl ho he2 hE hv
  have HE3 : Hid (E = 0 ∨ E = 3) := hE3
  clear hE3
  refine calls_of_wp_marks Tryz.func13 rfl ?_
  simp only [Tryz.ntmps13, List.size_toArray, List.length_cons, List.length_nil, Nat.reduceAdd, Nat.reduceSub, Array.replicate_succ, Array.replicate_zero, List.push_toArray, List.append_toArray, List.nil_append, List.cons_append]
  go_wp2_with fail
  go_step3
  go_wp2_with fail
  go_step3
  go_wp2_with fail
  go_loopw [4, 5, 7, 8, 11] (fun t e _ _ i wr => t = .slice none 0 0 ∧ e = .int .i64 0 ∧ ((i = .int .i64 0 ∧ wr = w) ∨ (i = .int .i64 1 ∧ E = 0 ∧ Hid (Below B w wr ∧ ∃ kv', DgM wr d B ((seen : Int) + 1) kv' (zs ++ [v]))))) (fun _ _ _ _ i _ => 1 - (intOf i).toNat)
  case atStart => exact ⟨rfl, rfl, .inl ⟨rfl, rfl⟩⟩
  case round =>
    obtain ⟨rfl, rfl, ⟨rfl, rfl⟩ | ⟨rfl, h0, HQ⟩⟩ := hrel
    · go_wp2_with fail
      refine CO.mono ?_
      clear CO
      rintro e w3 ⟨rfl, hb3, h3⟩
      have HQ : Hid (Below B wr w3 ∧ ∃ kv', DgM w3 d B ((seen : Int) + 1) kv' (zs ++ [v])) := ⟨HB.out.1.trans hb3, h3⟩
      clear hb3 h3 HB hw2
      rcases HE3.out with h0 | h0
      · subst h0
        go_wp2_with fail
        go_roundw
        case rel => exact ⟨rfl, rfl, .inr ⟨rfl, by first | rfl | trivial, HQ⟩⟩
        case measure => simp [intOf]
      · subst h0
        have HP : Hid (GrP wr d B ((seen : Int) + 1) 3 (zs ++ [v]) (.returned (.tuple #[.slice none 0 0, .int .i64 3])) w3) := ⟨rfl, HQ.out⟩
        clear HQ
        go_wp2
        try rw [Exit.noGoto_ret]
        refine ⟨_, results_tmp2 rfl _ _ _, ?_⟩
        exact HP.out
    · subst h0
      have HP : Hid (GrP w d B ((seen : Int) + 1) 0 (zs ++ [v]) (.returned (.tuple #[.slice none 0 0, .int .i64 0])) wr) := ⟨rfl, HQ.out⟩
      clear HQ CO HB
      go_wp2
      try rw [Exit.noGoto_ret]
      refine ⟨_, results_tmp2 rfl _ _ _, ?_⟩
      exact HP.out
set_option maxHeartbeats 800000 in
theorem gpush_nil (v : Value) (w : World) : Calls Tryz.prog 11 #[.pointer none, v] w fun e w' => e = .returned (.tuple #[.slice none 0 0, .int .i64 1]) ∧ w' = w := by
  go_enter Tryz.func11, Tryz.ntmps11
  go_wp2
  go_ret2
  exact ⟨rfl, rfl⟩
set_option maxHeartbeats 800000 in
theorem gPush_of {w : World} {E : Int} {P : World → Prop} (d v : Value) (C : Calls Tryz.prog 11 #[d, v] w fun e w' => e = .returned (.tuple #[.slice none 0 0, .int .i64 E]) ∧ P w') :
    Calls Tryz.prog 5 #[d, v] w fun e w' => e = .returned (.tuple #[.slice none 0 0, .int .i64 E]) ∧ P w' := by
  go_enter Tryz.func5, Tryz.ntmps5
  go_wp2_with fail
  refine C.mono ?_
  clear C
  rintro e w1 ⟨rfl, h1⟩
  have HP : Hid (P w1) := h1
  clear h1
  go_wp2
  go_loopw [8, 10, 19] (fun o _ i wr => o = .slice none 0 0 ∧ i = .int .i64 0 ∧ wr = w1) (fun _ _ _ _ => 0)
  case atStart => exact ⟨rfl, rfl, rfl⟩
  case round =>
    obtain ⟨rfl, rfl, rfl⟩ := hrel
    go_wp2
    go_ret2
    exact ⟨rfl, HP.out⟩
set_option maxHeartbeats 800000 in
theorem gHead_nil (w : World) : Calls Tryz.prog 6 #[.pointer none] w fun e w' => e = .returned (.tuple #[.agg #[.int .i64 0, .int .i64 0, .int .i64 0, .int .i64 0, .bool false], .bool false]) ∧ Below w.heap.size w w' := by
  have HB : Hid (Below w.heap.size w (w.alloc (.cells #[.int .i64 0, .int .i64 0, .int .i64 0, .int .i64 0, .bool false] 30))) := (Below.refl _ _).alloc (Nat.le_refl _) _
  go_enter Tryz.func6, Tryz.ntmps6
  go_wp2
  refine bodyPost_ret (v := .tuple #[.agg #[.int .i64 0, .int .i64 0, .int .i64 0, .int .i64 0, .bool false], .bool false]) ?_ rfl ⟨rfl, HB.out⟩
  rw [results_cellPG rfl]
  go_simp
set_option maxHeartbeats 800000 in
theorem gDone_nil (w : World) : Calls Tryz.prog 7 #[.pointer none] w fun e w' => e = .returned (.bool false) ∧ w' = w := by
  go_enter Tryz.func7, Tryz.ntmps7
  go_wp2
  go_ret
  exact ⟨rfl, rfl⟩
set_option maxHeartbeats 800000 in
theorem gDone_new {w : World} {d : Nat} {seen : Int} {kv : Value} (h : DgB w d seen kv) : Calls Tryz.prog 7 #[.pointer (some ⟨d, 0, none⟩)] w fun e w' => e = .returned (.bool false) ∧ w' = w := by
  obtain ⟨-, -, k2, -, -⟩ := h.cells
  clear h
  go_enter Tryz.func7, Tryz.ntmps7
  go_wp2
  go_ret
  exact ⟨rfl, rfl⟩
set_option maxHeartbeats 800000 in
theorem gTold_nil (w : World) : Calls Tryz.prog 8 #[.pointer none] w fun e w' => e = .returned (.int .i64 0) ∧ w' = w := by
  go_enter Tryz.func8, Tryz.ntmps8
  go_wp2
  go_ret
  exact ⟨rfl, rfl⟩
theorem below_sets {B d : Nat} (hB : B ≤ d) : ∀ (vs : List Value) (i : Nat) (w : World), Below B w (w.setCells d i vs)
  | [], _, _ => Below.refl _ _
  | v :: vs, i, _ => ((Below.refl _ _).setCell (p := ⟨d, i, none⟩) hB v).trans (below_sets hB vs (i + 1) _)
set_option maxHeartbeats 3200000 in
set_option maxRecDepth 20000 in
theorem gfail_any {w : World} {d B : Nat} {seen : Int} {kv : Value} (x : Int) (h : DgB w d seen kv) (hB : B ≤ d) : Calls Tryz.prog 14 #[.pointer (some ⟨d, 0, none⟩), .int .i64 x] w fun e w' => e = .returned (.tuple #[]) ∧ Below B w w' := by
  obtain ⟨w2, hw2⟩ : ∃ w2, w.drew = w2 := ⟨_, rfl⟩
  have h2 : DgB w2 d seen kv := by rw [← hw2]; exact h
  obtain ⟨q7, q8, q9, q10, q11, q16, q21⟩ := h2.heads
  have HG : Hid (∀ vs, Below B w (w2.setCells d 0 vs)) := fun vs => (show Below B w w2 by rw [← hw2]; exact ⟨rfl, rfl, rfl, Nat.le_refl _, fun _ _ => rfl⟩).trans (below_sets hB vs 0 w2)
  have HTh : Hid (w2.there d 0 22) := fun j hj => by
    have hh : w2.heap[d]? = some (.cells (DgA seen kv) 61 (0, 0)) := h2
    have hsz : (DgA seen kv).size = 22 := rfl
    constructor
    · simp [World.cell?, hh, hsz, hj]
    · simp [World.frozen?, hh]
  clear h h2
  go_enter Tryz.func14, Tryz.ntmps14
  go_upto_region 0 with fail
  refine wp_region_still_tail 20 (by kernel_rfl) (by kernel_rfl) ?_
  simp only [List.take_succ_cons, List.take_zero, List.drop_succ_cons, List.drop_zero]
  rw [show ({ w with drawn := w.drawn + 1 } : World) = w.drew from rfl, hw2]
  repeat still_step
  refine wpStill_nil ?_
  refine wpList_store_mid rfl _ _ _ rfl d 0 #[.int .i64 x, .int .i64 0, .int .i64 0, .slice none 0 0, .int .i64 0, .slice none 0 0, .pointer none, .int .i64 0, .int .i64 0, .int .i64 0, .int .i64 0, .bool false, .slice none 0 0, .slice none 0 0, .slice none 0 0, .slice none 0 0, .bool false, .pointer none, .pointer none, .slice none 0 0, .slice none 0 0, .int .i64 0] rfl rfl HTh.out (by kernel_rfl) (by first | kernel_rfl | simp [Value.oneCell']) ?_
  have HGG : Hid (Below B w (w2.setCells d 0 (#[.int .i64 x, .int .i64 0, .int .i64 0, .slice none 0 0, .int .i64 0, .slice none 0 0, .pointer none, .int .i64 0, .int .i64 0, .int .i64 0, .int .i64 0, .bool false, .slice none 0 0, .slice none 0 0, .slice none 0 0, .slice none 0 0, .bool false, .pointer none, .pointer none, .slice none 0 0, .slice none 0 0, .int .i64 0] : Array Value).toList)) := HG.out _
  generalize w2.setCells d 0 (#[.int .i64 x, .int .i64 0, .int .i64 0, .slice none 0 0, .int .i64 0, .slice none 0 0, .pointer none, .int .i64 0, .int .i64 0, .int .i64 0, .int .i64 0, .bool false, .slice none 0 0, .slice none 0 0, .slice none 0 0, .slice none 0 0, .bool false, .pointer none, .pointer none, .slice none 0 0, .slice none 0 0, .int .i64 0] : Array Value).toList = w3 at *
  go_wp2
  go_end0
  exact ⟨rfl, HGG.out⟩
set_option maxHeartbeats 1600000 in
theorem gpush_of {w : World} {d B : Nat} {seen0 seen : Int} {kv v : Value} {ys : List Int} {E : Int} (h : DgB w d seen0 kv) (hE3 : E = 0 ∨ E = 3) (CR : Calls Tryz.prog 13 #[.pointer (some ⟨d, 0, none⟩), v] w fun e w' => GrP w d B seen E ys e w') :
    Calls Tryz.prog 11 #[.pointer (some ⟨d, 0, none⟩), v] w fun e w' => e = .returned (.tuple #[.slice none 0 0, .int .i64 E]) ∧ Below B w w' ∧ (E = 0 → ∃ kv', DgM w' d B seen kv' ys) := by
  obtain ⟨k0, -, -, -, -⟩ := h.cells
  clear h
  rcases hE3 with rfl | rfl
  · go_enter Tryz.func11, Tryz.ntmps11
    go_wp2_with fail
    refine CR.mono ?_
    clear CR
    rintro e w1 ⟨rfl, hb, hd⟩
    have HP : Hid (Below B w w1 ∧ ∃ kv', DgM w1 d B seen kv' ys) := ⟨hb, hd⟩
    clear hb hd
    go_wp2
    go_ret2
    exact ⟨rfl, HP.out.1, fun _ => HP.out.2⟩
  · go_enter Tryz.func11, Tryz.ntmps11
    go_wp2_with fail
    refine CR.mono ?_
    clear CR
    rintro e w1 ⟨rfl, hb, kv', hd⟩
    have CF := gfail_any 3 hd.block hd.low
    have HB : Hid (Below B w w1) := hb
    clear hb hd
    go_wp2_with fail
    refine CF.mono ?_
    clear CF
    rintro e w2 ⟨rfl, hf2⟩
    have HP : Hid (Below B w w2) := HB.out.trans hf2
    clear hf2
    go_wp2
    go_ret2
    exact ⟨rfl, HP.out, fun h => by omega⟩
end Go.Proofs.YtfoacohonpiooaaGreatDoor
