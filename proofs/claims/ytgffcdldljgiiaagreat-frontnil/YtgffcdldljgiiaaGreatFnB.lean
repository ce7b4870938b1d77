/- A front that is given its first bytes: a GIF's first two, a byte that is no picture's. -/
import Derived.Test.YtgffcdldljgiiaaGreatFnA
namespace Go.Proofs.YtgffcdldljgiiaaGreat
open Go.RowKit
theorem gstep_prep {w wr : World} {d B : Nat} {kv : Value} {zs : List Int} (seen : Nat) (v : Int) (h : DgM wr d B seen kv zs) (hb : Below B w wr) (hv33 : ¬ v = 33) (hbb : Bytes (zs ++ [v])) (hl : (zs ++ [v]).length ≤ 100) (ho : gAll (zs ++ [v]) = .error 2) :
    ∃ w2, wr.setCell ⟨d, 1, none⟩ (.int .i64 ((seen : Int) + 1)) = w2 ∧ (wr.cell? ⟨d, 0, none⟩ = some (.int .i64 0) ∧ wr.cell? ⟨d, 1, none⟩ = some (.int .i64 seen) ∧ wr.cell? ⟨d, 2, none⟩ = some (.int .i64 0) ∧ (∀ j, wr.frozen? ⟨d, j, none⟩ = false)) ∧ (w2.cell? ⟨d, 0, none⟩ = some (.int .i64 0) ∧ w2.cell? ⟨d, 2, none⟩ = some (.int .i64 0)) ∧
      Calls Tryz.prog 208 #[.pointer (some ⟨d, 0, none⟩), .int .u8 v] w2 fun e w' => e = .returned (.int .i64 0) ∧ Below B w w' ∧ ∃ kv', DgM w' d B ((seen : Int) + 1) kv' (zs ++ [v]) := by
  refine ⟨_, rfl, ?_, ?_, ?_⟩
  · obtain ⟨k0, k1, k2, k3, kf⟩ := h.block.cells
    exact ⟨k0, k1, k2, kf⟩
  · obtain ⟨k0, k1, k2, k3, kf⟩ := (h.seen ((seen : Int) + 1)).block.cells
    exact ⟨k0, k2⟩
  · refine (gopen_any v hv33 (h.seen ((seen : Int) + 1)) hbb hl ho (.inl rfl) 0 rfl).mono ?_
    rintro e w3 ⟨rfl, hb3, h3⟩
    exact ⟨rfl, (hb.setCell (p := ⟨d, 1, none⟩) h.low _).trans hb3, h3⟩
set_option maxHeartbeats 3200000 in
set_option maxRecDepth 20000 in
theorem gread_two {w : World} {d B b : Nat} {kv : Value} (h : DgM w d B 0 kv []) (hbB : b < B) (hc0 : w.cell? ⟨b, 0, none⟩ = some (.int .u8 71)) (hc1 : w.cell? ⟨b, 1, none⟩ = some (.int .u8 73)) :
    Calls Tryz.prog 206 #[.pointer (some ⟨d, 0, none⟩), .slice (some ⟨b, 0, none⟩) 2 2] w fun e w' => GrP w d B 2 0 [71, 73] e w' := by
  have HC : Hid (∀ wr, Below B w wr → wr.cell? ⟨b, 0, none⟩ = some (.int .u8 71) ∧ wr.cell? ⟨b, 1, none⟩ = some (.int .u8 73)) := fun wr hb =>
    ⟨(World.cell?_of_block (a := ⟨b, 0, none⟩) (hb.block b hbB)).trans hc0, (World.cell?_of_block (a := ⟨b, 1, none⟩) (hb.block b hbB)).trans hc1⟩
  have H0 : Hid (Below B w w ∧ ∃ kv', DgM w d B 0 kv' []) := ⟨Below.refl _ _, kv, h⟩
  clear h hc0 hc1
  refine calls_of_wp_marks Tryz.func206 rfl ?_
  simp only [Tryz.ntmps206, List.size_toArray, List.length_cons, List.length_nil, Nat.reduceAdd, Nat.reduceSub, Array.replicate_succ, Array.replicate_zero, List.push_toArray, List.append_toArray, List.nil_append, List.cons_append]
  go_wp2_with fail
  go_step3
  go_wp2_with fail
  go_step3
  go_wp2_with fail
  go_loopw [4, 5, 7, 8, 11] (fun t e _ _ i wr => t = .slice none 0 0 ∧ e = .int .i64 0 ∧ ((i = .int .i64 0 ∧ Hid (Below B w wr ∧ ∃ kv', DgM wr d B 0 kv' [])) ∨ (i = .int .i64 1 ∧ Hid (Below B w wr ∧ ∃ kv', DgM wr d B 1 kv' [71])) ∨ (i = .int .i64 2 ∧ Hid (Below B w wr ∧ ∃ kv', DgM wr d B 2 kv' [71, 73])))) (fun _ _ _ _ i _ => 2 - (intOf i).toNat)
  case atStart => exact ⟨rfl, rfl, .inl ⟨rfl, H0⟩⟩
  case round =>
    clear H0
    obtain ⟨rfl, rfl, ⟨rfl, HQ⟩ | ⟨rfl, HQ⟩ | ⟨rfl, HQ⟩⟩ := hrel
    · obtain ⟨hb, kv1, hd⟩ := HQ.out
      obtain ⟨hc0, hc1⟩ := HC.out _ hb
      obtain ⟨w2, hw2, ⟨k0, k1, k2, kf⟩, ⟨j0, j2⟩, CO⟩ := gstep_prep 0 71 hd hb (by omega) (fun x hx => by simp at hx; omega) (by simp) gg_71
      clear hb hd HQ
      have k1' : wr.cell? ⟨d, 1, none⟩ = some (.int .i64 0) := k1
      have hw2' : wr.setCell ⟨d, 1, none⟩ (.int .i64 1) = w2 := hw2
      clear k1 hw2
      go_wp2_with fail
      refine CO.mono ?_
      clear CO
      rintro e w3 ⟨rfl, hb3, h3⟩
      have HQ : Hid (Below B w w3 ∧ ∃ kv', DgM w3 d B 1 kv' [71]) := ⟨hb3, h3⟩
      clear hb3 h3 hw2' k0 k1' k2 kf j0 j2 hc0 hc1
      go_wp2_with fail
      go_roundw
      case rel => exact ⟨rfl, rfl, .inr (.inl ⟨rfl, HQ⟩)⟩
      case measure => simp [intOf]
    · obtain ⟨hb, kv1, hd⟩ := HQ.out
      obtain ⟨hc0, hc1⟩ := HC.out _ hb
      obtain ⟨w2, hw2, ⟨k0, k1, k2, kf⟩, ⟨j0, j2⟩, CO⟩ := gstep_prep 1 73 hd hb (by omega) (fun x hx => by simp at hx; omega) (by simp) gg_73
      clear hb hd HQ
      have k1' : wr.cell? ⟨d, 1, none⟩ = some (.int .i64 1) := k1
      have hw2' : wr.setCell ⟨d, 1, none⟩ (.int .i64 2) = w2 := hw2
      clear k1 hw2
      go_wp2_with fail
      refine CO.mono ?_
      clear CO
      rintro e w3 ⟨rfl, hb3, h3⟩
      have HQ : Hid (Below B w w3 ∧ ∃ kv', DgM w3 d B 2 kv' [71, 73]) := ⟨hb3, h3⟩
      clear hb3 h3 hw2' k0 k1' k2 kf j0 j2 hc0 hc1
      go_wp2_with fail
      go_roundw
      case rel => exact ⟨rfl, rfl, .inr (.inr ⟨rfl, HQ⟩)⟩
      case measure => simp [intOf]
    · have HP : Hid (GrP w d B 2 0 [71, 73] (.returned (.tuple #[.slice none 0 0, .int .i64 0])) wr) := ⟨rfl, HQ.out⟩
      clear HQ
      go_wp2
      try rw [Exit.noGoto_ret]
      refine ⟨_, results_tmp2 rfl _ _ _, ?_⟩
      exact HP.out
set_option maxHeartbeats 800000 in
theorem fbegin_gif {w : World} {f : Nat} (h : FrB w f .nilIface false) : Calls Tryz.prog 13 #[.pointer (some ⟨f, 0, none⟩), .int .u8 71] w fun e w' => e = .returned (.tuple #[]) ∧ ∃ d, FrB w' f (.iface 56 (.pointer (some ⟨d, 0, none⟩))) true ∧ DgM w' d w.heap.size 0 (.slice none 0 0) [] ∧ Below f w w' ∧ ∀ k, k < w.heap.size → k ≠ f → w'.heap[k]? = w.heap[k]? := by
  obtain ⟨k0, k1, kf⟩ := h.cells
  obtain ⟨w1, hw1⟩ : ∃ w1, w.setCell ⟨f, 1, none⟩ (.bool true) = w1 := ⟨_, rfl⟩
  have h1 : FrB w1 f .nilIface true := by rw [← hw1]; exact h.set1 true
  have hs : w1.heap.size = w.heap.size := by rw [← hw1]; simp [World.setCell]
  have hb1 : Below f w w1 := by rw [← hw1]; exact (Below.refl _ _).setCell (p := ⟨f, 1, none⟩) (Nat.le_refl _) _
  have CN := gnew_any w1
  rw [hs] at CN
  have ho1 : ∀ k, k ≠ f → w1.heap[k]? = w.heap[k]? := fun k hk => by rw [← hw1]; exact Below.heap_setCell _ _ _ _ hk
  have HA : Hid (FrB w1 f .nilIface true ∧ Below f w w1 ∧ f < w.heap.size ∧ w1.heap.size = w.heap.size ∧ ∀ k, k ≠ f → w1.heap[k]? = w.heap[k]?) := ⟨h1, hb1, lt_of_block h, hs, ho1⟩
  clear h h1 hb1 hs ho1
  go_enter Tryz.func13, Tryz.ntmps13
  go_wp2_with fail
  refine CN.mono ?_
  clear CN hw1 k0 k1 kf
  rintro e w2 ⟨d, rfl, hd, hb2⟩
  obtain ⟨q1, q2, q3, q4, q5⟩ := HA.out
  have h2 : FrB w2 f .nilIface true := (hb2.block f q3).trans q1
  obtain ⟨k0, k1, kf⟩ := h2.cells
  have hdf : d ≠ f := by have := hd.low; omega
  have HP : Hid (FrB (w2.setCell ⟨f, 0, none⟩ (.iface 56 (.pointer (some ⟨d, 0, none⟩)))) f (.iface 56 (.pointer (some ⟨d, 0, none⟩))) true ∧ DgM (w2.setCell ⟨f, 0, none⟩ (.iface 56 (.pointer (some ⟨d, 0, none⟩)))) d w.heap.size 0 (.slice none 0 0) [] ∧ Below f w (w2.setCell ⟨f, 0, none⟩ (.iface 56 (.pointer (some ⟨d, 0, none⟩)))) ∧ ∀ k, k < w.heap.size → k ≠ f → (w2.setCell ⟨f, 0, none⟩ (.iface 56 (.pointer (some ⟨d, 0, none⟩)))).heap[k]? = w.heap[k]?) := by
    refine ⟨h2.set0 _, ⟨?_, ⟨none, Sl.nil _ _, fun k hk => by cases hk⟩, hd.low⟩, ?_, fun k hk hkf => (Below.heap_setCell _ _ _ _ hkf).trans ((hb2.block k hk).trans (q5 k hkf))⟩
    · have := hd.block
      unfold DgB at this ⊢
      exact (Below.heap_setCell _ _ _ _ hdf).trans this
    · exact (q2.trans (hb2.mono (by omega))).setCell (p := ⟨f, 0, none⟩) (Nat.le_refl _) _
  clear hd hb2 q1 q2 q3 q4 q5 HA h2 hdf
  go_wp2
  go_end0
  exact ⟨rfl, d, HP.out⟩
set_option maxHeartbeats 800000 in
theorem fbegin_no {w : World} {f : Nat} (h : FrB w f .nilIface false) : Calls Tryz.prog 13 #[.pointer (some ⟨f, 0, none⟩), .int .u8 1] w fun e w' => e = .returned (.tuple #[]) ∧ FrB w' f (.iface 59 (.agg #[])) false ∧ w.grownBy w' (some f) := by
  obtain ⟨k0, k1, kf⟩ := h.cells
  obtain ⟨w1, hw1⟩ : ∃ w1, w.setCell ⟨f, 1, none⟩ (.bool false) = w1 := ⟨_, rfl⟩
  have h1 : FrB w1 f .nilIface false := by rw [← hw1]; exact h.set1 false
  have hb1 : w.grownBy w1 (some f) := by rw [← hw1]; exact grownBy_set _ _ _ _
  obtain ⟨j0, j1, jf⟩ := h1.cells
  have HP : Hid (FrB (w1.setCell ⟨f, 0, none⟩ (.iface 59 (.agg #[]))) f (.iface 59 (.agg #[])) false ∧ w.grownBy (w1.setCell ⟨f, 0, none⟩ (.iface 59 (.agg #[]))) (some f)) := ⟨h1.set0 _, grownBy_trans hb1 (grownBy_set _ _ _ _)⟩
  clear h h1 hb1
  go_enter Tryz.func13, Tryz.ntmps13
  go_wp2
  go_end0
  exact ⟨rfl, HP.out⟩
end Go.Proofs.YtgffcdldljgiiaaGreat
