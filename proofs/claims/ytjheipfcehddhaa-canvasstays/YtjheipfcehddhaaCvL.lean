/- A nil canvas's view; the calls whose answers the document fixes. -/
import Derived.Test.YtjheipfcehddhaaCvK
namespace Go.Proofs.Ytjheipfcehddhaa
open Go.RowKit
set_option maxHeartbeats 1600000 in
theorem view_nil (b : Bool) (w : World) : Calls Try.prog 16 #[.pointer none, .bool b] w fun e w' => e = .returned (.agg #[.int .i64 0, .int .i64 0, .slice none 0 0]) ∧ Below w.heap.size w w' := by
  obtain ⟨w1, hw1⟩ : ∃ w1, (w.alloc (.cells #[.pointer none] 24)).alloc (.cells #[.int .i64 0, .int .i64 0, .slice none 0 0] 41) = w1 := ⟨_, rfl⟩
  have HB1 : Hid (Below w.heap.size w w1 ∧ w1.heap[w.heap.size]? = some (.cells #[.pointer none] 24 (0, 0)) ∧ w1.heap[w.heap.size + 1]? = some (.cells #[.int .i64 0, .int .i64 0, .slice none 0 0] 41 (0, 0))) := by
    rw [← hw1]
    refine ⟨((Below.refl _ w).alloc (Nat.le_refl _) _).alloc (by simp) _, ?_, ?_⟩
    · rw [Below.heap_alloc _ _ _ (by simp)]; exact World.alloc_heap_new w _
    · have := World.alloc_heap_new (w.alloc (.cells #[.pointer none] 24)) (.cells #[.int .i64 0, .int .i64 0, .slice none 0 0] 41); rwa [World.size_alloc] at this
  have x0 : w1.cell? ⟨w.heap.size, 0, none⟩ = some (.pointer none) := by simp [World.cell?, HB1.out.2.1]
  have CI := image_nil w1
  go_enter Try.func16, Try.ntmps16
  go_wp2_with fail
  go_step3
  go_wp2_with fail
  refine CI.mono ?_
  clear CI
  rintro e w2 ⟨rfl, hb2⟩
  have HB2 : Hid (Below w1.heap.size w1 w2) := hb2
  clear hb2 x0 hw1
  go_wp2_with fail
  obtain ⟨w3, hw3⟩ : ∃ w3, w2.alloc (.cells #[.int .i64 0, .int .i64 0, .slice none 0 0] 41) = w3 := ⟨_, rfl⟩
  rw [hw3]
  have HB3 : Hid (Below w2.heap.size w2 w3 ∧ w3.heap[w2.heap.size]? = some (.cells #[.int .i64 0, .int .i64 0, .slice none 0 0] 41 (0, 0))) := by rw [← hw3]; exact ⟨below_new _ _, World.alloc_heap_new w2 _⟩
  clear hw3
  refine (cuts_any b w3).mono ?_
  rintro e w4 ⟨rfl, hw4⟩
  have b4 : Below w3.heap.size w3 w4 := by rw [hw4]; exact below_new _ _
  have H4 : Hid (Below w.heap.size w w4 ∧ w4.heap[w.heap.size + 1]? = some (.cells #[.int .i64 0, .int .i64 0, .slice none 0 0] 41 (0, 0)) ∧ w4.heap[w2.heap.size]? = some (.cells #[.int .i64 0, .int .i64 0, .slice none 0 0] 41 (0, 0))) := by
    have b24 : Below w2.heap.size w2 w4 := HB3.out.1.trans (b4.mono HB3.out.1.size)
    have b14 : Below w1.heap.size w1 w4 := HB2.out.trans (b24.mono HB2.out.size)
    exact ⟨HB1.out.1.trans (b14.mono HB1.out.1.size), (b14.block _ (lt_of_block HB1.out.2.2)).trans HB1.out.2.2, (b4.block _ (lt_of_block HB3.out.2)).trans HB3.out.2⟩
  clear hw4 b4 HB3 HB2 HB1
  generalize cuL b = L at *
  generalize w2.heap.size = vb at *
  generalize w3.heap.size = cb at *
  obtain ⟨y0, y1, y2, -⟩ := three_cells H4.out.2.2
  obtain ⟨r0, r1, r2, fz⟩ := three_cells H4.out.2.1
  have f0 := fz 0
  have f1 := fz 1
  have f2 := fz 2
  have HE : Hid (Below w.heap.size w (((w4.setCell ⟨w.heap.size + 1, 0, none⟩ (.int .i64 0)).setCell ⟨w.heap.size + 1, 1, none⟩ (.int .i64 0)).setCell ⟨w.heap.size + 1, 2, none⟩ (.slice none 0 0))) :=
    ((H4.out.1.setCell (p := ⟨w.heap.size + 1, 0, none⟩) (by show w.heap.size ≤ w.heap.size + 1; omega) _).setCell (p := ⟨w.heap.size + 1, 1, none⟩) (by show w.heap.size ≤ w.heap.size + 1; omega) _).setCell (p := ⟨w.heap.size + 1, 2, none⟩) (by show w.heap.size ≤ w.heap.size + 1; omega) _
  clear fz H4
  go_wp2_with fail
  go_step3
  go_wp2
  refine wp_loop_rounds 1 ?_
  unfold Code.rounds
  go_wp2
  refine bodyPost_ret (v := .agg #[.int .i64 0, .int .i64 0, .slice none 0 0]) ?_ rfl ⟨rfl, HE.out⟩
  rw [results_cellA rfl]
  go_simp
theorem fx_sz : Sz 2 1 2 := ⟨by omega, by omega, by omega, by omega, by omega, by omega⟩
def fxL (sb qb : Nat) : Ln := ⟨0, some ⟨sb, 0, none⟩, 1, [(0, 0)], some ⟨qb, 0, none⟩, 1, [(9, 0, 0, 1)]⟩
theorem fx_row {w : World} {sb qb : Nat} (h1 : w.heap[sb]? = some (.cells #[.int .i64 0, .int .i64 0] 58 (0, 0))) (h2 : w.heap[qb]? = some (.cells #[.int .u16 9, .int .u16 0, .int .u16 0, .int .u16 1] 49 (0, 0))) : LnM w (fxL sb qb) := by
  obtain ⟨a0, a1, -⟩ := two_cells h1
  obtain ⟨b0, b1, b2, b3, -⟩ := four_cells h2
  refine ⟨.inr ⟨sb, 0, rfl, fun i hi => ?_⟩, .inr ⟨qb, 0, rfl, fun i hi => ?_⟩⟩
  · obtain rfl : i = 0 := by simp [fxL] at hi; exact hi
    exact ⟨a0, a1⟩
  · obtain rfl : i = 0 := by simp [fxL] at hi; exact hi
    exact ⟨b0, b1, b2, b3⟩
theorem fx_ok (sb qb : Nat) : LnOk (fxL sb qb) := ⟨by simp [fxL], by simp [fxL], by simp [fxL], by simp [fxL]⟩
def fxF : Nat → Col := layF 2 1 (fun _ => z4) (fun _ => false) [(0, 0)] [(9, 0, 0, 1)]
def fxM : Nat → Bool := layM 2 1 (fun _ => false) [(0, 0)] 1
theorem fx_e : layE 2 1 (fun _ => false) [(0, 0)] 1 = 0 := by decide
theorem fx_n : layN 2 1 (fun _ => false) [(0, 0)] 1 0 = 1 := by decide
theorem fx_at : atB 2 1 fxM (1, 0) = false := by decide
theorem fx_v0 : vwG 2 1 fxF fxM (cuL false) 0 = (9, 0, 0, 1) := by decide
theorem fx_v1 : vwG 2 1 fxF fxM (cuL false) 1 = (9, 0, 0, 1) := by decide
set_option maxHeartbeats 3200000 in
set_option maxRecDepth 100000 in
theorem cvfixed_any (w : World) : Calls Try.prog 8 #[] w fun e w' => e = .returned (.bool true) ∧ Below w.heap.size w w' := by
  obtain ⟨w1, hw1⟩ : ∃ w1, w.alloc (.cells #[.int .u16 9, .int .u16 0, .int .u16 0, .int .u16 1] 49) = w1 := ⟨_, rfl⟩
  have HB1 : Hid (Below w.heap.size w w1 ∧ w1.heap[w.heap.size]? = some (.cells #[.int .u16 9, .int .u16 0, .int .u16 0, .int .u16 1] 49 (0, 0))) := by rw [← hw1]; exact ⟨below_new _ _, World.alloc_heap_new w _⟩
  go_enter Try.func8, Try.ntmps8
  go_wp2_with fail
  refine (new_yes fx_sz w1).mono ?_
  clear hw1
  rintro e w2 ⟨c, p, k, rfl, hv2, hc, hp, hk, hb2⟩
  have H2 : Hid (Cv w2 c p k 2 1 2 (fun _ => z4) (fun _ => false) 0 ∧ w1.heap.size ≤ c ∧ w1.heap.size ≤ p ∧ w1.heap.size ≤ k ∧ Below w1.heap.size w1 w2) := ⟨hv2, hc, hp, hk, hb2⟩
  have hr2 : w2.heap[w.heap.size]? = some (.cells #[.int .u16 9, .int .u16 0, .int .u16 0, .int .u16 1] 49 (0, 0)) := (hb2.block _ (lt_of_block HB1.out.2)).trans HB1.out.2
  obtain ⟨wA, hwA⟩ : ∃ wA, w2.alloc (.cells #[.int .i64 0, .int .i64 0] 58) = wA := ⟨_, rfl⟩
  have hrA : wA.heap[w.heap.size]? = some (.cells #[.int .u16 9, .int .u16 0, .int .u16 0, .int .u16 1] 49 (0, 0)) := by rw [← hwA]; exact ((below_new w2 _).block _ (lt_of_block hr2)).trans hr2
  have hsA : wA.heap.size = w2.heap.size + 1 := by rw [← hwA]; simp
  obtain ⟨q0, q1, q2, q3, -⟩ := four_cells hrA
  clear hv2 hc hp hk hb2
  obtain ⟨w3, hw3⟩ : ∃ w3, wA.alloc (.cells #[.int .u16 9, .int .u16 0, .int .u16 0, .int .u16 1] 49) = w3 := ⟨_, rfl⟩
  have H3 : Hid (Below w2.heap.size w2 w3 ∧ w3.heap[w2.heap.size]? = some (.cells #[.int .i64 0, .int .i64 0] 58 (0, 0)) ∧ w3.heap[w2.heap.size + 1]? = some (.cells #[.int .u16 9, .int .u16 0, .int .u16 0, .int .u16 1] 49 (0, 0))) := by
    rw [← hw3, ← hwA]
    refine ⟨((Below.refl _ w2).alloc (Nat.le_refl _) _).alloc (by simp) _, ?_, ?_⟩
    · rw [Below.heap_alloc _ _ _ (by simp)]; exact World.alloc_heap_new w2 _
    · have := World.alloc_heap_new (w2.alloc (.cells #[.int .i64 0, .int .i64 0] 58)) (.cells #[.int .u16 9, .int .u16 0, .int .u16 0, .int .u16 1] 49); rwa [World.size_alloc] at this
  have CL := lay_any (H2.out.1.old H3.out.1) (fxL w2.heap.size (w2.heap.size + 1)) (fx_ok _ _) (fun w' hf => fx_row ((hf.block _ (lt_of_block H3.out.2.1) (by have := lt_of_block H2.out.1.st; omega) (by have := H2.out.1.px.lt; omega) (by have := H2.out.1.kn.lt; omega)).trans H3.out.2.1) ((hf.block _ (lt_of_block H3.out.2.2) (by have := lt_of_block H2.out.1.st; omega) (by have := H2.out.1.px.lt; omega) (by have := H2.out.1.kn.lt; omega)).trans H3.out.2.2)) ⟨by omega, by omega⟩
  have ev : (fxL w2.heap.size (w2.heap.size + 1)).V = .agg #[.int .i64 0, .slice (some ⟨w2.heap.size, 0, none⟩) 1 1, .slice (some ⟨w2.heap.size + 1, 0, none⟩) 1 1] := rfl
  rw [ev] at CL
  clear ev
  go_wp2_with fail
  refine CL.mono ?_
  clear CL hw3 hwA hrA hsA
  rintro e w4 ⟨rfl, hf4, hv4⟩
  have hv4' : Cv w4 c p k 2 1 2 fxF fxM 1 := hv4
  have H4 : Hid (Cv w4 c p k 2 1 2 fxF fxM 1 ∧ Below w1.heap.size w1 w4) := ⟨hv4', F3.below (H2.out.2.2.2.2.trans (H3.out.1.mono H2.out.2.2.2.2.size)) hf4 H2.out.2.1 H2.out.2.2.1 H2.out.2.2.2.1 (Nat.le_trans H2.out.2.2.2.2.size H3.out.1.size)⟩
  clear hf4 hv4 hv4' hr2 q0 q1 q2 q3 H2 H3
  rw [show layE 2 1 (fun _ => false) (fxL w2.heap.size (w2.heap.size + 1)).S (fxL w2.heap.size (w2.heap.size + 1)).C.length = 0 from fx_e]
  have CA := at_any H4.out.1 1 0
  rw [fx_at] at CA
  go_wp2_with fail
  refine CA.mono ?_
  clear CA
  rintro e w5 ⟨rfl, hb5⟩
  have H5 : Hid (Cv w5 c p k 2 1 2 fxF fxM 1 ∧ Below w1.heap.size w1 w5) := ⟨H4.out.1.old hb5, H4.out.2.trans (hb5.mono H4.out.2.size)⟩
  clear hb5 H4
  rw [show atV 2 1 fxF fxM (1, 0) = (0, 0, 0, 0) by unfold atV; rw [fx_at]; rfl]
  unfold colV
  simp only
  obtain ⟨w6, hw6⟩ : ∃ w6, w6 = w5.alloc (.cells #[.int .u16 0, .int .u16 0, .int .u16 0, .int .u16 0] 49) := ⟨_, rfl⟩
  have H6 : Hid (Cv w6 c p k 2 1 2 fxF fxM 1 ∧ Below w1.heap.size w1 w6) := by
    have hb := below_new w5 (.cells #[.int .u16 0, .int .u16 0, .int .u16 0, .int .u16 0] 49)
    rw [← hw6] at hb
    exact ⟨H5.out.1.old hb, H5.out.2.trans (hb.mono H5.out.2.size)⟩
  have CV := view_any H6.out.1 false
  have HW6 : Hid (w6 = w5.alloc (.cells #[.int .u16 0, .int .u16 0, .int .u16 0, .int .u16 0] 49)) := hw6
  clear hw6
  go_wp2_with fail
  rw [← HW6.out]
  refine CV.mono ?_
  clear CV HW6 H5
  rintro e w7 ⟨g, cp, rfl, h1, h2, h3, h4, h5⟩
  obtain ⟨w8, hw8⟩ : ∃ w8, w7.alloc (.cells #[.int .i64 2, .int .i64 1, .slice (some ⟨g, 0, none⟩) 2 cp] 41) = w8 := ⟨_, rfl⟩
  have hb8 : Below w7.heap.size w7 w8 := by rw [← hw8]; exact below_new _ _
  have hn8 : w8.heap[w7.heap.size]? = some (.cells #[.int .i64 2, .int .i64 1, .slice (some ⟨g, 0, none⟩) 2 cp] 41 (0, 0)) := by rw [← hw8]; exact World.alloc_heap_new w7 _
  have H8 : Hid (Cv w8 c p k 2 1 2 fxF fxM 1 ∧ Below w1.heap.size w1 w8) := ⟨(H6.out.1.old h5).old hb8, (H6.out.2.trans (h5.mono H6.out.2.size)).trans (hb8.mono (Nat.le_trans H6.out.2.size h5.size))⟩
  have hp8 : PxM w8 g 2 (vwG 2 1 fxF fxM (cuL false)) := h3.same (hb8.block _ h3.lt)
  obtain ⟨g0, g1, g2, g3⟩ := hp8.cells (i := 0) (by omega)
  obtain ⟨g4, g5, g6, g7⟩ := hp8.cells (i := 1) (by omega)
  rw [fx_v0] at g0 g1 g2 g3
  rw [fx_v1] at g4 g5 g6 g7
  simp only [Nat.zero_mul, Nat.one_mul, Nat.zero_add, Nat.reduceAdd] at g0 g1 g2 g3 g4 g5 g6 g7
  have hr8 : w8.heap[w.heap.size]? = some (.cells #[.int .u16 9, .int .u16 0, .int .u16 0, .int .u16 1] 49 (0, 0)) := (H8.out.2.block _ (lt_of_block HB1.out.2)).trans HB1.out.2
  obtain ⟨q0, q1, q2, q3, -⟩ := four_cells hr8
  obtain ⟨-, -, i2, -⟩ := three_cells hn8
  have CC := ccount_any (H8.out.1.old (below_drew w8))
  have CF := cfull_any (H8.out.1.old (below_drew w8))
  rw [show ((1 : Int) == ((2 : Nat) : Int)) = false from rfl] at CF
  have HE : Hid (∀ m, Below w.heap.size w (w8.drewN m)) := fun m => (HB1.out.1.trans (H8.out.2.mono HB1.out.1.size)).trans ⟨rfl, rfl, rfl, Nat.le_refl _, fun _ _ => rfl⟩
  clear h2 h3 h4 h5 hb8 hn8 hp8 hr8 H6 H8 HB1
  go_upto_region 6 with fail
  generalize w7.heap.size = vb at *
  obtain ⟨rb, hrb⟩ : ∃ rb, w.heap.size = rb := ⟨_, rfl⟩
  rw [hrb] at q0 q1 q2 q3 ⊢
  clear hw8 hrb
  go_region_held3 (fun u => u.cell? ⟨vb, 2, none⟩ = some (.slice (some ⟨g, 0, none⟩) 2 cp) ∧ u.cell? ⟨g, 0, none⟩ = some (.int .u16 9) ∧ u.cell? ⟨g, 1, none⟩ = some (.int .u16 0) ∧ u.cell? ⟨g, 2, none⟩ = some (.int .u16 0) ∧ u.cell? ⟨g, 3, none⟩ = some (.int .u16 1) ∧ u.cell? ⟨g, 4, none⟩ = some (.int .u16 9) ∧ u.cell? ⟨g, 5, none⟩ = some (.int .u16 0) ∧ u.cell? ⟨g, 6, none⟩ = some (.int .u16 0) ∧ u.cell? ⟨g, 7, none⟩ = some (.int .u16 1) ∧ u.cell? ⟨rb, 0, none⟩ = some (.int .u16 9) ∧ u.cell? ⟨rb, 1, none⟩ = some (.int .u16 0) ∧ u.cell? ⟨rb, 2, none⟩ = some (.int .u16 0) ∧ u.cell? ⟨rb, 3, none⟩ = some (.int .u16 1))
      (first | go_keep)
      (first | (go_at_call 23; with_reducible refine Calls.mono CF ?_; rintro e w9 ⟨rfl, rfl⟩) | (go_at_call 20; with_reducible refine Calls.mono CC ?_; rintro e w9 ⟨rfl, rfl⟩) | fail)
  go_wp2
  go_ret
  exact ⟨rfl, HE.out 2⟩
end Go.Proofs.Ytjheipfcehddhaa
