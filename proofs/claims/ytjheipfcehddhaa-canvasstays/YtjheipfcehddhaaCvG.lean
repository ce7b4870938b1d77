/- A pixel that is told. -/
import Derived.Test.YtjheipfcehddhaaCvF
namespace Go.Proofs.Ytjheipfcehddhaa
open Go.RowKit
theorem below_set4 {w w1 : World} (h : Below w.heap.size w w1) (a b c d : Value) : Below w.heap.size w ((((w1.setCell ⟨w.heap.size, 0, none⟩ a).setCell ⟨w.heap.size, 1, none⟩ b).setCell ⟨w.heap.size, 2, none⟩ c).setCell ⟨w.heap.size, 3, none⟩ d) :=
  (((h.setCell (p := ⟨w.heap.size, 0, none⟩) (Nat.le_refl _) _).setCell (p := ⟨w.heap.size, 1, none⟩) (Nat.le_refl _) _).setCell (p := ⟨w.heap.size, 2, none⟩) (Nat.le_refl _) _).setCell (p := ⟨w.heap.size, 3, none⟩) (Nat.le_refl _) _
theorem below_undrew {B : Nat} {w w1 : World} (h : Below B w w1) : Below B w w1.drew := ⟨h.os, h.tape, h.output, h.size, h.block⟩
set_option maxHeartbeats 3200000 in
theorem at_off {w : World} {c p k : Nat} {W H : Int} {N : Nat} {F : Nat → Col} {M : Nat → Bool} {n : Int} (h : Cv w c p k W H N F M n) (x y : Int) (hon : onC W H (x, y) = false) : Calls Try.prog 24 #[.pointer (some ⟨c, 0, none⟩), .int .i64 x, .int .i64 y] w fun e w' => AtPost w (atV W H F M (x, y)) (atB W H M (x, y)) e w' := by
  have HB1 := below_new w (.cells #[.int .u16 0, .int .u16 0, .int .u16 0, .int .u16 0] 49)
  have HX : Hid ((w.alloc (.cells #[.int .u16 0, .int .u16 0, .int .u16 0, .int .u16 0] 49)).heap[w.heap.size]? = some (.cells #[.int .u16 0, .int .u16 0, .int .u16 0, .int .u16 0] 49 (0, 0))) := World.alloc_heap_new w _
  have CH := fun (w1 : World) (hb : Below w.heap.size w w1) => chas_any (h.old hb) x y
  rw [show atB W H M (x, y) = false by unfold atB; rw [hon]; rfl, show atV W H F M (x, y) = (0, 0, 0, 0) by unfold atV atB; rw [hon]; rfl]
  simp only [hon] at CH
  go_enter Try.func24, Try.ntmps24
  go_upto_region 1 with fail
  generalize w.alloc (.cells #[.int .u16 0, .int .u16 0, .int .u16 0, .int .u16 0] 49) = w1 at *
  have CH1 := CH w1.drew (HB1.trans ⟨rfl, rfl, rfl, Nat.le_refl _, fun _ _ => rfl⟩)
  have HBB : Hid (Below w.heap.size w w1) := HB1
  clear CH h HB1
  refine wp_region_still_tail 21 (by kernel_rfl) (by kernel_rfl) ?_
  simp only [List.take_succ_cons, List.take_zero, List.drop_succ_cons, List.drop_zero]
  rw [show ({ w1 with drawn := w1.drawn + 1 } : World) = w1.drew from rfl]
  iterate 6 still_step
  still_call CH1
  still_step
  ((with_reducible refine wpStill_step (fun K hK => ?_)); go_simp; (with_reducible refine hK _ ?_); clear hK K)
  iterate 12
    ((with_reducible refine wpStill_step (fun K hK => ?_)); go_simp; (with_reducible refine hK _ ?_); clear hK K)
  with_reducible refine wpStill_nil ?_
  obtain ⟨r0, r1, r2, r3, fz⟩ := four_cells HX.out
  have f0 := fz 0
  have f1 := fz 1
  have f2 := fz 2
  have f3 := fz 3
  have HE : Hid (AtPost w (0, 0, 0, 0) false (.returned (.tuple #[.agg #[.int .u16 0, .int .u16 0, .int .u16 0, .int .u16 0], .bool false])) ((((w1.setCell ⟨w.heap.size, 0, none⟩ (.int .u16 0)).setCell ⟨w.heap.size, 1, none⟩ (.int .u16 0)).setCell ⟨w.heap.size, 2, none⟩ (.int .u16 0)).setCell ⟨w.heap.size, 3, none⟩ (.int .u16 0)).drew) := ⟨rfl, below_undrew (below_set4 HBB.out _ _ _ _)⟩
  clear fz HX
  go_wp2
  refine bodyPost_ret (v := .tuple #[.agg #[.int .u16 0, .int .u16 0, .int .u16 0, .int .u16 0], .bool false]) ?_ rfl HE.out
  rw [results_cellV rfl]
  go_simp
set_option maxHeartbeats 3200000 in
theorem at_any {w : World} {c p k : Nat} {W H : Int} {N : Nat} {F : Nat → Col} {M : Nat → Bool} {n : Int} (h : Cv w c p k W H N F M n) (x y : Int) : Calls Try.prog 24 #[.pointer (some ⟨c, 0, none⟩), .int .i64 x, .int .i64 y] w fun e w' => AtPost w (atV W H F M (x, y)) (atB W H M (x, y)) e w' := by
  have HB1 := below_new w (.cells #[.int .u16 0, .int .u16 0, .int .u16 0, .int .u16 0] 49)
  have HX : Hid ((w.alloc (.cells #[.int .u16 0, .int .u16 0, .int .u16 0, .int .u16 0] 49)).heap[w.heap.size]? = some (.cells #[.int .u16 0, .int .u16 0, .int .u16 0, .int .u16 0] 49 (0, 0))) := World.alloc_heap_new w _
  by_cases hon : onC W H (x, y) = true
  · have hI := (h.sz.ix hon).2.2.2
    have hN := h.sz.m
    have CI := fun (w1 : World) (hb : Below w.heap.size w w1) => cindex_any (h.old hb) x y hon
    have CH := fun (w1 : World) (hb : Below w.heap.size w w1) => chas_any (h.old hb) x y
    rw [show atB W H M (x, y) = M (ixC W (x, y)) by unfold atB; rw [hon]; rfl, show atV W H F M (x, y) = if M (ixC W (x, y)) then F (ixC W (x, y)) else (0, 0, 0, 0) by unfold atV atB; rw [hon]; rfl]
    simp only [hon] at CH
    generalize ixC W (x, y) = I at *
    have hI0 : (I : Int) < (N : Int) := by omega
    cases hM : M I with
    | false =>
      simp only [if_false, Bool.false_eq_true]
      go_enter Try.func24, Try.ntmps24
      go_upto_region 1 with fail
      generalize w.alloc (.cells #[.int .u16 0, .int .u16 0, .int .u16 0, .int .u16 0] 49) = w1 at *
      have HV := h.old HB1
      obtain ⟨k0, k1, k2, k3, k4, -⟩ := HV.cells
      have kk := HV.kn.cell hI
      rw [hM] at kk
      have CH1 := CH w1.drew (HB1.trans ⟨rfl, rfl, rfl, Nat.le_refl _, fun _ _ => rfl⟩)
      have CI1 := CI w1.drew (HB1.trans ⟨rfl, rfl, rfl, Nat.le_refl _, fun _ _ => rfl⟩)
      have HBB : Hid (Below w.heap.size w w1) := HB1
      clear CH CI h HB1 HV
      refine wp_region_still_tail 21 (by kernel_rfl) (by kernel_rfl) ?_
      simp only [List.take_succ_cons, List.take_zero, List.drop_succ_cons, List.drop_zero]
      rw [show ({ w1 with drawn := w1.drawn + 1 } : World) = w1.drew from rfl]
      repeat still_step
      still_call CH1
      repeat still_step
      still_call CI1
      repeat still_step
      refine wpStill_nil ?_
      obtain ⟨r0, r1, r2, r3, fz⟩ := four_cells HX.out
      have f0 := fz 0
      have f1 := fz 1
      have f2 := fz 2
      have f3 := fz 3
      have HE : Hid (AtPost w (0, 0, 0, 0) false (.returned (.tuple #[.agg #[.int .u16 0, .int .u16 0, .int .u16 0, .int .u16 0], .bool false])) ((((w1.setCell ⟨w.heap.size, 0, none⟩ (.int .u16 0)).setCell ⟨w.heap.size, 1, none⟩ (.int .u16 0)).setCell ⟨w.heap.size, 2, none⟩ (.int .u16 0)).setCell ⟨w.heap.size, 3, none⟩ (.int .u16 0)).drew) := ⟨rfl, below_undrew (below_set4 HBB.out _ _ _ _)⟩
      clear fz HX
      go_wp2
      refine bodyPost_ret (v := .tuple #[.agg #[.int .u16 0, .int .u16 0, .int .u16 0, .int .u16 0], .bool false]) ?_ rfl HE.out
      rw [results_cellV rfl]
      go_simp
    | true =>
      simp only [if_true]
      go_enter Try.func24, Try.ntmps24
      go_upto_region 1 with fail
      generalize w.alloc (.cells #[.int .u16 0, .int .u16 0, .int .u16 0, .int .u16 0] 49) = w1 at *
      have HV := h.old HB1
      obtain ⟨k0, k1, k2, k3, k4, -⟩ := HV.cells
      have kk := HV.kn.cell hI
      rw [hM] at kk
      obtain ⟨p0, p1, p2, p3⟩ := HV.px.cells hI
      have CI2 := CI w1.drew.drew (HB1.trans ⟨rfl, rfl, rfl, Nat.le_refl _, fun _ _ => rfl⟩)
      have CH1 := CH w1.drew (HB1.trans ⟨rfl, rfl, rfl, Nat.le_refl _, fun _ _ => rfl⟩)
      have CI1 := CI w1.drew (HB1.trans ⟨rfl, rfl, rfl, Nat.le_refl _, fun _ _ => rfl⟩)
      have HBB : Hid (Below w.heap.size w w1) := HB1
      clear CH CI h HB1 HV
      refine wp_region_still_tail 21 (by kernel_rfl) (by kernel_rfl) ?_
      simp only [List.take_succ_cons, List.take_zero, List.drop_succ_cons, List.drop_zero]
      rw [show ({ w1 with drawn := w1.drawn + 1 } : World) = w1.drew from rfl]
      repeat still_step
      still_call CH1
      repeat still_step
      still_call CI1
      repeat still_step
      refine wpStill_nil ?_
      go_upto_region 3 with fail
      obtain ⟨r0, r1, r2, r3, fz⟩ := four_cells HX.out
      have f0 := fz 0
      have f1 := fz 1
      have f2 := fz 2
      have f3 := fz 3
      obtain ⟨⟨c1, c2, c3, c4⟩, hcl⟩ : ∃ cl : Col, F I = cl := ⟨_, rfl⟩
      rw [hcl] at p0 p1 p2 p3
      simp only at p0 p1 p2 p3
      have HE : Hid (AtPost w (F I) true (.returned (.tuple #[.agg #[.int .u16 c1, .int .u16 c2, .int .u16 c3, .int .u16 c4], .bool true])) ((((w1.setCell ⟨w.heap.size, 0, none⟩ (.int .u16 c1)).setCell ⟨w.heap.size, 1, none⟩ (.int .u16 c2)).setCell ⟨w.heap.size, 2, none⟩ (.int .u16 c3)).setCell ⟨w.heap.size, 3, none⟩ (.int .u16 c4)).drew.drew) := by
        rw [hcl]
        exact ⟨rfl, below_undrew (below_undrew (below_set4 HBB.out _ _ _ _))⟩
      clear fz HX hcl
      refine wp_region_still_tail 10 (by kernel_rfl) (by kernel_rfl) ?_
      simp only [List.take_succ_cons, List.take_zero, List.drop_succ_cons, List.drop_zero]
      rw [show ({ w1.drew with drawn := w1.drew.drawn + 1 } : World) = w1.drew.drew from rfl]
      repeat still_step
      still_call CI2
      repeat still_step
      refine wpStill_nil ?_
      go_wp2
      refine bodyPost_ret (v := .tuple #[.agg #[.int .u16 c1, .int .u16 c2, .int .u16 c3, .int .u16 c4], .bool true]) ?_ rfl HE.out
      rw [results_cellV rfl]
      go_simp
  · exact at_off h x y (by simpa using hon)
end Go.Proofs.Ytjheipfcehddhaa
