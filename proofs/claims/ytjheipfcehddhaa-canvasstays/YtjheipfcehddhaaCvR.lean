/- A canvas is what the document's is: the law's same. -/
import Derived.Test.YtjheipfcehddhaaCvQ
namespace Go.Proofs.Ytjheipfcehddhaa
open Go.RowKit
theorem set4_heap {w : World} {r : Nat} {a b c d : Value} {t : TypeId} (h : w.heap[r]? = some (.cells #[a, b, c, d] t (0, 0))) (x y z u : Value) : ((((w.setCell ⟨r, 0, none⟩ x).setCell ⟨r, 1, none⟩ y).setCell ⟨r, 2, none⟩ z).setCell ⟨r, 3, none⟩ u).heap[r]? = some (.cells #[x, y, z, u] t (0, 0)) := by
  have e0 := heap_setCell_same w r 0 _ _ x h
  have e1 := heap_setCell_same _ r 1 _ _ y e0
  have e2 := heap_setCell_same _ r 2 _ _ z e1
  have e3 := heap_setCell_same _ r 3 _ _ u e2
  exact e3
set_option maxHeartbeats 6400000 in
set_option maxRecDepth 100000 in
theorem lsame_any {w : World} {c p k c' p' k' : Nat} {W H : Int} {N : Nat} {F : Nat → Col} {M : Nat → Bool} {n : Int} (h : Cv w c p k W H N F M n) (h' : Rv w c' p' k' W H N F M) (hv : Iv N F M n) : Calls Try.prog 14 #[.pointer (some ⟨c, 0, none⟩), .pointer (some ⟨c', 0, none⟩)] w fun e w' => e = .returned (.bool true) ∧ Below w.heap.size w w' := by
  have CM := cmask_any h
  have HV : Hid (Cv w c p k W H N F M n ∧ Rv w c' p' k' W H N F M ∧ Iv N F M n) := ⟨h, h', hv⟩
  clear h h' hv
  go_enter Try.func14, Try.ntmps14
  go_wp2_with fail
  refine CM.mono ?_
  clear CM
  rintro e w2 ⟨mg, mc, rfl, hm1, hm2, hm3, hm4, hb2⟩
  have H2 : Hid (Below w.heap.size w w2 ∧ Cv w2 c p k W H N F M n ∧ Rv w2 c' p' k' W H N F M ∧ KnM w2 mg N M) := ⟨hb2, HV.out.1.old hb2, HV.out.2.1.old hb2, hm3⟩
  clear hm3 hm4 hb2
  have HIv : Hid (Iv N F M n) := HV.out.2.2
  have hN := HV.out.1.sz.m
  clear HV
  go_upto_region 2 with fail
  have CC := ccount_any (H2.out.2.1.old (below_drew w2))
  have CR1 := rcount_any (H2.out.2.2.1.old (below_drew w2))
  have CF := cfull_any (H2.out.2.1.old (below_drew w2))
  have CR2 := rcount_any (H2.out.2.2.1.old (w' := w2.drew.drew) ⟨rfl, rfl, rfl, Nat.le_refl _, fun _ _ => rfl⟩)
  have hn := HIv.out.n
  rw [hn] at CC CF
  have hcl := cntM_le M N
  generalize cntM M N = ct at *
  obtain ⟨-, -, -, r3⟩ := H2.out.2.2.1.cells
  obtain ⟨fb, hfb⟩ : ∃ fb, ((ct : Int) == (N : Int)) = fb := ⟨_, rfl⟩
  rw [hfb] at CF
  clear hn
  go_region_held3 (fun u => u.cell? ⟨c', 3, none⟩ = some (.slice (some ⟨k', 0, none⟩) N N))
    (first | (with_reducible assumption) | go_keep)
    (first | (go_at_call 20; with_reducible refine Calls.mono CC ?_; rintro e w9 ⟨rfl, rfl⟩; clear CC) | (go_at_call 23; with_reducible refine Calls.mono CF ?_; rintro e w9 ⟨rfl, rfl⟩; clear CF) | (go_at_call 31; with_reducible refine Calls.mono CR1 ?_; rintro e w9 ⟨rfl, rfl⟩; clear CR1) | (go_at_call 31; with_reducible refine Calls.mono CR2 ?_; rintro e w9 ⟨rfl, rfl⟩; clear CR2) | fail)
  clear r3 hfb hm2
  have HW3 : Hid (Below w.heap.size w w2.drew.drew ∧ Cv w2.drew.drew c p k W H N F M n ∧ Rv w2.drew.drew c' p' k' W H N F M ∧ KnM w2.drew.drew mg N M) := ⟨H2.out.1.trans ⟨rfl, rfl, rfl, Nat.le_refl _, fun _ _ => rfl⟩, H2.out.2.1.same rfl rfl rfl, H2.out.2.2.1.same rfl rfl rfl, H2.out.2.2.2.same rfl⟩
  clear H2
  generalize w2.drew.drew = w3 at *
  go_wp2
  go_loopw [41] (fun v wr => ∃ i : Nat, i ≤ N ∧ v = .int .i64 i ∧ Hid (Below w3.heap.size w3 wr)) (fun v _ => N - (intOf v).toNat)
  case atStart => exact ⟨0, Nat.zero_le _, rfl, Below.refl _ _⟩
  case round =>
    obtain ⟨i, hi, rfl, HB⟩ := hrel
    have HR : Hid (Below w.heap.size w wr ∧ Cv wr c p k W H N F M n ∧ Rv wr c' p' k' W H N F M ∧ KnM wr mg N M) := ⟨HW3.out.1.trans (HB.out.mono HW3.out.1.size), HW3.out.2.1.old HB.out, HW3.out.2.2.1.old HB.out, HW3.out.2.2.2.same (HB.out.block _ HW3.out.2.2.2.lt)⟩
    by_cases hlt : i < N
    · obtain ⟨hX, hY⟩ := at_place HR.out.2.1.sz HIv.out hlt
      have hW1 := HR.out.2.1.sz.w1
      have hW0 : ¬ W = 0 := by omega
      obtain ⟨X, hXe⟩ : ∃ X, (i : Int) % W = X := ⟨_, rfl⟩
      obtain ⟨Y, hYe⟩ : ∃ Y, (i : Int) / W = Y := ⟨_, rfl⟩
      have hXt : (i : Int).tmod W = X := by rw [Int.tmod_eq_emod_of_nonneg (by omega)]; exact hXe
      have hYt : IntKind.i64.wrap ((i : Int) / W) = Y := by
        rw [hYe, IntKind.wrap_i64]
        have h1 := Int.ediv_nonneg (show (0 : Int) ≤ (i : Int) by omega) (show 0 ≤ W by omega)
        have h2 := Int.ediv_le_self W (show (0 : Int) ≤ (i : Int) by omega)
        omega
      rw [hXe, hYe] at hX hY
      clear hXe hYe
      have HCA : Hid (∀ u, Below wr.heap.size wr u → Calls Try.prog 24 #[.pointer (some ⟨c, 0, none⟩), .int .i64 X, .int .i64 Y] u fun e w' => e = .returned (.tuple #[colV (F i), .bool (M i)]) ∧ Below u.heap.size u w') := fun u hu => by
        have := at_any (HR.out.2.1.old hu) X Y
        rw [hX, hY] at this
        exact this
      obtain ⟨k0, k1, k2, k3⟩ := HR.out.2.2.1.cells
      clear hX hY
      go_upto_region 7 with fail
      unfold colV at HCA
      obtain ⟨mi, hMi⟩ : ∃ mi, M i = mi := ⟨_, rfl⟩
      obtain ⟨⟨f1, f2, f3, f4⟩, hcl⟩ : ∃ f : Col, F i = f := ⟨_, rfl⟩
      rw [hMi, hcl] at HCA
      simp only at HCA
      have CA1 : Calls Try.prog 24 #[.pointer (some ⟨c, 0, none⟩), .int .i64 X, .int .i64 Y] wr.drew fun e w' => e = .returned (.tuple #[.agg #[.int .u16 f1, .int .u16 f2, .int .u16 f3, .int .u16 f4], .bool mi]) ∧ Below wr.heap.size wr w' :=
        (HCA.out wr.drew (below_drew _)).mono fun e w' ⟨h1, h2⟩ => ⟨h1, h2.os, h2.tape, h2.output, h2.size, h2.block⟩
      have CA2 : ∀ u, Below wr.heap.size wr u → u.heap[wr.heap.size]? = some (.cells #[.int .u16 0, .int .u16 0, .int .u16 0, .int .u16 0] 49 (0, 0)) → Calls Try.prog 24 #[.pointer (some ⟨c, 0, none⟩), .int .i64 X, .int .i64 Y] u fun e w' => e = .returned (.tuple #[.agg #[.int .u16 f1, .int .u16 f2, .int .u16 f3, .int .u16 f4], .bool mi]) ∧ Below wr.heap.size wr w' ∧ w'.heap[wr.heap.size]? = some (.cells #[.int .u16 0, .int .u16 0, .int .u16 0, .int .u16 0] 49 (0, 0)) :=
        fun u hu hz => (HCA.out u hu).mono fun e w' ⟨h1, h2⟩ => ⟨h1, hu.trans (h2.mono hu.size), (h2.block _ (lt_of_block hz)).trans hz⟩
      have CA3 := CA2 (wr.alloc (.cells #[.int .u16 0, .int .u16 0, .int .u16 0, .int .u16 0] 49)).drew (below_undrew2 (below_new _ _)) (World.alloc_heap_new wr _)
      have CA4 := CA2 (wr.drew.alloc (.cells #[.int .u16 0, .int .u16 0, .int .u16 0, .int .u16 0] 49)) (by have := below_new wr.drew (.cells #[.int .u16 0, .int .u16 0, .int .u16 0, .int .u16 0] 49); exact ⟨this.os, this.tape, this.output, this.size, this.block⟩) (World.alloc_heap_new wr.drew _)
      clear CA2 HCA
      have hne : c' ≠ wr.heap.size := by have := lt_of_block HR.out.2.2.1.st; omega
      have HHM : Hid (M i = mi ∧ F i = (f1, f2, f3, f4)) := ⟨hMi, hcl⟩
      clear hMi hcl
      go_region_held3 (fun u => u.cell? ⟨c', 0, none⟩ = some (.int .i64 W))
        (first | (with_reducible assumption) | (with_reducible exact (by (rw [cell_ne hne, cell_ne hne, cell_ne hne, cell_ne hne]; assumption))) | go_keep)
        (first | (go_at_call 24; (with_reducible refine Calls.mono CA1 ?_); rintro e w6 ⟨rfl, hb6⟩; have HB6 : Hid (Below wr.heap.size wr w6) := hb6; obtain ⟨j0, -⟩ := (HR.out.2.2.1.old hb6).cells; clear hb6 CA1 CA3 CA4) | (go_at_call 24; (with_reducible refine Calls.mono CA3 ?_); rintro e w6 ⟨rfl, hb6, hz6⟩; have HB6 : Hid (Below wr.heap.size wr w6 ∧ w6.heap[wr.heap.size]? = some (.cells #[.int .u16 0, .int .u16 0, .int .u16 0, .int .u16 0] 49 (0, 0))) := ⟨hb6, hz6⟩; obtain ⟨j0, -⟩ := (HR.out.2.2.1.old hb6).cells; obtain ⟨z0, z1, z2, z3, fz⟩ := four_cells hz6; have fz0 := fz 0; have fz1 := fz 1; have fz2 := fz 2; have fz3 := fz 3; clear hb6 hz6 fz CA1 CA3 CA4) | (go_at_call 24; (with_reducible refine Calls.mono CA4 ?_); rintro e w6 ⟨rfl, hb6, hz6⟩; have HB6 : Hid (Below wr.heap.size wr w6 ∧ w6.heap[wr.heap.size]? = some (.cells #[.int .u16 0, .int .u16 0, .int .u16 0, .int .u16 0] 49 (0, 0))) := ⟨hb6, hz6⟩; obtain ⟨j0, -⟩ := (HR.out.2.2.1.old hb6).cells; obtain ⟨z0, z1, z2, z3, fz⟩ := four_cells hz6; have fz0 := fz 0; have fz1 := fz 1; have fz2 := fz 2; have fz3 := fz 3; clear hb6 hz6 fz CA1 CA3 CA4) | fail)
      · have HBz : Hid (Below wr.heap.size wr (w6.alloc (.cells #[.int .u16 f1, .int .u16 f2, .int .u16 f3, .int .u16 f4] 49))) := HB6.out.trans ((below_new w6 _).mono HB6.out.size)
        have hq : (w6.alloc (.cells #[.int .u16 f1, .int .u16 f2, .int .u16 f3, .int .u16 f4] 49)).heap[w6.heap.size]? = some (.cells #[.int .u16 f1, .int .u16 f2, .int .u16 f3, .int .u16 f4] 49 (0, 0)) := World.alloc_heap_new w6 _
        generalize w6.alloc (.cells #[.int .u16 f1, .int .u16 f2, .int .u16 f3, .int .u16 f4] 49) = wz at *
        generalize w6.heap.size = qb at *
        clear j0
        obtain ⟨q0, q1, q2, q3, -⟩ := four_cells hq
        obtain ⟨hMi, hcl⟩ := HHM.out
        go_upto_region 8 with fail
        have HRz : Hid (Below w.heap.size w wz ∧ Cv wz c p k W H N F M n ∧ Rv wz c' p' k' W H N F M ∧ KnM wz mg N M) := ⟨HR.out.1.trans (HBz.out.mono HR.out.1.size), HR.out.2.1.old HBz.out, HR.out.2.2.1.old HBz.out, HR.out.2.2.2.same (HBz.out.block _ HR.out.2.2.2.lt)⟩
        obtain ⟨z0, z1, z2, z3⟩ := HRz.out.2.2.1.cells
        have y1 := HRz.out.2.2.2.cell hlt
        have y2 := HRz.out.2.2.1.kn.cell hlt
        obtain ⟨p0, p1, p2, p3⟩ := HRz.out.2.2.1.px.cells hlt
        have hltI : (i : Int) < (N : Int) := by omega
        rw [hcl] at p0 p1 p2 p3
        rw [hMi] at y1 y2
        simp only at p0 p1 p2 p3
        refine wp_region_still_tail 33 (by kernel_rfl) (by kernel_rfl) ?_
        simp only [List.take_succ_cons, List.take_zero, List.drop_succ_cons, List.drop_zero]
        rw [show ({ wz with drawn := wz.drawn + 1 } : World) = wz.drew from rfl]
        repeat still_step
        refine wpStill_nil ?_
        go_wp2
        go_roundw
        case rel => exact ⟨i + 1, by omega, by go_num, below_undrew2 (HB.out.trans (HBz.out.mono HB.out.size))⟩
        case measure => simp [intOf]; omega
      · have HBz : Hid (Below wr.heap.size wr ((((w6.setCell ⟨wr.heap.size, 0, none⟩ (.int .u16 f1)).setCell ⟨wr.heap.size, 1, none⟩ (.int .u16 f2)).setCell ⟨wr.heap.size, 2, none⟩ (.int .u16 f3)).setCell ⟨wr.heap.size, 3, none⟩ (.int .u16 f4))) := below_set4 HB6.out.1 _ _ _ _
        have hq := set4_heap HB6.out.2 (.int .u16 f1) (.int .u16 f2) (.int .u16 f3) (.int .u16 f4)
        clear z0 z1 z2 z3 fz0 fz1 fz2 fz3
        generalize (((w6.setCell ⟨wr.heap.size, 0, none⟩ (.int .u16 f1)).setCell ⟨wr.heap.size, 1, none⟩ (.int .u16 f2)).setCell ⟨wr.heap.size, 2, none⟩ (.int .u16 f3)).setCell ⟨wr.heap.size, 3, none⟩ (.int .u16 f4) = wz at *
        clear j0
        obtain ⟨q0, q1, q2, q3, -⟩ := four_cells hq
        obtain ⟨hMi, hcl⟩ := HHM.out
        go_upto_region 8 with fail
        have HRz : Hid (Below w.heap.size w wz ∧ Cv wz c p k W H N F M n ∧ Rv wz c' p' k' W H N F M ∧ KnM wz mg N M) := ⟨HR.out.1.trans (HBz.out.mono HR.out.1.size), HR.out.2.1.old HBz.out, HR.out.2.2.1.old HBz.out, HR.out.2.2.2.same (HBz.out.block _ HR.out.2.2.2.lt)⟩
        obtain ⟨z0, z1, z2, z3⟩ := HRz.out.2.2.1.cells
        have y1 := HRz.out.2.2.2.cell hlt
        have y2 := HRz.out.2.2.1.kn.cell hlt
        obtain ⟨p0, p1, p2, p3⟩ := HRz.out.2.2.1.px.cells hlt
        have hltI : (i : Int) < (N : Int) := by omega
        rw [hcl] at p0 p1 p2 p3
        rw [hMi] at y1 y2
        simp only at p0 p1 p2 p3
        refine wp_region_still_tail 33 (by kernel_rfl) (by kernel_rfl) ?_
        simp only [List.take_succ_cons, List.take_zero, List.drop_succ_cons, List.drop_zero]
        rw [show ({ wz with drawn := wz.drawn + 1 } : World) = wz.drew from rfl]
        repeat still_step
        refine wpStill_nil ?_
        go_wp2
        go_roundw
        case rel => exact ⟨i + 1, by omega, by go_num, below_undrew2 (HB.out.trans (HBz.out.mono HB.out.size))⟩
        case measure => simp [intOf]; omega
    · obtain rfl : i = N := by omega
      have HCI : Hid (Calls Try.prog 18 #[.pointer (some ⟨c, 0, none⟩)] wr.drew fun e w' => ImT wr W H i F e w') :=
        (cimage_any (HR.out.2.1.old (below_drew _))).mono fun e w' ⟨g, cp, h1, h2, h3, h4, h5, h6⟩ => ⟨g, cp, h1, h2, h3, h4, h5, h6.os, h6.tape, h6.output, h6.size, h6.block⟩
      obtain ⟨k0, k1, k2, -⟩ := HR.out.2.2.1.cells
      go_upto_region 11 with fail
      go_region_held3 (fun u => u.cell? ⟨c', 0, none⟩ = some (.int .i64 W) ∧ u.cell? ⟨c', 1, none⟩ = some (.int .i64 H) ∧ u.cell? ⟨c', 2, none⟩ = some (.slice (some ⟨p', 0, none⟩) i i))
        (first | (with_reducible exact ⟨by with_reducible assumption, by with_reducible assumption, by with_reducible assumption⟩) | go_keep)
        (first | (go_at_call 18; refine Calls.mono HCI.out ?_; rintro e w6 ⟨g, cp, rfl, q1, q2, q3, q4, q5⟩; have HB6 : Hid (Below wr.heap.size wr w6 ∧ PxM w6 g i F ∧ PxM w6 p' i F) := ⟨q5, q3, HR.out.2.2.1.px.same (q5.block _ HR.out.2.2.1.px.lt)⟩; obtain ⟨j0, j1, j2, -⟩ := (HR.out.2.2.1.old q5).cells; clear q1 q2 q3 q4 q5 HCI) | (go_at_call 15; refine Calls.mono (csame_any W H i F g p' cp i _ hN HB6.out.2.1 HB6.out.2.2) ?_; rintro e w7 ⟨rfl, hb7⟩; have HB7 : Hid (Below w6.heap.size w6 w7) := hb7; obtain ⟨l0, l1, l2, -⟩ := (((HR.out.2.2.1.old HB6.out.1).old hb7).cells); clear hb7) | fail)
      go_wp2
      go_ret
      exact ⟨rfl, HR.out.1.trans ((HB6.out.1.trans (HB7.out.mono HB6.out.1.size)).mono HR.out.1.size)⟩
end Go.Proofs.Ytjheipfcehddhaa
