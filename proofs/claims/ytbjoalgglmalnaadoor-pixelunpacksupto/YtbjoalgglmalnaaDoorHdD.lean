/- Which heads may be: the reference. -/
import Derived.Test.YtbjoalgglmalnaaDoorHdC
namespace Go.Proofs.YtbjoalgglmalnaaDoor
open Go.RowKit
theorem rmay_no {W H C D : Int} {L : Bool} {w : World} (h : W < 1 ∨ 2048 < W ∨ H < 1 ∨ 2048 < H ∨ 65536 < W * H) : Calls Tryd.prog 41 #[HdV W H C D L] w fun e w' => e = .returned (.bool false) ∧ Below w.heap.size w w' := by
  have HB1 : Hid (∀ o, Below w.heap.size w (w.alloc o)) := fun o => (Below.refl _ _).alloc (Nat.le_refl _) _
  unfold HdV
  by_cases h1 : W < 1
  · go_enter Tryd.func41, Tryd.ntmps41
    go_wp2
    go_ret
    exact ⟨rfl, HB1.out _⟩
  by_cases h2 : 2048 < W
  · go_enter Tryd.func41, Tryd.ntmps41
    go_wp2
    go_ret
    exact ⟨rfl, HB1.out _⟩
  by_cases h3 : H < 1
  · go_enter Tryd.func41, Tryd.ntmps41
    go_wp2
    go_ret
    exact ⟨rfl, HB1.out _⟩
  by_cases h4 : 2048 < H
  · go_enter Tryd.func41, Tryd.ntmps41
    go_wp2
    go_ret
    exact ⟨rfl, HB1.out _⟩
  · have h5 : 65536 < W * H := by omega
    have hm := mul_bd (show 1 ≤ W by omega) (by omega) (show 1 ≤ H by omega) (by omega)
    have hwr : wrap64 (W * H) = W * H := by unfold wrap64; generalize W * H = x at *; omega
    clear h
    go_enter Tryd.func41, Tryd.ntmps41
    go_wp2
    go_ret
    exact ⟨rfl, HB1.out _⟩
structure RmI (w wr : World) (C D : Int) : Prop where
  c2 : wr.cell? ⟨w.heap.size, 2, none⟩ = some (.int .i64 C)
  c3 : wr.cell? ⟨w.heap.size, 3, none⟩ = some (.int .i64 D)
  pr : ∀ j, j < 15 → wr.cell? ⟨w.heap.size + 1, j * 2, none⟩ = some (.int .i64 (prL[j]?.getD (0, 0)).1) ∧ wr.cell? ⟨w.heap.size + 1, j * 2 + 1, none⟩ = some (.int .i64 (prL[j]?.getD (0, 0)).2)
  be : Below w.heap.size w wr
theorem RmI.alloc {w wr : World} {C D : Int} (h : RmI w wr C D) (o : Obj) : RmI w (wr.alloc o) C D :=
  have k : ∀ (b i : Nat) (v : Value), wr.cell? ⟨b, i, none⟩ = some v → (wr.alloc o).cell? ⟨b, i, none⟩ = some v := fun b i _ hc => (World.cell?_of_block (a := ⟨b, i, none⟩) (Below.heap_alloc wr o _ (cell_lt hc))).trans hc
  ⟨k _ _ _ h.c2, k _ _ _ h.c3, fun j hj => ⟨k _ _ _ (h.pr j hj).1, k _ _ _ (h.pr j hj).2⟩, h.be.alloc h.be.size _⟩
theorem rm_start (w : World) (W H C D : Int) (L : Bool) (t t' : TypeId) : RmI w ((w.alloc (.cells #[.int .i64 W, .int .i64 H, .int .i64 C, .int .i64 D, .bool L] t)).alloc (.cells prV.toArray t')) C D := by
  have hb : Below (w.alloc (.cells #[.int .i64 W, .int .i64 H, .int .i64 C, .int .i64 D, .bool L] t)).heap.size (w.alloc (.cells #[.int .i64 W, .int .i64 H, .int .i64 C, .int .i64 D, .bool L] t)) ((w.alloc (.cells #[.int .i64 W, .int .i64 H, .int .i64 C, .int .i64 D, .bool L] t)).alloc (.cells prV.toArray t')) := (Below.refl _ _).alloc (Nat.le_refl _) _
  have e := box_cells hb
  have f : ∀ i, ((w.alloc (.cells #[.int .i64 W, .int .i64 H, .int .i64 C, .int .i64 D, .bool L] t)).alloc (.cells prV.toArray t')).cell? ⟨w.heap.size + 1, i, none⟩ = prV[i]? := fun i => by
    have h1 : w.heap.size + 1 = (w.alloc (.cells #[.int .i64 W, .int .i64 H, .int .i64 C, .int .i64 D, .bool L] t)).heap.size := by simp
    rw [h1, World.cell?_alloc_mark]; simp
  refine ⟨e.2.2.1, e.2.2.2.1, fun j hj => ?_, ((Below.refl _ _).alloc (Nat.le_refl _) _).alloc (by simp) _⟩
  rw [f, f, Nat.mul_comm]
  exact prV_at j hj
set_option maxHeartbeats 3200000 in
set_option maxRecDepth 100000 in
theorem rmay_yes {W H C D : Int} {L : Bool} {w : World} (h1 : 1 ≤ W ∧ W ≤ 2048) (h2 : 1 ≤ H ∧ H ≤ 2048) (h3 : W * H ≤ 65536) : Calls Tryd.prog 41 #[HdV W H C D L] w fun e w' => e = .returned (.bool (isPr C D)) ∧ Below w.heap.size w w' := by
  have hm := mul_bd h1.1 h1.2 h2.1 h2.2
  have hwr : wrap64 (W * H) = W * H := by unfold wrap64; generalize W * H = x at *; omega
  have HS : Hid (RmI w _ C D) := rm_start w W H C D L 37 76
  obtain ⟨h1a, h1b⟩ := h1
  obtain ⟨h2a, h2b⟩ := h2
  clear hm
  unfold HdV
  go_enter Tryd.func41, Tryd.ntmps41
  go_wp2
  go_loopw [4, 48] (fun _ i wr => ∃ j : Nat, j ≤ 15 ∧ i = .int .i64 j ∧ Hid (∀ m, m < j → prL[m]? ≠ some (C, D)) ∧ Hid (RmI w wr C D)) (fun _ i _ => 15 - (intOf i).toNat)
  case atStart => exact ⟨0, by omega, rfl, (by intro m hm; omega), HS⟩
  case round =>
    clear HS
    obtain ⟨j, hj, rfl, HN, HI⟩ := hrel
    by_cases hlt : j < 15
    · have hC := HI.out.c2
      have hD := HI.out.c3
      obtain ⟨p1, p2⟩ := HI.out.pr j hlt
      have HC : Hid (prL[j]? = some (prL[j]?.getD (0, 0))) := by
        show _ = _
        rw [List.getElem?_eq_getElem (show j < prL.length from hlt)]; rfl
      generalize prL[j]?.getD (0, 0) = pq at *
      obtain ⟨p, q⟩ := pq
      have HX : Hid (∀ o, RmI w (wr.alloc o) C D) := fun o => HI.out.alloc o
      have hsz : w.heap.size < wr.heap.size := cell_lt hC
      by_cases hpq : p = C ∧ q = D
      · obtain ⟨rfl, rfl⟩ := hpq
        have HE : Hid (isPr p q = true) := isPr_at j p q HC.out
        go_wp2
        go_ret
        exact ⟨by rw [HE.out]; rfl, (HX.out _).be⟩
      · have HN2 : Hid (∀ m, m < j + 1 → prL[m]? ≠ some (C, D)) := fun m hm => by
          by_cases hmj : m = j
          · subst hmj
            rw [HC.out]
            intro h
            simp only [Option.some.injEq, Prod.mk.injEq] at h
            exact hpq h
          · exact HN.out m (by omega)
        by_cases hp : C = p
        · have hq : ¬ D = q := fun h => hpq ⟨hp.symm, h.symm⟩
          have hqb : (D == q) = false := by simpa using hq
          clear hpq
          subst hp
          go_wp2
          go_roundw
          case rel => exact ⟨j + 1, by omega, by go_num, HN2.out, HX.out _⟩
          case measure => simp [intOf]; omega
        · have hpb : (C == p) = false := by simpa using hp
          clear hpq
          go_wp2
          go_roundw
          case rel => exact ⟨j + 1, by omega, by go_num, HN2.out, HX.out _⟩
          case measure => simp [intOf]; omega
    · obtain rfl : j = 15 := by omega
      have HE : Hid (isPr C D = false) := isPr_no C D HN.out
      go_wp2
      go_ret
      exact ⟨by rw [HE.out]; rfl, HI.out.be⟩
theorem rmay_any (W H C D : Int) (L : Bool) (w : World) : Calls Tryd.prog 41 #[HdV W H C D L] w fun e w' => e = .returned (.bool (decide (mayN W H C D))) ∧ Below w.heap.size w w' := by
  by_cases h : W < 1 ∨ 2048 < W ∨ H < 1 ∨ 2048 < H ∨ 65536 < W * H
  · rw [decide_eq_false (show ¬ mayN W H C D from fun k => by have := k.1; have := k.2.1; have := k.2.2.2; omega)]
    exact rmay_no h
  · have e : decide (mayN W H C D) = isPr C D := by
      rcases (show isPr C D = true ∨ isPr C D = false by cases isPr C D <;> simp) with hq | hq
      · exact (decide_eq_true ⟨by omega, by omega, hq, by omega⟩).trans hq.symm
      · exact (decide_eq_false (fun k => by have := k.2.2.1; rw [hq] at this; cases this)).trans hq.symm
    rw [e]
    exact rmay_yes (by omega) (by omega) (by omega)
end Go.Proofs.YtbjoalgglmalnaaDoor
