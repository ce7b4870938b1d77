/- Which heads may be: the program and the reference. -/
import Derived.Test.YtbjoalgglmalnabDoorHeB
namespace Go.Proofs.YtbjoalgglmalnabDoor
open Go.RowKit
theorem mul_bd {W H : Int} (h1 : 1 ≤ W) (h2 : W ≤ 2048) (h3 : 1 ≤ H) (h4 : H ≤ 2048) : 1 ≤ W * H ∧ W * H ≤ 4194304 := by
  refine ⟨?_, ?_⟩
  · have := Int.mul_le_mul h1 h3 (by omega) (by omega : (0 : Int) ≤ W); simpa using this
  · have := Int.mul_le_mul h2 h4 (by omega) (by omega : (0 : Int) ≤ 2048); simpa using this
theorem box_cells {w : World} {v0 v1 v2 v3 v4 : Value} {t : TypeId} {w2 : World} (hb : Below (w.alloc (.cells #[v0, v1, v2, v3, v4] t)).heap.size (w.alloc (.cells #[v0, v1, v2, v3, v4] t)) w2) :
    w2.cell? ⟨w.heap.size, 0, none⟩ = some v0 ∧ w2.cell? ⟨w.heap.size, 1, none⟩ = some v1 ∧ w2.cell? ⟨w.heap.size, 2, none⟩ = some v2 ∧ w2.cell? ⟨w.heap.size, 3, none⟩ = some v3 ∧ w2.cell? ⟨w.heap.size, 4, none⟩ = some v4 := by
  have e : ∀ i, w2.cell? ⟨w.heap.size, i, none⟩ = #[v0, v1, v2, v3, v4][i]? := fun i => by
    rw [World.cell?_of_block (a := ⟨w.heap.size, i, none⟩) (hb.block w.heap.size (by simp)), World.cell?_alloc_mark]
  exact ⟨e 0, e 1, e 2, e 3, e 4⟩
set_option maxHeartbeats 1600000 in
theorem may_any (W H C D : Int) (L : Bool) (w : World) (ht : Tab w) : Calls Tryd.prog 14 #[HdV W H C D L] w fun e w' => e = .returned (.bool (decide (mayN W H C D))) ∧ Below w.heap.size w w' := by
  obtain ⟨w1, hw1⟩ : ∃ w1, w1 = w.alloc (.cells #[.int .i64 W, .int .i64 H, .int .i64 C, .int .i64 D, .bool L] 27) := ⟨_, rfl⟩
  have HB1 : Hid (Below w.heap.size w w1) := by show Below _ _ _; rw [hw1]; exact (Below.refl _ _).alloc (Nat.le_refl _) _
  have cW := isSide_any W w1
  have cH := isSide_any H w1
  have cP := isPair_any W H C D L w1 (ht.old HB1.out)
  have HC : Hid (∀ w2, Below w1.heap.size w1 w2 → w2.cell? ⟨w.heap.size, 0, none⟩ = some (.int .i64 W) ∧ w2.cell? ⟨w.heap.size, 1, none⟩ = some (.int .i64 H)) := by
    show ∀ w2, _; intro w2 hb; rw [hw1] at hb; exact ⟨(box_cells hb).1, (box_cells hb).2.1⟩
  have HB2 : Hid (∀ w2, Below w1.heap.size w1 w2 → Below w.heap.size w w2) := fun w2 h => HB1.out.trans (h.mono HB1.out.size)
  unfold HdV at *
  by_cases h1 : 1 ≤ W ∧ W ≤ 2048
  · rw [decide_eq_true h1] at cW
    by_cases h2 : 1 ≤ H ∧ H ≤ 2048
    · rw [decide_eq_true h2] at cH
      have hm := mul_bd h1.1 h1.2 h2.1 h2.2
      have hwr : wrap64 (W * H) = W * H := by unfold wrap64; generalize W * H = x at *; omega
      rcases (show isPr C D = false ∨ isPr C D = true by cases isPr C D <;> simp) with h3 | h3
      · rw [h3] at cP
        rw [decide_eq_false (show ¬ mayN W H C D from fun h => by have := h.2.2.1; rw [h3] at this; cases this)]
        clear h3 h1 h2 hm hwr ht HC
        subst hw1
        go_enter Tryd.func14, Tryd.ntmps14
        go_wp2_with fail
        refine cW.mono ?_
        rintro e w2 ⟨rfl, rfl⟩
        go_wp2_with fail
        refine cH.mono ?_
        rintro e w2 ⟨rfl, rfl⟩
        go_wp2_with fail
        refine cP.mono ?_
        rintro e w2 ⟨rfl, hb2⟩
        go_wp2
        go_ret
        exact ⟨rfl, HB2.out _ hb2⟩
      · rw [h3] at cP
        by_cases h4 : W * H ≤ 65536
        · rw [decide_eq_true (show mayN W H C D from ⟨h1, h2, h3, h4⟩)]
          clear h3 h1 h2 hm ht
          subst hw1
          go_enter Tryd.func14, Tryd.ntmps14
          go_wp2_with fail
          refine cW.mono ?_
          rintro e w2 ⟨rfl, rfl⟩
          go_wp2_with fail
          refine cH.mono ?_
          rintro e w2 ⟨rfl, rfl⟩
          go_wp2_with fail
          refine cP.mono ?_
          rintro e w2 ⟨rfl, hb2⟩
          obtain ⟨c0, c1⟩ := HC.out _ hb2
          have HE : Hid _ := HB2.out _ hb2
          clear hb2
          go_wp2
          go_ret
          exact ⟨rfl, HE.out⟩
        · rw [decide_eq_false (show ¬ mayN W H C D from fun h => h4 h.2.2.2)]
          have h4d : decide (W * H ≤ 65536) = false := decide_eq_false h4
          have h4e : 65536 < W * H := by omega
          clear h3 h1 h2 hm ht
          subst hw1
          go_enter Tryd.func14, Tryd.ntmps14
          go_wp2_with fail
          refine cW.mono ?_
          rintro e w2 ⟨rfl, rfl⟩
          go_wp2_with fail
          refine cH.mono ?_
          rintro e w2 ⟨rfl, rfl⟩
          go_wp2_with fail
          refine cP.mono ?_
          rintro e w2 ⟨rfl, hb2⟩
          obtain ⟨c0, c1⟩ := HC.out _ hb2
          have HE : Hid _ := HB2.out _ hb2
          clear hb2
          go_wp2
          go_ret
          exact ⟨rfl, HE.out⟩
    · rw [decide_eq_false h2] at cH
      rw [decide_eq_false (show ¬ mayN W H C D from fun h => h2 h.2.1)]
      clear h1 h2 ht HC cP
      subst hw1
      go_enter Tryd.func14, Tryd.ntmps14
      go_wp2_with fail
      refine cW.mono ?_
      rintro e w2 ⟨rfl, rfl⟩
      go_wp2_with fail
      refine cH.mono ?_
      rintro e w2 ⟨rfl, rfl⟩
      go_wp2
      go_ret
      exact ⟨rfl, HB1.out⟩
  · rw [decide_eq_false h1] at cW
    rw [decide_eq_false (show ¬ mayN W H C D from fun h => h1 h.1)]
    clear h1 ht HC cP cH
    subst hw1
    go_enter Tryd.func14, Tryd.ntmps14
    go_wp2_with fail
    refine cW.mono ?_
    rintro e w2 ⟨rfl, rfl⟩
    go_wp2
    go_ret
    exact ⟨rfl, HB1.out⟩
end Go.Proofs.YtbjoalgglmalnabDoor
