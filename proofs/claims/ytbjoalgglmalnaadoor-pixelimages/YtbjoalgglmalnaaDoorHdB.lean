/- Which kinds of colours and depths go together: the program. -/
import Derived.Test.YtbjoalgglmalnaaDoorHdA
import Derived.Deep.MidRow
namespace Go.Proofs.YtbjoalgglmalnaaDoor
open Go.RowKit
def prV : List Value := prL.flatMap fun p => [.int .i64 p.1, .int .i64 p.2]
theorem prV_at (j : Nat) (hj : j < 15) : prV[2 * j]? = some (.int .i64 (prL[j]?.getD (0, 0)).1) ∧ prV[2 * j + 1]? = some (.int .i64 (prL[j]?.getD (0, 0)).2) := by
  match j, hj with
  | 0, _ | 1, _ | 2, _ | 3, _ | 4, _ | 5, _ | 6, _ | 7, _ | 8, _ | 9, _ | 10, _ | 11, _ | 12, _ | 13, _ | 14, _ => exact ⟨rfl, rfl⟩
theorem prV_len : prV.length = 30 := rfl
theorem Tab.range {w : World} (h : Tab w) : w.rangeAt 1 0 prV := by
  intro i v hi
  have hlt : i < 30 := by
    by_cases hq : i < 30
    · exact hq
    · rw [List.getElem?_eq_none (by rw [prV_len]; omega)] at hi; cases hi
  rw [Nat.zero_add, ← hi]
  rcases (show i = 2 * (i / 2) ∨ i = 2 * (i / 2) + 1 by omega) with e | e
  · rw [e, (prV_at (i / 2) (by omega)).1]; exact (h.pr (i / 2) (by omega)).1
  · rw [e, (prV_at (i / 2) (by omega)).2]; exact (h.pr (i / 2) (by omega)).2
theorem prV_index (j : Nat) (hj : j < 15) (w : World) : (Instr.index 80 (.agg prV.toArray) (.int .i64 (j : Int))).run Tryd.prog w = .ok (.agg #[.int .i64 (prL[j]?.getD (0, 0)).1, .int .i64 (prL[j]?.getD (0, 0)).2]) w := by
  obtain rfl | rfl | rfl | rfl | rfl | rfl | rfl | rfl | rfl | rfl | rfl | rfl | rfl | rfl | rfl : j = 0 ∨ j = 1 ∨ j = 2 ∨ j = 3 ∨ j = 4 ∨ j = 5 ∨ j = 6 ∨ j = 7 ∨ j = 8 ∨ j = 9 ∨ j = 10 ∨ j = 11 ∨ j = 12 ∨ j = 13 ∨ j = 14 := by omega
  all_goals kernel_rfl
theorem Tryd.info67 : (Tryd.prog.info? 80).map (·.size) = some 30 := by kernel_rfl
set_option maxHeartbeats 1600000 in
set_option maxRecDepth 100000 in
theorem isPair_any (W H C D : Int) (L : Bool) (w : World) (ht : Tab w) : Calls Tryd.prog 47 #[HdV W H C D L] w fun e w' => e = .returned (.bool (isPr C D)) ∧ Below w.heap.size w w' := by
  obtain ⟨w1, hw1⟩ : ∃ w1, w1 = w.alloc (.cells #[.int .i64 W, .int .i64 H, .int .i64 C, .int .i64 D, .bool L] 37) := ⟨_, rfl⟩
  have hb1 : Below w.heap.size w w1 := by rw [hw1]; exact (Below.refl _ _).alloc (Nat.le_refl _) _
  have HR : Hid (w1.rangeAt 1 0 prV) := (ht.old hb1).range
  rw [hw1] at HR
  clear hw1 hb1
  have HP : Hid (∀ j : Nat, j < 15 → ∀ w, (Instr.index 80 (.agg prV.toArray) (.int .i64 (j : Int))).run Tryd.prog w = .ok (.agg #[.int .i64 (prL[j]?.getD (0, 0)).1, .int .i64 (prL[j]?.getD (0, 0)).2]) w) := fun j hj w => prV_index j hj w
  unfold HdV
  go_enter Tryd.func47, Tryd.ntmps47
  go_wp2_with (first | (refine wpList_load_mid (by rfl) 80 (.global 1) (by rfl) 1 0 (by rfl) prV _ HR.out Tryd.underlying80 (by rfl) Tryd.info67 ?_) | fail)
  clear HR
  generalize prV.toArray = PV at *
  go_loopw [4, 6] (fun _ i wr => ∃ j : Nat, j ≤ 15 ∧ i = .int .i64 j ∧ Hid (∀ m, m < j → prL[m]? ≠ some (C, D)) ∧ wr.cell? ⟨w.heap.size, 2, none⟩ = some (.int .i64 C) ∧ wr.cell? ⟨w.heap.size, 3, none⟩ = some (.int .i64 D) ∧ Below w.heap.size w wr) (fun _ i _ => 15 - (intOf i).toNat)
  case atStart => exact ⟨0, by omega, rfl, (by intro m hm; omega), by simp, by simp, (Below.refl _ _).alloc (Nat.le_refl _) _⟩
  case round =>
    obtain ⟨j, hj, rfl, HN, hC, hD, hb⟩ := hrel
    by_cases hlt : j < 15
    · have hix := HP.out j hlt wr
      have HC : Hid (prL[j]? = some (prL[j]?.getD (0, 0))) := by
        show _ = _
        rw [List.getElem?_eq_getElem (show j < prL.length from hlt)]; rfl
      generalize prL[j]?.getD (0, 0) = pq at *
      obtain ⟨p, q⟩ := pq
      have HBw : Hid (Below w.heap.size w wr) := hb
      have hsz : w.heap.size < wr.heap.size := cell_lt hC
      clear hb
      by_cases hpq : p = C ∧ q = D
      · obtain ⟨rfl, rfl⟩ := hpq
        have HE : Hid (isPr p q = true) := isPr_at j p q HC.out
        go_wp2
        go_ret
        exact ⟨by rw [HE.out]; rfl, HBw.out.alloc HBw.out.size _⟩
      · have HN2 : Hid (∀ m, m < j + 1 → prL[m]? ≠ some (C, D)) := fun m hm => by
          by_cases hmj : m = j
          · subst hmj
            rw [HC.out]
            intro h
            simp only [Option.some.injEq, Prod.mk.injEq] at h
            exact hpq h
          · exact HN.out m (by omega)
        have HX : Hid (∀ o, (wr.alloc o).cell? ⟨w.heap.size, 2, none⟩ = some (.int .i64 C) ∧ (wr.alloc o).cell? ⟨w.heap.size, 3, none⟩ = some (.int .i64 D) ∧ Below w.heap.size w (wr.alloc o)) := fun o =>
          ⟨(World.cell?_of_block (a := ⟨w.heap.size, 2, none⟩) (Below.heap_alloc wr o _ hsz)).trans hC, (World.cell?_of_block (a := ⟨w.heap.size, 3, none⟩) (Below.heap_alloc wr o _ hsz)).trans hD, HBw.out.alloc HBw.out.size _⟩
        by_cases hp : p = C
        · have hq : ¬ q = D := fun h => hpq ⟨hp, h⟩
          have hqb : (q == D) = false := by simpa using hq
          clear hpq
          subst hp
          go_wp2
          go_roundw
          case rel => exact ⟨j + 1, by omega, by go_num, HN2.out, HX.out _⟩
          case measure => simp [intOf]; omega
        · have hpb : (p == C) = false := by simpa using hp
          clear hpq
          go_wp2
          go_roundw
          case rel => exact ⟨j + 1, by omega, by go_num, HN2.out, HX.out _⟩
          case measure => simp [intOf]; omega
    · obtain rfl : j = 15 := by omega
      have HE : Hid (isPr C D = false) := isPr_no C D HN.out
      have HBw : Hid (Below w.heap.size w wr) := hb
      go_wp2
      go_ret
      exact ⟨by rw [HE.out]; rfl, HBw.out⟩
end Go.Proofs.YtbjoalgglmalnaaDoor
