/- Which heads may be: the program. -/
import Derived.Test.YtbjoalgglmalnaaDoorSmC
import Derived.Test.YtbjoalgglmalnaaDoorRwC
import Derived.Test.YtbjoalgglmalnaaDoorHdM
namespace Go.Proofs.YtbjoalgglmalnaaDoor
open Go.RowKit
/-- The program's two tables. -/
structure Tab (w : World) : Prop where
  pr : ∀ j, j < 15 → w.cell? ⟨1, 2 * j, none⟩ = some (.int .i64 (prL[j]?.getD (0, 0)).1) ∧ w.cell? ⟨1, 2 * j + 1, none⟩ = some (.int .i64 (prL[j]?.getD (0, 0)).2)
  sp : ∀ j, j < 7 → w.cell? ⟨0, j, none⟩ = some (.int .i64 (spL[j]?.getD 0))
theorem Tab.old {w w' : World} (h : Tab w) (hb : Below w.heap.size w w') : Tab w' :=
  ⟨fun j hj => ⟨(World.cell?_of_block (a := ⟨1, 2 * j, none⟩) (hb.block _ (cell_lt (h.pr j hj).1))).trans (h.pr j hj).1, (World.cell?_of_block (a := ⟨1, 2 * j + 1, none⟩) (hb.block _ (cell_lt (h.pr j hj).2))).trans (h.pr j hj).2⟩,
   fun j hj => (World.cell?_of_block (a := ⟨0, j, none⟩) (hb.block _ (cell_lt (h.sp j hj)))).trans (h.sp j hj)⟩
def HdV (W H C D : Int) (L : Bool) : Value := .agg #[.int .i64 W, .int .i64 H, .int .i64 C, .int .i64 D, .bool L]
set_option maxHeartbeats 400000 in
theorem isSide_any (n : Int) (w : World) : Calls Tryd.prog 46 #[.int .i64 n] w fun e w' => e = .returned (.bool (decide (1 ≤ n ∧ n ≤ 2048))) ∧ w' = w := by
  by_cases h1 : 1 ≤ n
  · by_cases h2 : n ≤ 2048
    · rw [decide_eq_true (show 1 ≤ n ∧ n ≤ 2048 from ⟨h1, h2⟩)]
      go_enter Tryd.func46, Tryd.ntmps46
      go_wp2
      go_ret
      exact ⟨rfl, rfl⟩
    · rw [decide_eq_false (fun h => h2 h.2)]
      go_enter Tryd.func46, Tryd.ntmps46
      go_wp2
      go_ret
      exact ⟨rfl, rfl⟩
  · rw [decide_eq_false (fun h => h1 h.1)]
    go_enter Tryd.func46, Tryd.ntmps46
    go_wp2
    go_ret
    exact ⟨rfl, rfl⟩
set_option maxHeartbeats 400000 in
theorem samples_any (c : Int) (w : World) (ht : Tab w) : Calls Tryd.prog 37 #[.int .i64 c] w fun e w' => e = .returned (.int .i64 (spN c)) ∧ w' = w := by
  by_cases h1 : c < 0
  · rw [show spN c = 0 from by unfold spN; rw [if_neg (by omega)]]
    clear ht
    go_enter Tryd.func37, Tryd.ntmps37
    go_wp2
    go_ret
    exact ⟨rfl, rfl⟩
  by_cases h2 : 7 ≤ c
  · rw [show spN c = 0 from by unfold spN; rw [if_pos (by omega), List.getElem?_eq_none (by simp [spL]; omega)]; rfl]
    clear ht
    go_enter Tryd.func37, Tryd.ntmps37
    go_wp2
    go_ret
    exact ⟨rfl, rfl⟩
  · obtain ⟨k, rfl⟩ := Int.eq_ofNat_of_zero_le (show 0 ≤ c by omega)
    have hc := ht.sp k (by omega)
    rw [show spN (k : Int) = spL[k]?.getD 0 from by unfold spN; rw [if_pos (by omega)]; rfl]
    clear ht
    generalize spL[k]?.getD 0 = v at *
    go_enter Tryd.func37, Tryd.ntmps37
    go_wp2
    go_ret
    exact ⟨rfl, rfl⟩
set_option maxHeartbeats 400000 in
theorem rsamples_any (c : Int) (w : World) : Calls Tryd.prog 33 #[.int .i64 c] w fun e w' => e = .returned (.int .i64 (spN c)) ∧ w' = w := by
  rcases (show c = 0 ∨ c = 3 ∨ c = 2 ∨ c = 4 ∨ c = 6 ∨ (c ≠ 0 ∧ c ≠ 3 ∧ c ≠ 2 ∧ c ≠ 4 ∧ c ≠ 6) by omega) with rfl | rfl | rfl | rfl | rfl | ⟨h0, h3, h2, h4, h6⟩
  · go_enter Tryd.func33, Tryd.ntmps33
    go_wp2
    go_ret
    exact ⟨rfl, rfl⟩
  · go_enter Tryd.func33, Tryd.ntmps33
    go_wp2
    go_ret
    exact ⟨rfl, rfl⟩
  · go_enter Tryd.func33, Tryd.ntmps33
    go_wp2
    go_ret
    exact ⟨rfl, rfl⟩
  · go_enter Tryd.func33, Tryd.ntmps33
    go_wp2
    go_ret
    exact ⟨rfl, rfl⟩
  · go_enter Tryd.func33, Tryd.ntmps33
    go_wp2
    go_ret
    exact ⟨rfl, rfl⟩
  · rw [show spN c = 0 from by
      unfold spN
      split
      · obtain ⟨k, rfl⟩ := Int.eq_ofNat_of_zero_le (show 0 ≤ c by omega)
        match k, h0, h3, h2, h4, h6 with
        | 1, _, _, _, _, _ => rfl
        | 5, _, _, _, _, _ => rfl
        | k + 7, _, _, _, _, _ => rw [List.getElem?_eq_none (by simp [spL]; omega)]; rfl
      · rfl]
    go_enter Tryd.func33, Tryd.ntmps33
    go_wp2
    go_ret
    exact ⟨rfl, rfl⟩
end Go.Proofs.YtbjoalgglmalnaaDoor
