/- Depths, and samples that are small enough. -/
import Derived.Test.YtbjoalgglmalnabDoorHeC
import Derived.Test.YtbjoalgglmalnabDoorHdI
namespace Go.Proofs.YtbjoalgglmalnabDoor
open Go.RowKit
abbrev isDp (d : Int) : Prop := d = 1 ∨ d = 2 ∨ d = 4 ∨ d = 8 ∨ d = 16
set_option maxHeartbeats 800000 in
theorem isDepth_any (d : Int) (w : World) : Calls Tryd.prog 11 #[.int .i64 d] w fun e w' => e = .returned (.bool (decide (isDp d))) ∧ w' = w := by
  by_cases h1 : d = 1
  · subst h1
    go_enter Tryd.func11, Tryd.ntmps11
    go_wp2
    go_ret
    exact ⟨rfl, rfl⟩
  by_cases h2 : d = 2
  · subst h2
    go_enter Tryd.func11, Tryd.ntmps11
    go_wp2
    go_ret
    exact ⟨rfl, rfl⟩
  by_cases h4 : d = 4
  · subst h4
    go_enter Tryd.func11, Tryd.ntmps11
    go_wp2
    go_ret
    exact ⟨rfl, rfl⟩
  by_cases h8 : d = 8
  · subst h8
    go_enter Tryd.func11, Tryd.ntmps11
    go_wp2
    go_ret
    exact ⟨rfl, rfl⟩
  by_cases h16 : d = 16
  · subst h16
    go_enter Tryd.func11, Tryd.ntmps11
    go_wp2
    go_ret
    exact ⟨rfl, rfl⟩
  · rw [decide_eq_false (by unfold isDp; omega)]
    have e1 : (d == 1) = false := by simpa using h1
    have e2 : (d == 2) = false := by simpa using h2
    have e4 : (d == 4) = false := by simpa using h4
    have e8 : (d == 8) = false := by simpa using h8
    have e16 : (d == 16) = false := by simpa using h16
    go_enter Tryd.func11, Tryd.ntmps11
    go_wp2
    go_ret
    exact ⟨rfl, rfl⟩
abbrev allB (e : Int) (l : List Int) : Prop := ∀ z ∈ l, 0 ≤ z ∧ z < e
theorem allB_take {e : Int} {l : List Int} {j : Nat} (h : allB e (l.take j)) (hj : j < l.length) (hz : 0 ≤ l[j]?.getD 0 ∧ l[j]?.getD 0 < e) : allB e (l.take (j + 1)) := by
  rw [take_snoc l j hj]
  intro z hz'
  rcases List.mem_append.1 hz' with q | q
  · exact h z q
  · simp at q; subst q; exact hz
theorem allB_not {e : Int} {l : List Int} {j : Nat} (hj : j < l.length) (hz : ¬ (0 ≤ l[j]?.getD 0 ∧ l[j]?.getD 0 < e)) : ¬ allB e l := fun h => by
  apply hz
  rw [List.getElem?_eq_getElem hj]
  exact h _ (List.getElem_mem hj)
set_option maxHeartbeats 1600000 in
theorem allBelow_any (e : Int) (a : Option Addr) (n c : Nat) (l : List Int) (w : World) (hn : l.length = n) (hr : IRow w a l) (hb : n ≤ 140737488351232) : Calls Tryd.prog 12 #[.int .i64 e, .slice a n c] w fun r w' => r = .returned (.bool (decide (allB e l))) ∧ w' = w := by
  have HR : Hid (IRow w a l ∧ l.length = n) := ⟨hr, hn⟩
  clear hr hn
  go_enter Tryd.func12, Tryd.ntmps12
  go_wp2
  go_loop [6, 9] (fun _ v => ∃ j : Nat, j ≤ n ∧ v = .int .i64 j ∧ Hid (allB e (l.take j))) (fun _ v => n - (intOf v).toNat)
  case atStart => exact ⟨0, Nat.zero_le _, rfl, fun z hz => by simp at hz⟩
  case round =>
    obtain ⟨j, hj, rfl, HA⟩ := hrel
    by_cases hlt : j < n
    · obtain ⟨b, off, rfl, hc⟩ := HR.out.1.at j (by rw [HR.out.2]; exact hlt)
      have hn1 := fun hz => allB_take HA.out (by rw [HR.out.2]; exact hlt) hz
      have hn2 := fun hz => allB_not (e := e) (l := l) (j := j) (by rw [HR.out.2]; exact hlt) hz
      have HN : Hid ((0 ≤ l[j]?.getD 0 ∧ l[j]?.getD 0 < e → allB e (l.take (j + 1))) ∧ (¬ (0 ≤ l[j]?.getD 0 ∧ l[j]?.getD 0 < e) → ¬ allB e l)) := ⟨hn1, hn2⟩
      clear hn1 hn2 HA
      generalize l[j]?.getD 0 = z at *
      rcases (show z < 0 ∨ (0 ≤ z ∧ e ≤ z) ∨ (0 ≤ z ∧ z < e) by omega) with hz | hz | hz
      · have HF : Hid (decide (allB e l) = false) := decide_eq_false (HN.out.2 (by omega))
        go_wp2
        go_ret
        exact ⟨by rw [HF.out]; rfl, rfl⟩
      · have HF : Hid (decide (allB e l) = false) := decide_eq_false (HN.out.2 (by omega))
        go_wp2
        go_ret
        exact ⟨by rw [HF.out]; rfl, rfl⟩
      · have HF : Hid (allB e (l.take (j + 1))) := HN.out.1 hz
        go_wp2
        go_round
        case rel => exact ⟨j + 1, hlt, by go_num, HF⟩
        case measure => simp [intOf]; omega
    · obtain rfl : j = n := by omega
      have HF : Hid (decide (allB e l) = true) := decide_eq_true (by have := HA.out; rw [← HR.out.2, List.take_length] at this; exact this)
      go_wp2
      go_ret
      exact ⟨by rw [HF.out]; rfl, rfl⟩
end Go.Proofs.YtbjoalgglmalnabDoor
