/- The document's SameInts. -/
import Derived.Test.YtbjoalgglmalnaaDoorPxJ
namespace Go.Proofs.YtbjoalgglmalnaaDoor
open Go.RowKit
set_option maxHeartbeats 1600000 in
theorem rsameI_any (a : Option Addr) (n c : Nat) (a' : Option Addr) (n' c' : Nat) (l m : List Int) (w : World) (hn : l.length = n) (hn' : m.length = n') (hl : IRow w a l) (hm : IRow w a' m) (hb : n ≤ 17592186044416) : Calls Tryd.prog 15 #[.slice a n c, .slice a' n' c'] w fun e w' => e = .returned (.bool (decide (l = m))) ∧ Below w.heap.size w w' := by
  have HR : Hid (l.length = n ∧ m.length = n' ∧ IRow w a l ∧ IRow w a' m) := ⟨hn, hn', hl, hm⟩
  have H0 : Hid (Below w.heap.size w w) := Below.refl _ _
  by_cases hnn : n = n'
  · subst hnn
    clear hn hn' hl hm
    go_enter Tryd.func15, Tryd.ntmps15
    go_wp2
    go_loopw [4, 5, 13] (fun v4 _ v wr => v4 = .bool false ∧ ∃ j : Nat, j ≤ n ∧ v = .int .i64 j ∧ Hid (l.take j = m.take j) ∧ Hid (Below w.heap.size w wr)) (fun _ _ v _ => n - (intOf v).toNat)
    case atStart => exact ⟨rfl, 0, Nat.zero_le _, rfl, rfl, H0⟩
    case round =>
      obtain ⟨rfl, j, hj, rfl, HT, HB⟩ := hrel
      by_cases hlt : j < n
      · obtain ⟨b, off, rfl, h1⟩ := (HR.out.2.2.1.old HB.out).at j (by rw [HR.out.1]; exact hlt)
        obtain ⟨b', off', rfl, h2⟩ := (HR.out.2.2.2.old HB.out).at j (by rw [HR.out.2.1]; exact hlt)
        have HN : Hid ((l[j]?.getD 0 = m[j]?.getD 0 → l.take (j + 1) = m.take (j + 1)) ∧ (l[j]?.getD 0 ≠ m[j]?.getD 0 → decide (l = m) = false)) := by
          refine ⟨fun e => ?_, fun e => decide_eq_false (list_ne_at e)⟩
          rw [take_snoc l j (by rw [HR.out.1]; exact hlt), take_snoc m j (by rw [HR.out.2.1]; exact hlt), HT.out, e]
        clear HT
        generalize l[j]?.getD 0 = x at *
        generalize m[j]?.getD 0 = y at *
        by_cases e : x = y
        · subst e
          have HT : Hid (l.take (j + 1) = m.take (j + 1)) := HN.out.1 rfl
          clear HN
          go_wp2
          go_quiet (fail)
          go_wp2
          go_roundw
          case rel => first | exact ⟨_, _, _, ⟨rfl, j + 1, hlt, rfl, HT, bqdrewX HB.out _⟩, rfl, rfl, by go_num⟩ | exact ⟨rfl, j + 1, hlt, by go_num, HT, bqdrewX HB.out _⟩
          case measure => simp [intOf]; omega
        · have HF : Hid (decide (l = m) = false) := HN.out.2 e
          have hne : (x != y) = true := by simpa using e
          clear HN
          go_wp2
          go_quiet (fail)
          go_wp2
          go_ret
          exact ⟨by rw [HF.out]; rfl, bqdrewX HB.out _⟩
      · obtain rfl : j = n := by omega
        have HF : Hid (decide (l = m) = true) := decide_eq_true (by have := HT.out; rw [List.take_of_length_le (by rw [HR.out.1]; exact Nat.le_refl _), List.take_of_length_le (by rw [HR.out.2.1]; exact Nat.le_refl _)] at this; exact this)
        clear HT
        go_wp2
        go_ret
        exact ⟨by rw [HF.out]; rfl, HB.out⟩
  · rw [decide_eq_false (fun e => hnn (by rw [← hn, ← hn', e]))]
    have hne : ((n : Int) != (n' : Int)) = true := by simp; omega
    clear hn hn' hl hm
    go_enter Tryd.func15, Tryd.ntmps15
    go_wp2
    go_ret
    exact ⟨rfl, H0.out⟩
end Go.Proofs.YtbjoalgglmalnaaDoor
