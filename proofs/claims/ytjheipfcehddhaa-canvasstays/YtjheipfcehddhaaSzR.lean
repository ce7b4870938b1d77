/- Which pictures may be, by the document. -/
import Derived.Test.YtjheipfcehddhaaAmA
namespace Go.Proofs.Ytjheipfcehddhaa
open Go.RowKit
set_option maxHeartbeats 800000 in
theorem rsized_any (W H : Int) (w : World) : Calls Try.prog 26 #[.int .i64 W, .int .i64 H] w fun e w' => e = .returned (.bool (decide (picN W H))) ∧ w' = w := by
  rcases (show W < 1 ∨ (1 ≤ W ∧ 2048 < W) ∨ (1 ≤ W ∧ W ≤ 2048 ∧ H < 1) ∨ (1 ≤ W ∧ W ≤ 2048 ∧ 1 ≤ H ∧ 2048 < H) ∨ (1 ≤ W ∧ W ≤ 2048 ∧ 1 ≤ H ∧ H ≤ 2048) by omega) with h | h | h | h | ⟨h1, h2, h3, h4⟩
  · rw [decide_eq_false (by unfold picN; omega)]
    go_enter Try.func26, Try.ntmps26
    go_wp2
    go_ret
    exact ⟨rfl, rfl⟩
  · rw [decide_eq_false (by unfold picN; omega)]
    go_enter Try.func26, Try.ntmps26
    go_wp2
    go_ret
    exact ⟨rfl, rfl⟩
  · rw [decide_eq_false (by unfold picN; omega)]
    go_enter Try.func26, Try.ntmps26
    go_wp2
    go_ret
    exact ⟨rfl, rfl⟩
  · rw [decide_eq_false (by unfold picN; omega)]
    go_enter Try.func26, Try.ntmps26
    go_wp2
    go_ret
    exact ⟨rfl, rfl⟩
  · obtain ⟨m1, m2⟩ := mul_bd h1 h2 h3 h4
    have hm : wrap64 (W * H) = W * H := by unfold wrap64; omega
    have e : decide (picN W H) = decide (W * H ≤ 65536) := by
      rw [picN_split, decide_eq_true h1, decide_eq_true h2, decide_eq_true h3, decide_eq_true h4]; simp
    rw [e]
    clear e
    go_enter Try.func26, Try.ntmps26
    go_wp2
    go_ret
    exact ⟨rfl, rfl⟩
end Go.Proofs.Ytjheipfcehddhaa
