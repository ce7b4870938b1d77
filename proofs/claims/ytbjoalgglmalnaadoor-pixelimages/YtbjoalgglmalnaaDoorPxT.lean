/- The document's level of a sample. -/
import Derived.Test.YtbjoalgglmalnaaDoorPxJ
namespace Go.Proofs.YtbjoalgglmalnaaDoor
open Go.RowKit
set_option maxHeartbeats 1600000 in
theorem rfull_any (v : Int) (d : Nat) (w : World) (hd : isDp d) (h0 : 0 ≤ v) (h1 : v < 2 ^ d) : Calls Tryd.prog 35 #[.int .i64 v, .int .i64 d] w fun e w' => e = .returned (.int .u16 (lvN d v)) ∧ w' = w := by
  have h5 : d = 1 ∨ d = 2 ∨ d = 4 ∨ d = 8 ∨ d = 16 := by unfold isDp at hd; omega
  unfold lvN
  rcases h5 with rfl | rfl | rfl | rfl | rfl
  · have hq : (v * 65535).tdiv 1 = v * 65535 := by simp
    go_enter Tryd.func35, Tryd.ntmps35
    go_wp2
    go_ret
    exact ⟨by simp, rfl⟩
  · have hq : (v * 65535).tdiv 3 = v * 21845 := by rw [Int.tdiv_eq_ediv_of_nonneg (by omega)]; omega
    go_enter Tryd.func35, Tryd.ntmps35
    go_wp2
    go_ret
    exact ⟨by simp, rfl⟩
  · have hq : (v * 65535).tdiv 15 = v * 4369 := by rw [Int.tdiv_eq_ediv_of_nonneg (by omega)]; omega
    go_enter Tryd.func35, Tryd.ntmps35
    go_wp2
    go_ret
    exact ⟨by simp, rfl⟩
  · have hq : (v * 65535).tdiv 255 = v * 257 := by rw [Int.tdiv_eq_ediv_of_nonneg (by omega)]; omega
    go_enter Tryd.func35, Tryd.ntmps35
    go_wp2
    go_ret
    exact ⟨by simp, rfl⟩
  · have hq : (v * 65535).tdiv 65535 = v := by rw [Int.tdiv_eq_ediv_of_nonneg (by omega)]; omega
    go_enter Tryd.func35, Tryd.ntmps35
    go_wp2
    go_ret
    exact ⟨by simp, rfl⟩
end Go.Proofs.YtbjoalgglmalnaaDoor
