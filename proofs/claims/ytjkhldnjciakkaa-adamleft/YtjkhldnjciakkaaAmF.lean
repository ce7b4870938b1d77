/- The document's passes. -/
import Derived.Test.YtjkhldnjciakkaaAmE
namespace Go.Proofs.Ytjkhldnjciakkaa
open Go.RowKit
theorem plc_iff {f s e : Int} (hs : 1 ≤ s) (k : Nat) : f + (k : Int) * s < e ↔ (k : Int) < plc f s e := by
  unfold plc
  split
  · rename_i h
    have : 0 ≤ (k : Int) * s := Int.mul_nonneg (by omega) (by omega)
    omega
  · rw [Int.lt_add_one_iff, Int.le_ediv_iff_mul_le (by omega)]
    omega
def gdV (p : Stp) : Value := .agg #[.int .i64 p.x, .int .i64 p.y, .int .i64 p.dx, .int .i64 p.dy]
set_option maxHeartbeats 1600000 in
theorem grid_any (i : Nat) (w : World) (hi : i < 7) : Calls Try.prog 25 #[.int .i64 ((i : Int) + 1)] w fun e w' => e = .returned (gdV (stAt pngL i)) ∧ Below w.heap.size w w' := by
  match i, hi with
  | 0, _ =>
    go_enter Try.func25, Try.ntmps25
    go_wp2
    refine bodyPost_ret (v := .agg #[.int .i64 0, .int .i64 0, .int .i64 8, .int .i64 8]) ?_ rfl ⟨rfl, ?_⟩
    · rw [results_cellA rfl]
      go_simp
    · exact ((Below.refl _ w).alloc (Nat.le_refl _) _).alloc (by simp) _
  | 1, _ =>
    go_enter Try.func25, Try.ntmps25
    go_wp2
    refine bodyPost_ret (v := .agg #[.int .i64 4, .int .i64 0, .int .i64 8, .int .i64 8]) ?_ rfl ⟨rfl, ?_⟩
    · rw [results_cellA rfl]
      go_simp
    · exact ((Below.refl _ w).alloc (Nat.le_refl _) _).alloc (by simp) _
  | 2, _ =>
    go_enter Try.func25, Try.ntmps25
    go_wp2
    refine bodyPost_ret (v := .agg #[.int .i64 0, .int .i64 4, .int .i64 4, .int .i64 8]) ?_ rfl ⟨rfl, ?_⟩
    · rw [results_cellA rfl]
      go_simp
    · exact ((Below.refl _ w).alloc (Nat.le_refl _) _).alloc (by simp) _
  | 3, _ =>
    go_enter Try.func25, Try.ntmps25
    go_wp2
    refine bodyPost_ret (v := .agg #[.int .i64 2, .int .i64 0, .int .i64 4, .int .i64 4]) ?_ rfl ⟨rfl, ?_⟩
    · rw [results_cellA rfl]
      go_simp
    · exact ((Below.refl _ w).alloc (Nat.le_refl _) _).alloc (by simp) _
  | 4, _ =>
    go_enter Try.func25, Try.ntmps25
    go_wp2
    refine bodyPost_ret (v := .agg #[.int .i64 0, .int .i64 2, .int .i64 2, .int .i64 4]) ?_ rfl ⟨rfl, ?_⟩
    · rw [results_cellA rfl]
      go_simp
    · exact ((Below.refl _ w).alloc (Nat.le_refl _) _).alloc (by simp) _
  | 5, _ =>
    go_enter Try.func25, Try.ntmps25
    go_wp2
    refine bodyPost_ret (v := .agg #[.int .i64 1, .int .i64 0, .int .i64 2, .int .i64 2]) ?_ rfl ⟨rfl, ?_⟩
    · rw [results_cellA rfl]
      go_simp
    · exact ((Below.refl _ w).alloc (Nat.le_refl _) _).alloc (by simp) _
  | 6, _ =>
    go_enter Try.func25, Try.ntmps25
    go_wp2
    refine bodyPost_ret (v := .agg #[.int .i64 0, .int .i64 1, .int .i64 1, .int .i64 2]) ?_ rfl ⟨rfl, ?_⟩
    · rw [results_cellA rfl]
      go_simp
    · exact ((Below.refl _ w).alloc (Nat.le_refl _) _).alloc (by simp) _
end Go.Proofs.Ytjkhldnjciakkaa
