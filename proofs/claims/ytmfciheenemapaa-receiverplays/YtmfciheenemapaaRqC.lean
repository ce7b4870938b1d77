/- The receiver: may an item come? -/
import Derived.Test.YtmfciheenemapaaRqB
namespace Go.Proofs.Ytmfciheenemapaa
open Go.RowKit
/-- May item i come? -/
def mcB (n W nx : Int) (H : List (Int × Pt)) (i : Int) : Bool := !hHas H i && decide (nx ≤ i) && decide (i < nx + W) && decide (i < n)
set_option maxRecDepth 100000 in
set_option maxHeartbeats 16000000 in
theorem rmay_any {w : World} {b m : Nat} {n W nx : Int} {H : List (Int × Pt)} (h : Rc w b m n W nx H) (i : Int) (hi : (Lit.int .i64 i).wf = true) : Calls Try.prog 22 #[.pointer (some ⟨b, 0, none⟩), .int .i64 i] w fun e w' => e = .returned (.bool (mcB n W nx H i)) ∧ w' = w.drew := by
  obtain ⟨k0, k1, k2, k3, -⟩ := rc_cells h.c
  have hl := h.m.look_ok hi
  obtain ⟨n0, n1, n2, n3, n4, n5⟩ := h.nb
  clear h
  unfold mcB
  cases hh : hHas H i
  · rw [hh] at hl
    by_cases c1 : nx ≤ i
    · have e4 : (decide (i < min (nx + W) n)) = (decide (i < nx + W) && decide (i < n)) := by
        rw [← Bool.decide_and]
        exact decide_eq_decide.2 (by omega)
      go_enter Try.func22, Try.ntmps22
      go_upto_region 2 with fail
      go_region_held3 (fun u => u.cell? ⟨b, 0, none⟩ = some (.int .i64 n) ∧ u.cell? ⟨b, 1, none⟩ = some (.int .i64 W) ∧ u.cell? ⟨b, 2, none⟩ = some (.int .i64 nx)) (first | (with_reducible exact ⟨k0, k1, k2⟩) | go_keep) (first | fail)
      go_wp2
      go_ret
      exact ⟨ret_boolR (by rw [IntWalk.i64_in _ (by omega), e4]; simp [c1]), rfl⟩
    · have c9 : (nx ≤ i) = False := eq_false c1
      clear c1
      go_enter Try.func22, Try.ntmps22
      go_wp2
      go_region
      go_wp2
      go_ret
      exact ⟨ret_boolR (by simp [c9]), rfl⟩
  · rw [hh] at hl
    go_enter Try.func22, Try.ntmps22
    go_wp2
    go_region
    go_wp2
    go_ret
    exact ⟨ret_boolR (by simp), rfl⟩
end Go.Proofs.Ytmfciheenemapaa
