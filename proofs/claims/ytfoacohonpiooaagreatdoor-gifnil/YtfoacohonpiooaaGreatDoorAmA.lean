/- Which pictures may be; how many places a pass has. -/
import Derived.Test.YtfoacohonpiooaaGreatDoorRwC
import Derived.Test.YtfoacohonpiooaaGreatDoorAmM
namespace Go.Proofs.YtfoacohonpiooaaGreatDoor
open Go.RowKit
theorem results_cellA {fn : Func} {p : Tmp} {ty : TypeId} (h : fn.results = #[.cell p ty]) (tmps : Array Value) (P : Program) (w : World) :
    (results fn tmps).run P w = ((asAddr (tmps.getD p undef)).run P w).andThen fun a w₁ => (loadVar ty a).run P w₁ := by
  simp only [results, h]
  simp [Sem.run_bind]
set_option maxHeartbeats 400000 in
theorem isSide_any (n : Int) (w : World) : Calls Tryz.prog 124 #[.int .i64 n] w fun e w' => e = .returned (.bool (decide (1 ≤ n) && decide (n ≤ 2048))) ∧ w' = w := by
  by_cases h : 1 ≤ n
  · rw [decide_eq_true h]
    go_enter Tryz.func124, Tryz.ntmps124
    go_wp2
    go_ret
    exact ⟨rfl, rfl⟩
  · rw [decide_eq_false h]
    go_enter Tryz.func124, Tryz.ntmps124
    go_wp2
    go_ret
    exact ⟨rfl, rfl⟩
theorem picN_split (w h : Int) : decide (picN w h) = ((decide (1 ≤ w) && decide (w ≤ 2048)) && (decide (1 ≤ h) && decide (h ≤ 2048)) && decide (w * h ≤ 65536)) := by
  unfold picN
  by_cases a : 1 ≤ w <;> by_cases b : w ≤ 2048 <;> by_cases c : 1 ≤ h <;> by_cases d : h ≤ 2048 <;> simp [a, b, c, d]
theorem mul_bd {w h : Int} (a : 1 ≤ w) (b : w ≤ 2048) (c : 1 ≤ h) (d : h ≤ 2048) : 1 ≤ w * h ∧ w * h ≤ 4194304 := by
  have h1 : 1 * 1 ≤ w * h := Int.mul_le_mul a c (by omega) (by omega)
  have h2 : w * h ≤ 2048 * 2048 := Int.mul_le_mul b d (by omega) (by omega)
  omega
set_option maxHeartbeats 400000 in
theorem isPicture_any (W H : Int) (w : World) : Calls Tryz.prog 118 #[.int .i64 W, .int .i64 H] w fun e w' => e = .returned (.bool (decide (picN W H))) ∧ w' = w := by
  have c1 := isSide_any W w
  have c2 := isSide_any H w
  rw [picN_split]
  by_cases a : 1 ≤ W ∧ W ≤ 2048
  · rw [decide_eq_true a.1, decide_eq_true a.2] at c1 ⊢
    by_cases c : 1 ≤ H ∧ H ≤ 2048
    · rw [decide_eq_true c.1, decide_eq_true c.2] at c2 ⊢
      obtain ⟨m1, m2⟩ := mul_bd a.1 a.2 c.1 c.2
      have hm : wrap64 (W * H) = W * H := by unfold wrap64; omega
      simp only [Bool.true_and]
      go_enter Tryz.func118, Tryz.ntmps118
      go_wp2_with fail
      refine c1.mono ?_
      rintro e w1 ⟨rfl, rfl⟩
      go_wp2_with fail
      refine c2.mono ?_
      rintro e w1 ⟨rfl, rfl⟩
      go_wp2
      go_ret
      exact ⟨rfl, rfl⟩
    · have hf : (decide (1 ≤ H) && decide (H ≤ 2048)) = false := by
        rw [← Bool.decide_and, decide_eq_false c]
      rw [hf] at c2 ⊢
      clear hf
      go_enter Tryz.func118, Tryz.ntmps118
      go_wp2_with fail
      refine c1.mono ?_
      rintro e w1 ⟨rfl, rfl⟩
      go_wp2_with fail
      refine c2.mono ?_
      rintro e w1 ⟨rfl, rfl⟩
      go_wp2
      go_ret
      exact ⟨rfl, rfl⟩
  · have hf : (decide (1 ≤ W) && decide (W ≤ 2048)) = false := by
      rw [← Bool.decide_and, decide_eq_false a]
    rw [hf] at c1 ⊢
    clear hf
    go_enter Tryz.func118, Tryz.ntmps118
    go_wp2_with fail
    refine c1.mono ?_
    rintro e w1 ⟨rfl, rfl⟩
    go_wp2
    go_ret
    exact ⟨rfl, rfl⟩
set_option maxHeartbeats 400000 in
theorem places_any (f s e : Int) (w : World) (h0 : 0 ≤ f) (h1 : f ≤ 100) (h2 : 1 ≤ s) (h3 : s ≤ 100) (h4 : e ≤ 2048) (h5 : 1 ≤ e) : Calls Tryz.prog 125 #[.int .i64 f, .int .i64 s, .int .i64 e] w fun r w' => r = .returned (.int .i64 (plc f s e)) ∧ w' = w := by
  unfold plc
  by_cases h : e ≤ f
  · rw [if_pos h]
    go_enter Tryz.func125, Tryz.ntmps125
    go_wp2
    go_ret
    exact ⟨rfl, rfl⟩
  · rw [if_neg h]
    have hq : (e - f - 1).tdiv s = (e - f - 1) / s := Int.tdiv_eq_ediv_of_nonneg (by omega)
    have q1 : (e - f - 1) / s ≤ e - f - 1 := Int.ediv_le_self _ (by omega)
    have q0 : 0 ≤ (e - f - 1) / s := Int.ediv_nonneg (by omega) (by omega)
    generalize (e - f - 1) / s = q at *
    have hs0 : ¬ s = 0 := by omega
    go_enter Tryz.func125, Tryz.ntmps125
    go_wp2
    go_ret
    exact ⟨rfl, rfl⟩
theorem bqdrew {B : Nat} {a b : World} (h : Below B a b) (n : Nat) : Below B a (b.drewN n) := ⟨h.os, h.tape, h.output, h.size, h.block⟩
def PsV (p : Stp) (W H : Int) : Value := .agg #[.int .i64 p.x, .int .i64 p.y, .int .i64 p.dx, .int .i64 p.dy, .int .i64 W, .int .i64 H]
set_option maxHeartbeats 800000 in
theorem within_any (p : Stp) (W H : Int) (w : World) (hp : p.ok) (h1 : 1 ≤ W) (h2 : W ≤ 2048) (h3 : 1 ≤ H) (h4 : H ≤ 2048) :
    Calls Tryz.prog 119 #[PsV p 0 0, .int .i64 W, .int .i64 H] w fun e w' => e = .returned (PsV p (wid p W H) (hig p W H)) ∧ Below w.heap.size w w' := by
  obtain ⟨x, y, dx, dy⟩ := p
  obtain ⟨p0, p1, p2, p3, p4, p5, p6, p7⟩ := hp
  unfold wid hig PsV
  simp only at *
  have HC1 := fun w => places_any x dx W w p0 (by omega) p4 (by omega) h2 h1
  have HC2 := fun w => places_any y dy H w p2 (by omega) p6 (by omega) h4 h3
  have hb1 := plc_bd p0 p4 h2
  have hb2 := plc_bd p2 p6 h4
  generalize plc x dx W = A at *
  generalize plc y dy H = B at *
  by_cases hc : 0 < A ∧ 0 < B
  · rw [if_pos hc, if_pos hc]
    obtain ⟨hA, hB⟩ := hc
    go_enter Tryz.func119, Tryz.ntmps119
    go_wp2
    go_quiet (first | (go_at_call 125; with_reducible exact Calls.quiet_of_same (HC1 _)) | (go_at_call 125; with_reducible exact Calls.quiet_of_same (HC2 _)))
    go_wp2
    refine bodyPost_ret (v := .agg #[.int .i64 x, .int .i64 y, .int .i64 dx, .int .i64 dy, .int .i64 A, .int .i64 B]) ?_ rfl ⟨rfl, ?_⟩
    · rw [results_cellA rfl]
      go_simp
    · have q : Below w.heap.size w ((w.alloc (.cells #[.int .i64 x, .int .i64 y, .int .i64 dx, .int .i64 dy, .int .i64 0, .int .i64 0] 179)).alloc (.cells #[.int .i64 0, .int .i64 0, .int .i64 0, .int .i64 0, .int .i64 0, .int .i64 0] 179)) := ((Below.refl _ w).alloc (Nat.le_refl _) _).alloc (by simp) _
      have q2 := bqdrew q nq
      exact (((((((q2.setCell (p := ⟨w.heap.size, 4, none⟩) (Nat.le_refl _) _).setCell (p := ⟨w.heap.size, 5, none⟩) (Nat.le_refl _) _).setCell (p := ⟨w.heap.size + 1, 0, none⟩) (Nat.le_succ _) _).setCell (p := ⟨w.heap.size + 1, 1, none⟩) (Nat.le_succ _) _).setCell (p := ⟨w.heap.size + 1, 2, none⟩) (Nat.le_succ _) _).setCell (p := ⟨w.heap.size + 1, 3, none⟩) (Nat.le_succ _) _).setCell (p := ⟨w.heap.size + 1, 4, none⟩) (Nat.le_succ _) _).setCell (p := ⟨w.heap.size + 1, 5, none⟩) (Nat.le_succ _) _
  · rw [if_neg hc, if_neg hc]
    go_enter Tryz.func119, Tryz.ntmps119
    go_wp2
    go_quiet (first | (go_at_call 125; with_reducible exact Calls.quiet_of_same (HC1 _)) | (go_at_call 125; with_reducible exact Calls.quiet_of_same (HC2 _)))
    have hcd : (decide (0 < A) && decide (0 < B)) = false := by rw [← Bool.decide_and, decide_eq_false hc]
    rcases (show A = 0 ∨ (0 < A ∧ B = 0) by omega) with rfl | ⟨hA, rfl⟩
    · clear hcd hc HC1 HC2
      go_wp2
      refine bodyPost_ret (v := .agg #[.int .i64 x, .int .i64 y, .int .i64 dx, .int .i64 dy, .int .i64 0, .int .i64 0]) ?_ rfl ⟨rfl, ?_⟩
      · rw [results_cellA rfl]
        go_simp
      · have q : Below w.heap.size w ((w.alloc (.cells #[.int .i64 x, .int .i64 y, .int .i64 dx, .int .i64 dy, .int .i64 0, .int .i64 0] 179)).alloc (.cells #[.int .i64 0, .int .i64 0, .int .i64 0, .int .i64 0, .int .i64 0, .int .i64 0] 179)) := ((Below.refl _ w).alloc (Nat.le_refl _) _).alloc (by simp) _
        have q2 := bqdrew q nq
        exact (((((q2.setCell (p := ⟨w.heap.size + 1, 0, none⟩) (Nat.le_succ _) _).setCell (p := ⟨w.heap.size + 1, 1, none⟩) (Nat.le_succ _) _).setCell (p := ⟨w.heap.size + 1, 2, none⟩) (Nat.le_succ _) _).setCell (p := ⟨w.heap.size + 1, 3, none⟩) (Nat.le_succ _) _).setCell (p := ⟨w.heap.size + 1, 4, none⟩) (Nat.le_succ _) _).setCell (p := ⟨w.heap.size + 1, 5, none⟩) (Nat.le_succ _) _
    · clear hcd hc HC1 HC2
      go_wp2
      refine bodyPost_ret (v := .agg #[.int .i64 x, .int .i64 y, .int .i64 dx, .int .i64 dy, .int .i64 0, .int .i64 0]) ?_ rfl ⟨rfl, ?_⟩
      · rw [results_cellA rfl]
        go_simp
      · have q : Below w.heap.size w ((w.alloc (.cells #[.int .i64 x, .int .i64 y, .int .i64 dx, .int .i64 dy, .int .i64 0, .int .i64 0] 179)).alloc (.cells #[.int .i64 0, .int .i64 0, .int .i64 0, .int .i64 0, .int .i64 0, .int .i64 0] 179)) := ((Below.refl _ w).alloc (Nat.le_refl _) _).alloc (by simp) _
        have q2 := bqdrew q nq
        exact (((((q2.setCell (p := ⟨w.heap.size + 1, 0, none⟩) (Nat.le_succ _) _).setCell (p := ⟨w.heap.size + 1, 1, none⟩) (Nat.le_succ _) _).setCell (p := ⟨w.heap.size + 1, 2, none⟩) (Nat.le_succ _) _).setCell (p := ⟨w.heap.size + 1, 3, none⟩) (Nat.le_succ _) _).setCell (p := ⟨w.heap.size + 1, 4, none⟩) (Nat.le_succ _) _).setCell (p := ⟨w.heap.size + 1, 5, none⟩) (Nat.le_succ _) _
end Go.Proofs.YtfoacohonpiooaaGreatDoor
