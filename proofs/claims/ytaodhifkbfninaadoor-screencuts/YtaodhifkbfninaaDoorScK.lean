/- A GIF's beginning is written: the program's parts. -/
import Derived.Test.YtaodhifkbfninaaDoorScJ
import Derived.StillTail
namespace Go.Proofs.YtaodhifkbfninaaDoor
open Go.RowKit
/-- What is known of a screen that came in: its colours lie in memory. -/
structure ScA (w : World) (W H : Int) (ta : Option Addr) (tn tc : Nat) (T : List Int) (C B : Int) : Prop where
  row : Row w ta T
  byt : Bytes T
  len : T.length = 3 * tn
  cap : tn ≤ tc
  big : 3 * tn ≤ 140737488351232
theorem ScA.old {w w' : World} {W H : Int} {ta : Option Addr} {tn tc : Nat} {T : List Int} {C B : Int} (h : ScA w W H ta tn tc T C B) (hb : Below w.heap.size w w') : ScA w' W H ta tn tc T C B := ⟨h.row.old hb, h.byt, h.len, h.cap, h.big⟩
/-- A screen's own box stands, and nothing below is changed. -/
def Qs (w : World) (W H : Int) (tv : Value) (Lo : Bool) (C : Int) (La : Bool) (B : Int) (w' : World) : Prop := Below w.heap.size w w' ∧ SC w' w.heap.size W H tv Lo C La B
theorem Qs.box (w : World) (W H : Int) (tv : Value) (Lo : Bool) (C : Int) (La : Bool) (B : Int) : Qs w W H tv Lo C La B (w.alloc (.cells #[.int .i64 W, .int .i64 H, tv, .bool Lo, .int .i64 C, .bool La, .int .i64 B] 26)) := ⟨(Below.refl _ _).alloc (Nat.le_refl _) _, by unfold SC; exact World.alloc_heap_new w _⟩
theorem Qs.old {w : World} {W H : Int} {tv : Value} {Lo : Bool} {C : Int} {La : Bool} {B : Int} {w1 w2 : World} (h : Qs w W H tv Lo C La B w1) (hb : Below w1.heap.size w1 w2) : Qs w W H tv Lo C La B w2 := ⟨h.1.trans (hb.mono h.1.size), (hb.block w.heap.size (lt_of_block h.2)).trans h.2⟩
/-- How many colours there may be. -/
abbrev tbOk (n : Nat) : Prop := ∃ k, k < 8 ∧ n = 2 ^ (k + 1)
set_option maxRecDepth 100000 in
theorem tb_fin : ∀ n : Fin 257, (2 ≤ n.val ∧ n.val &&& (n.val - 1) = 0) ↔ tbOk n.val := by decide
theorem tbOk_bd {n : Nat} (h : tbOk n) : 2 ≤ n ∧ n ≤ 256 := by
  obtain ⟨k, hk, rfl⟩ := h
  match k, hk with
  | 0, _ | 1, _ | 2, _ | 3, _ | 4, _ | 5, _ | 6, _ | 7, _ => decide
set_option maxHeartbeats 400000 in
theorem mayTable_any (n : Nat) (w : World) : Calls Tryd.prog 37 #[.int .i64 n] w fun e w' => e = .returned (.bool (decide (tbOk n))) ∧ w' = w := by
  by_cases h1 : n < 2
  · rw [decide_eq_false (fun h => by have := (tbOk_bd h).1; omega)]
    go_enter Tryd.func37, Tryd.ntmps37
    go_wp2
    go_ret
    exact ⟨rfl, rfl⟩
  · by_cases h2 : 256 < n
    · rw [decide_eq_false (fun h => by have := (tbOk_bd h).2; omega)]
      have d : decide ((n : Int) ≤ 256) = false := decide_eq_false (by omega)
      have d2 : decide (n ≤ 256) = false := decide_eq_false (by omega)
      go_enter Tryd.func37, Tryd.ntmps37
      go_wp2
      go_ret
      exact ⟨rfl, rfl⟩
    · have hf := tb_fin ⟨n, by omega⟩
      simp only at hf
      have ha := i64_andN n (n - 1) (by omega) (by omega)
      rw [show ((n - 1 : Nat) : Int) = (n : Int) - 1 by omega] at ha
      have d : decide ((n : Int) ≤ 256) = true := decide_eq_true (by omega)
      have d2 : decide (n ≤ 256) = true := decide_eq_true (by omega)
      by_cases h3 : n &&& (n - 1) = 0
      · rw [decide_eq_true (hf.1 ⟨by omega, h3⟩)]
        rw [h3] at ha
        clear hf h3
        go_enter Tryd.func37, Tryd.ntmps37
        go_wp2
        go_ret
        exact ⟨rfl, rfl⟩
      · rw [decide_eq_false (fun h => h3 (hf.2 h).2)]
        generalize n &&& (n - 1) = X at *
        have h4 : ((X : Int) == 0) = false := by simp; omega
        clear hf h3
        go_enter Tryd.func37, Tryd.ntmps37
        go_wp2
        go_ret
        exact ⟨rfl, rfl⟩
set_option maxHeartbeats 400000 in
theorem tzu_any (k : Nat) (hk : k < 8) (w : World) (ht : TabD w) : Calls Tryd.prog 50 #[.int .u64 ((2 ^ k : Nat) : Int)] w fun e w' => e = .returned (.int .i64 k) ∧ w' = w := by
  have CT := tz_any k hk w ht
  generalize (2 : Nat) ^ k = P at *
  go_enter Tryd.func50, Tryd.ntmps50
  go_wp2_with (go_at_call 61; refine CT.mono ?_; rintro e w' ⟨rfl, rfl⟩)
  go_ret
  exact ⟨rfl, rfl⟩
set_option maxHeartbeats 400000 in
theorem sizeOf_any (W H : Int) (ta : Option Addr) (tn tc : Nat) (Lo : Bool) (C : Int) (La : Bool) (B : Int) (k : Nat) (hk : k < 8) (hn : tn = 2 ^ (k + 1)) (w : World) (ht : TabD w) : Calls Tryd.prog 40 #[ScV W H (.slice ta tn tc) Lo C La B] w fun e w' => e = .returned (.int .i64 k) ∧ Below w.heap.size w w' := by
  have HQ : Hid (Qs w W H (.slice ta tn tc) Lo C La B _) := Qs.box w W H (.slice ta tn tc) Lo C La B
  have hd : ((tn : Nat) : Int).tdiv 2 = ((2 ^ k : Nat) : Int) := by
    rw [hn, Nat.pow_succ, Int.tdiv_eq_ediv_of_nonneg (by omega)]
    omega
  have hp : (2 : Nat) ^ k ≤ 128 := by
    match k, hk with
    | 0, _ | 1, _ | 2, _ | 3, _ | 4, _ | 5, _ | 6, _ | 7, _ => decide
  have hd2 : ((tn : Nat) : Int) / 2 = ((2 ^ k : Nat) : Int) := by rw [hn, Nat.pow_succ]; omega
  have CZ := tzu_any k hk _ (ht.old HQ.out.1)
  have htn : tn ≤ 256 := by rw [hn, Nat.pow_succ]; omega
  generalize (2 : Nat) ^ k = P at *
  clear ht hn
  unfold ScV
  go_enter Tryd.func40, Tryd.ntmps40
  go_wp2_with fail
  refine CZ.mono ?_
  clear CZ
  rintro e w' ⟨rfl, rfl⟩
  go_wp2
  go_ret
  exact ⟨rfl, HQ.out.1⟩
/-- What Write refuses. -/
def wrE (W H : Int) (tn : Nat) (C B : Int) : Int := if picN W H then (if tbOk tn then (if (-1 ≤ C ∧ C ≤ 255) ∧ 2 ≤ B ∧ B ≤ 8 then 0 else 1) else 12) else 11
set_option maxHeartbeats 1600000 in
theorem check_any (W H : Int) (ta : Option Addr) (tn tc : Nat) (Lo : Bool) (C : Int) (La : Bool) (B : Int) (w : World) : Calls Tryd.prog 23 #[ScV W H (.slice ta tn tc) Lo C La B] w fun e w' => e = .returned (.int .i64 (wrE W H tn C B)) ∧ Below w.heap.size w w' := by
  have HQ : Hid (Qs w W H (.slice ta tn tc) Lo C La B _) := Qs.box w W H (.slice ta tn tc) Lo C La B
  have C1 := maySides_any W H (w.alloc (.cells #[.int .i64 W, .int .i64 H, .slice ta tn tc, .bool Lo, .int .i64 C, .bool La, .int .i64 B] 26))
  have HT : Hid (∀ w1, Calls Tryd.prog 37 #[.int .i64 tn] w1 fun e w' => e = .returned (.bool (decide (tbOk tn))) ∧ w' = w1) := fun w1 => mayTable_any tn w1
  have HB : Hid (∀ w1, Calls Tryd.prog 38 #[.int .i64 B] w1 fun e w' => e = .returned (.bool (decide (2 ≤ B ∧ B ≤ 8))) ∧ w' = w1) := fun w1 => mayBits_any B w1
  unfold ScV
  by_cases hp : picN W H
  · rw [decide_eq_true hp] at C1
    by_cases ht : tbOk tn
    · rw [decide_eq_true ht] at HT
      have hE : wrE W H tn C B = (if (-1 ≤ C ∧ C ≤ 255) ∧ 2 ≤ B ∧ B ≤ 8 then 0 else 1) := by unfold wrE; rw [if_pos hp, if_pos ht]
      rw [hE]
      clear hE hp ht
      rcases (show C < -1 ∨ 255 < C ∨ (-1 ≤ C ∧ C ≤ 255) by omega) with h | h | ⟨h, h2⟩
      · rw [if_neg (by omega)]
        go_enter Tryd.func23, Tryd.ntmps23
        go_wp2_with fail
        refine C1.mono ?_
        clear C1
        rintro e w1 ⟨rfl, hb1⟩
        have HQ1 := HQ.out.old hb1
        obtain ⟨z0, z1, z2, z3, z4, z5, z6, -⟩ := HQ1.2.cells
        go_wp2_with (go_at_call 37; refine (HT.out _).mono ?_; rintro e w2 ⟨rfl, rfl⟩)
        go_ret
        exact ⟨rfl, HQ1.1⟩
      · rw [if_neg (by omega)]
        have hd : decide (C < -1) = false := decide_eq_false (by omega)
        have hd2 : decide (255 < C) = true := decide_eq_true h
        go_enter Tryd.func23, Tryd.ntmps23
        go_wp2_with fail
        refine C1.mono ?_
        clear C1
        rintro e w1 ⟨rfl, hb1⟩
        have HQ1 := HQ.out.old hb1
        obtain ⟨z0, z1, z2, z3, z4, z5, z6, -⟩ := HQ1.2.cells
        go_wp2_with (go_at_call 37; refine (HT.out _).mono ?_; rintro e w2 ⟨rfl, rfl⟩)
        go_ret
        exact ⟨rfl, HQ1.1⟩
      · have hd : decide (C < -1) = false := decide_eq_false (by omega)
        have hd2 : decide (255 < C) = false := decide_eq_false (by omega)
        by_cases hb : 2 ≤ B ∧ B ≤ 8
        · rw [if_pos ⟨⟨h, h2⟩, hb⟩]
          rw [decide_eq_true hb] at HB
          clear hb
          go_enter Tryd.func23, Tryd.ntmps23
          go_wp2_with fail
          refine C1.mono ?_
          clear C1
          rintro e w1 ⟨rfl, hb1⟩
          have HQ1 := HQ.out.old hb1
          obtain ⟨z0, z1, z2, z3, z4, z5, z6, -⟩ := HQ1.2.cells
          go_wp2_with (first | (go_at_call 37; refine (HT.out _).mono ?_; rintro e w2 ⟨rfl, rfl⟩) | (go_at_call 38; refine (HB.out _).mono ?_; rintro e w2 ⟨rfl, rfl⟩))
          go_ret
          exact ⟨rfl, HQ1.1⟩
        · rw [if_neg (fun q => hb q.2)]
          rw [decide_eq_false hb] at HB
          clear hb
          go_enter Tryd.func23, Tryd.ntmps23
          go_wp2_with fail
          refine C1.mono ?_
          clear C1
          rintro e w1 ⟨rfl, hb1⟩
          have HQ1 := HQ.out.old hb1
          obtain ⟨z0, z1, z2, z3, z4, z5, z6, -⟩ := HQ1.2.cells
          go_wp2_with (first | (go_at_call 37; refine (HT.out _).mono ?_; rintro e w2 ⟨rfl, rfl⟩) | (go_at_call 38; refine (HB.out _).mono ?_; rintro e w2 ⟨rfl, rfl⟩))
          go_ret
          exact ⟨rfl, HQ1.1⟩
    · rw [decide_eq_false ht] at HT
      have hE : wrE W H tn C B = 12 := by unfold wrE; rw [if_pos hp, if_neg ht]
      rw [hE]
      clear hE hp ht HB
      go_enter Tryd.func23, Tryd.ntmps23
      go_wp2_with fail
      refine C1.mono ?_
      clear C1
      rintro e w1 ⟨rfl, hb1⟩
      have HQ1 := HQ.out.old hb1
      obtain ⟨z0, z1, z2, z3, z4, z5, z6, -⟩ := HQ1.2.cells
      go_wp2_with (go_at_call 37; refine (HT.out _).mono ?_; rintro e w2 ⟨rfl, rfl⟩)
      go_ret
      exact ⟨rfl, HQ1.1⟩
  · rw [decide_eq_false hp] at C1
    have hE : wrE W H tn C B = 11 := by unfold wrE; rw [if_neg hp]
    rw [hE]
    clear hE hp HB HT
    go_enter Tryd.func23, Tryd.ntmps23
    go_wp2_with fail
    refine C1.mono ?_
    clear C1
    rintro e w1 ⟨rfl, hb1⟩
    have HQ1 := HQ.out.old hb1
    go_wp2
    go_ret
    exact ⟨rfl, HQ1.1⟩
end Go.Proofs.YtaodhifkbfninaaDoor
