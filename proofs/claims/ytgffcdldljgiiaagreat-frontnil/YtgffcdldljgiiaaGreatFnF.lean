/- Check of no bytes, and of one that is no picture's; the law's fixed; FrontNil. -/
import Derived.Test.YtgffcdldljgiiaaGreatFnE
namespace Go.Proofs.YtgffcdldljgiiaaGreat
open Go.RowKit
theorem below_setsN {w : World} {g : Nat} (hg : w.heap.size ≤ g) : ∀ (vs : List Value) (i : Nat) (wr : World), Below w.heap.size w wr → Below w.heap.size w (wr.setCells g i vs) := by
  intro vs
  induction vs with
  | nil => intro i wr h; exact h
  | cons v r ih => intro i wr h; exact ih (i + 1) _ (h.setCell (p := ⟨g, i, none⟩) hg v)
theorem below_grown {w a b : World} {f : Nat} (h : Below w.heap.size w a) (hf : w.heap.size ≤ f) (hg : a.grownBy b (some f)) : Below w.heap.size w b :=
  ⟨hg.os.trans h.os, hg.tape.trans h.tape, hg.output.trans h.output, Nat.le_trans h.size hg.size, fun k hk => (hg.block k (Nat.lt_of_lt_of_le hk h.size) (fun e => by cases e; omega)).trans (h.block k hk)⟩
set_option maxHeartbeats 1600000 in
theorem check_none {w : World} {n c : Nat} {a : Option Addr} {E E2 : Int} (hE : (E = 0 ∧ E2 = 2) ∨ (E = 3 ∧ E2 = 3))
    (HCP : ∀ (W W1 : World) (f : Nat), Below w.heap.size w W → w.heap.size ≤ f → FrB W f .nilIface false → Below W.heap.size W W1 → Calls Tryz.prog 5 #[.pointer (some ⟨f, 0, none⟩), .slice a n c] W1 fun e W2 => e = .returned (.tuple #[.slice none 0 0, .int .i64 E]) ∧ W1.grownBy W2 (some f) ∧ (E = 0 → FrB W2 f .nilIface false)) :
    Calls Tryz.prog 10 #[.slice a n c] w fun e w' => e = .returned (.tuple #[.agg #[.int .i64 0, .int .i64 0, .slice none 0 0], .int .i64 E2]) ∧ Below w.heap.size w w' := by
  obtain ⟨w1, hw1⟩ : ∃ w1, w.alloc (.cells #[.int .i64 0, .int .i64 0, .slice none 0 0] 37) = w1 := ⟨_, rfl⟩
  have hr1 : w1.heap[w.heap.size]? = some (.cells #[.int .i64 0, .int .i64 0, .slice none 0 0] 37 (0, 0)) := by rw [← hw1]; exact heap_alloc_newG w _
  have hb1 : Below w.heap.size w w1 := by rw [← hw1]; exact (Below.refl _ _).alloc (Nat.le_refl _) _
  have CN := fnew_any w1
  have HA : Hid (w1.heap[w.heap.size]? = some (.cells #[.int .i64 0, .int .i64 0, .slice none 0 0] 37 (0, 0)) ∧ Below w.heap.size w w1 ∧ (∀ (W W1 : World) (f : Nat), Below w.heap.size w W → w.heap.size ≤ f → FrB W f .nilIface false → Below W.heap.size W W1 → Calls Tryz.prog 5 #[.pointer (some ⟨f, 0, none⟩), .slice a n c] W1 fun e W2 => e = .returned (.tuple #[.slice none 0 0, .int .i64 E]) ∧ W1.grownBy W2 (some f) ∧ (E = 0 → FrB W2 f .nilIface false)) ∧ ((E = 0 ∧ E2 = 2) ∨ (E = 3 ∧ E2 = 3))) := ⟨hr1, hb1, HCP, hE⟩
  have hE2 : ¬ E2 = 0 := by omega
  clear hr1 hb1 HCP hE
  go_enter Tryz.func10, Tryz.ntmps10
  go_wp2_with fail
  refine CN.mono ?_
  clear CN hw1
  rintro e w2 ⟨f, rfl, hfr, hfl, hb2⟩
  obtain ⟨q1, q2, q3, q4⟩ := HA.out
  have hlt := lt_of_block q1
  have hB2 : Below w.heap.size w w2 := q2.trans (hb2.mono q2.size)
  have CA := all_any (w := w2) (lt_of_block hfr) (fun W1 hB => q3 w2 W1 f hB2 (by omega) hfr hB) q4
  have H2 : Hid (w2.heap[w.heap.size]? = some (.cells #[.int .i64 0, .int .i64 0, .slice none 0 0] 37 (0, 0)) ∧ Below w.heap.size w w2 ∧ w.heap.size < f) := ⟨(hb2.block _ hlt).trans q1, hB2, by omega⟩
  clear HA q1 q2 q3 q4 hlt hB2 hfr hfl hb2
  go_wp2_with fail
  refine CA.mono ?_
  clear CA
  rintro e w3 ⟨rfl, hg⟩
  obtain ⟨q1, q2, q3⟩ := H2.out
  have r3 := (hg.block _ (lt_of_block q1) (fun e => by cases e; omega)).trans q1
  have c0 : w3.cell? ⟨w.heap.size, 0, none⟩ = some (.int .i64 0) := by simp [World.cell?, r3]
  have c1 : w3.cell? ⟨w.heap.size, 1, none⟩ = some (.int .i64 0) := by simp [World.cell?, r3]
  have c2 : w3.cell? ⟨w.heap.size, 2, none⟩ = some (.slice none 0 0) := by simp [World.cell?, r3]
  have cf : ∀ j, w3.frozen? ⟨w.heap.size, j, none⟩ = false := fun j => by simp [World.frozen?, r3]
  have HN : Hid (Below w.heap.size w (w3.setCells w.heap.size 0 [.int .i64 0, .int .i64 0, .slice none 0 0])) := below_setsN (Nat.le_refl _) _ 0 _ (below_grown q2 (Nat.le_of_lt q3) hg)
  clear H2 q1 q2 q3 r3 hg
  go_wp2
  refine bodyPost_ret (v := .tuple #[.agg #[.int .i64 0, .int .i64 0, .slice none 0 0], .int .i64 E2]) ?_ rfl ⟨rfl, ?_⟩
  · rw [results_cellPG rfl]
    go_simp
  · exact HN.out
theorem check_nil (w : World) : Calls Tryz.prog 10 #[.slice none 0 0] w fun e w' => e = .returned (.tuple #[.agg #[.int .i64 0, .int .i64 0, .slice none 0 0], .int .i64 2]) ∧ Below w.heap.size w w' :=
  check_none (E := 0) (.inl ⟨rfl, rfl⟩) fun W W1 f _ _ hfr hB => (fPush_none (hfr.old hB)).mono fun _ _ ⟨e, h⟩ => by subst h; exact ⟨e, grownBy_refl _ _, fun _ => hfr.old hB⟩
theorem check_one {w : World} {b : Nat} (hbl : b < w.heap.size) (hc : w.cell? ⟨b, 0, none⟩ = some (.int .u8 1)) : Calls Tryz.prog 10 #[.slice (some ⟨b, 0, none⟩) 1 1] w fun e w' => e = .returned (.tuple #[.agg #[.int .i64 0, .int .i64 0, .slice none 0 0], .int .i64 3]) ∧ Below w.heap.size w w' :=
  check_none (E := 3) (.inr ⟨rfl, rfl⟩) fun W W1 f hW _ hfr hB => (fPush_one (hfr.old hB) ((World.cell?_of_block (a := ⟨b, 0, none⟩) ((hB.block b (Nat.lt_of_lt_of_le hbl hW.size)).trans (hW.block b hbl))).trans hc)).mono fun _ _ ⟨e, h⟩ => ⟨e, h, fun h => by omega⟩
theorem two_cellsN (w : World) (x y : Int) : (w.alloc (.cells #[.int .u8 x, .int .u8 y] 5)).cell? ⟨w.heap.size, 0, none⟩ = some (.int .u8 x) ∧ (w.alloc (.cells #[.int .u8 x, .int .u8 y] 5)).cell? ⟨w.heap.size, 1, none⟩ = some (.int .u8 y) := by
  constructor <;> (rw [World.cell?_alloc_mark]; rfl)
theorem one_cellN (w : World) (z : Int) : (w.alloc (.cells #[.int .u8 z] 5)).cell? ⟨w.heap.size, 0, none⟩ = some (.int .u8 z) := by
  rw [World.cell?_alloc_mark]; rfl
set_option maxHeartbeats 3200000 in
theorem nfixed_any (w : World) : Calls Tryz.prog 4 #[] w fun e w' => e = .returned (.bool true) ∧ Below w.heap.size w w' := by
  have C1 := check_nil w
  go_enter Tryz.func4, Tryz.ntmps4
  go_wp2_with fail
  refine C1.mono ?_
  clear C1
  rintro e w1 ⟨rfl, hb1⟩
  obtain ⟨w2, hw2⟩ : ∃ w2, w2 = (w1.alloc (.cells #[.int .i64 0, .int .i64 0, .slice none 0 0] 37)).alloc (.cells #[.int .u8 1] 5) := ⟨_, rfl⟩
  have hb2 : Below w1.heap.size w1 w2 := by rw [hw2]; exact ((Below.refl _ _).alloc (Nat.le_refl _) _).alloc (by simp) _
  have C2 := check_one (w := w2) (b := w1.heap.size + 1) (by rw [hw2]; simp) (by rw [hw2]; have := one_cellN (w1.alloc (.cells #[.int .i64 0, .int .i64 0, .slice none 0 0] 37)) 1; rwa [World.size_alloc] at this)
  rw [hw2] at C2
  have H2 : Hid (Below w.heap.size w w2 ∧ w2 = (w1.alloc (.cells #[.int .i64 0, .int .i64 0, .slice none 0 0] 37)).alloc (.cells #[.int .u8 1] 5)) := ⟨hb1.trans (hb2.mono hb1.size), hw2⟩
  clear hb1 hb2 hw2
  go_wp2_with fail
  refine C2.mono ?_
  clear C2
  rintro e w3 ⟨rfl, hb3⟩
  have H3 : Hid (∀ o, Below w.heap.size w (w3.alloc o)) := fun o => by
    obtain ⟨q1, q2⟩ := H2.out
    rw [← q2] at hb3
    have h := q1.trans (hb3.mono q1.size)
    exact h.alloc h.size _
  clear hb3 H2
  obtain ⟨w4, hw4⟩ : ∃ w4, w4 = w3.alloc (.cells #[.int .i64 0, .int .i64 0, .slice none 0 0] 37) := ⟨_, rfl⟩
  have CN := fnew_any w4
  rw [hw4] at CN
  have H4 : Hid (Below w.heap.size w w4 ∧ w4 = w3.alloc (.cells #[.int .i64 0, .int .i64 0, .slice none 0 0] 37)) := ⟨by rw [hw4]; exact H3.out _, hw4⟩
  clear H3 hw4
  go_wp2_with fail
  refine CN.mono ?_
  clear CN
  rintro e w5 ⟨f, rfl, hfr, hfl, hb5⟩
  have H5 : Hid (Below w.heap.size w w5 ∧ w.heap.size ≤ f) := by
    obtain ⟨q1, q2⟩ := H4.out
    rw [← q2] at hb5 hfl
    exact ⟨q1.trans (hb5.mono q1.size), by have := q1.size; omega⟩
  clear hb5 hfl H4
  obtain ⟨w6, hw6⟩ : ∃ w6, w5.alloc (.cells #[.int .u8 71, .int .u8 73] 5) = w6 := ⟨_, rfl⟩
  have hb6 : Below w5.heap.size w5 w6 := by rw [← hw6]; exact (Below.refl _ _).alloc (Nat.le_refl _) _
  obtain ⟨k1, k2⟩ := two_cellsN w5 71 73
  rw [hw6] at k1 k2
  have CP := fPush_gi (w := w6) (f := f) (b := w5.heap.size) (hfr.old hb6) (by rw [← hw6]; simp) (by have := lt_of_block hfr; omega) k1 k2
  have H6 : Hid (Below w.heap.size w w6 ∧ w.heap.size ≤ f) := ⟨H5.out.1.trans (hb6.mono H5.out.1.size), H5.out.2⟩
  clear H5 hb6 hfr k1 k2
  go_wp2_with fail
  refine CP.mono ?_
  clear CP hw6
  rintro e w7 ⟨rfl, hb7, d, kv, h7, hd7⟩
  have CW := fWoven_any h7
  have CD := fDone_gif h7 hd7
  have H7 : Hid (Below w.heap.size w w7) := H6.out.1.trans (hb7.mono H6.out.2)
  clear hb7 h7 hd7 H6
  go_wp2_with fail
  refine CW.mono ?_
  clear CW
  rintro e w8 ⟨rfl, rfl⟩
  go_wp2_with fail
  refine CD.mono ?_
  clear CD
  rintro e w9 ⟨rfl, rfl⟩
  go_wp2
  go_ret
  exact ⟨rfl, H7.out⟩
set_option maxRecDepth 100000 in
set_option maxHeartbeats 1600000 in
theorem frontnil_walk (a : Option Addr) (n c : Nat) (w : World) (_ : BArg w a n c) : Calls Tryz.prog 3 #[.slice a n c] w fun e w' => e = .returned (.bool true) ∧ Below w.heap.size w w' := by
  have F := nfixed_any w
  go_enter Tryz.func3, Tryz.ntmps3
  go_wp2_with fail
  refine F.mono ?_
  clear F
  rintro e w1 ⟨rfl, hb1⟩
  have H1 : Hid (Below w.heap.size w w1) := hb1
  clear hb1
  go_wp2_with fail
  refine (fPush_nil _ _).mono ?_
  rintro e w2 ⟨rfl, rfl⟩
  go_wp2_with fail
  refine (fHead_nil _).mono ?_
  rintro e w3 ⟨rfl, hb3⟩
  have H4 : Hid (∀ o, Below w.heap.size w (w3.alloc o)) := fun o => by
    have h := H1.out.trans (hb3.mono H1.out.size)
    exact h.alloc h.size _
  clear hb3 H1
  go_wp2_with fail
  refine (fDone_nil _).mono ?_
  rintro e w5 ⟨rfl, rfl⟩
  go_wp2_with fail
  refine (fTold_nil _).mono ?_
  rintro e w6 ⟨rfl, rfl⟩
  go_wp2_with fail
  refine (fWoven_nil _).mono ?_
  rintro e w7 ⟨rfl, rfl⟩
  go_wp2
  go_ret
  exact ⟨rfl, H4.out _⟩
end Go.Proofs.YtgffcdldljgiiaaGreat
