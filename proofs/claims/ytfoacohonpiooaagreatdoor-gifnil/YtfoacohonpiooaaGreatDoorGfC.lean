/- GifNil: the document's examples, and the walk. -/
import Derived.Test.YtfoacohonpiooaaGreatDoorGfB
namespace Go.Proofs.YtfoacohonpiooaaGreatDoor
open Go.RowKit
theorem gg_71 : gAll ([] ++ [71]) = .error 2 := by rfl
theorem gg_72 : gAll ([] ++ [71] ++ [72]) = .error 3 := by rfl
theorem nine_setG {w wr : World} {g : Nat} (hb : Below w.heap.size w wr) (hg : w.heap.size ≤ g) : ∀ (vs : List Value) (i : Nat), Below w.heap.size w (wr.setCells g i vs) := by
  intro vs
  induction vs generalizing wr with
  | nil => intro i; exact hb
  | cons v r ih => intro i; exact ih (hb.setCell (p := ⟨g, i, none⟩) hg v) (i + 1)
set_option maxHeartbeats 1600000 in
theorem gRead_nil (w : World) : Calls Tryz.prog 10 #[.slice none 0 0] w fun e w' => e = .returned (.tuple #[.agg #[.int .i64 0, .int .i64 0, .int .i64 0, .int .i64 0, .bool false, .slice none 0 0, .slice none 0 0, .slice none 0 0, .slice none 0 0], .int .i64 2]) ∧ Below w.heap.size w w' := by
  obtain ⟨w1, hw1⟩ : ∃ w1, w.alloc (.cells #[.int .i64 0, .int .i64 0, .int .i64 0, .int .i64 0, .bool false, .slice none 0 0, .slice none 0 0, .slice none 0 0, .slice none 0 0] 39) = w1 := ⟨_, rfl⟩
  have hb1 : Below w.heap.size w w1 := by rw [← hw1]; exact (Below.refl _ _).alloc (Nat.le_refl _) _
  have hr1 : w1.heap[w.heap.size]? = some (.cells #[.int .i64 0, .int .i64 0, .int .i64 0, .int .i64 0, .bool false, .slice none 0 0, .slice none 0 0, .slice none 0 0, .slice none 0 0] 39 (0, 0)) := by rw [← hw1]; exact heap_alloc_newG w _
  have HW : Hid (Below w.heap.size w w1 ∧ w1.heap[w.heap.size]? = some (.cells #[.int .i64 0, .int .i64 0, .int .i64 0, .int .i64 0, .bool false, .slice none 0 0, .slice none 0 0, .slice none 0 0, .slice none 0 0] 39 (0, 0))) := ⟨hb1, hr1⟩
  have CN := gnew_any w1
  clear hb1 hr1
  go_enter Tryz.func10, Tryz.ntmps10
  go_wp2_with fail
  refine CN.mono ?_
  clear CN hw1
  rintro e w2 ⟨d, rfl, hdm, hb2⟩
  have CP := gpush_of hdm.block (.inl rfl) (gread_none hdm)
  have H2 : Hid (Below w.heap.size w w2 ∧ w2.heap[w.heap.size]? = some (.cells #[.int .i64 0, .int .i64 0, .int .i64 0, .int .i64 0, .bool false, .slice none 0 0, .slice none 0 0, .slice none 0 0, .slice none 0 0] 39 (0, 0)) ∧ w.heap.size < w1.heap.size) := by
    have hlt := lt_of_block HW.out.2
    exact ⟨HW.out.1.trans (hb2.mono HW.out.1.size), (hb2.block _ hlt).trans HW.out.2, hlt⟩
  clear hdm hb2 HW
  go_wp2_with fail
  refine CP.mono ?_
  clear CP
  rintro e w3 ⟨rfl, hf, h3⟩
  obtain ⟨kv', hdm⟩ := h3 (by first | rfl | trivial)
  have CD := gDone_new hdm.block
  have H3 : Hid (Below w.heap.size w w3 ∧ w3.heap[w.heap.size]? = some (.cells #[.int .i64 0, .int .i64 0, .int .i64 0, .int .i64 0, .bool false, .slice none 0 0, .slice none 0 0, .slice none 0 0, .slice none 0 0] 39 (0, 0))) := by
    obtain ⟨q1, q2, q3⟩ := H2.out
    exact ⟨q1.trans (hf.mono (Nat.le_of_lt q3)), (hf.block _ q3).trans q2⟩
  clear hf h3 hdm H2
  go_wp2_with fail
  refine CD.mono ?_
  clear CD
  rintro e w4 ⟨rfl, rfl⟩
  have k := H3.out.2
  have c0 : w4.cell? ⟨w.heap.size, 0, none⟩ = some (.int .i64 0) := by simp [World.cell?, k]
  have c1 : w4.cell? ⟨w.heap.size, 1, none⟩ = some (.int .i64 0) := by simp [World.cell?, k]
  have c2 : w4.cell? ⟨w.heap.size, 2, none⟩ = some (.int .i64 0) := by simp [World.cell?, k]
  have c3 : w4.cell? ⟨w.heap.size, 3, none⟩ = some (.int .i64 0) := by simp [World.cell?, k]
  have c4 : w4.cell? ⟨w.heap.size, 4, none⟩ = some (.bool false) := by simp [World.cell?, k]
  have c5 : w4.cell? ⟨w.heap.size, 5, none⟩ = some (.slice none 0 0) := by simp [World.cell?, k]
  have c6 : w4.cell? ⟨w.heap.size, 6, none⟩ = some (.slice none 0 0) := by simp [World.cell?, k]
  have c7 : w4.cell? ⟨w.heap.size, 7, none⟩ = some (.slice none 0 0) := by simp [World.cell?, k]
  have c8 : w4.cell? ⟨w.heap.size, 8, none⟩ = some (.slice none 0 0) := by simp [World.cell?, k]
  have cf : ∀ j, w4.frozen? ⟨w.heap.size, j, none⟩ = false := fun j => by simp [World.frozen?, k]
  have HB : Hid (Below w.heap.size w w4) := H3.out.1
  clear k H3
  go_wp2
  refine bodyPost_ret (v := .tuple #[.agg #[.int .i64 0, .int .i64 0, .int .i64 0, .int .i64 0, .bool false, .slice none 0 0, .slice none 0 0, .slice none 0 0, .slice none 0 0], .int .i64 2]) ?_ rfl ⟨rfl, ?_⟩
  · rw [results_cellPG rfl]
    go_simp
  · have := nine_setG (g := w.heap.size) HB.out (Nat.le_refl _) [.int .i64 0, .int .i64 0, .int .i64 0, .int .i64 0, .bool false, .slice none 0 0, .slice none 0 0, .slice none 0 0, .slice none 0 0] 0
    exact this
theorem one_cellG (w : World) (z : Int) : (w.alloc (.cells #[.int .u8 z] 5)).cell? ⟨w.heap.size, 0, none⟩ = some (.int .u8 z) := by
  rw [World.cell?_alloc_mark]; rfl
set_option maxHeartbeats 3200000 in
theorem gfixed_any (w : World) : Calls Tryz.prog 4 #[] w fun e w' => e = .returned (.bool true) ∧ Below w.heap.size w w' := by
  have CN := gnew_any w
  go_enter Tryz.func4, Tryz.ntmps4
  go_wp2_with fail
  refine CN.mono ?_
  clear CN
  rintro e w1 ⟨d, rfl, hdm, hb1⟩
  obtain ⟨w2, hw2⟩ : ∃ w2, w1.alloc (.cells #[.int .u8 71] 5) = w2 := ⟨_, rfl⟩
  have hb2 : Below w1.heap.size w1 w2 := by rw [← hw2]; exact (Below.refl _ _).alloc (Nat.le_refl _) _
  have hd2 : DgM w2 d w.heap.size 0 (.slice none 0 0) [] := hdm.same fun k hk => hb2.block k hk
  have CP := gPush_of _ _ (gpush_of hd2.block (.inl rfl) (gread_one (b := w1.heap.size) 0 (by omega) 71 (.inl rfl) hd2 (Nat.le_trans hb1.size hb2.size) (by rw [← hw2]; exact one_cellG w1 71) (fun x hx => by simp at hx; omega) (by simp) gg_71 (.inl rfl) 0 rfl))
  have H2 : Hid (Below w.heap.size w w2) := hb1.trans (hb2.mono hb1.size)
  clear hdm hb1 hb2 hd2
  go_wp2_with fail
  refine CP.mono ?_
  clear CP hw2
  rintro e w3 ⟨rfl, hf, h3⟩
  obtain ⟨kv3, hdm⟩ := h3 (by first | rfl | trivial)
  have H3 : Hid (Below w.heap.size w w3) := H2.out.trans hf
  clear hf h3
  obtain ⟨w4, hw4⟩ : ∃ w4, w3.alloc (.cells #[.int .u8 72] 5) = w4 := ⟨_, rfl⟩
  have hb4 : Below w3.heap.size w3 w4 := by rw [← hw4]; exact (Below.refl _ _).alloc (Nat.le_refl _) _
  have hd4 : DgM w4 d w.heap.size ((1 : Nat) : Int) kv3 ([] ++ [71]) := hdm.same fun k hk => hb4.block k hk
  have CP := gPush_of _ _ (gpush_of hd4.block (.inr rfl) (gread_one (b := w3.heap.size) 1 (by omega) 72 (.inr rfl) hd4 (Nat.le_trans H3.out.size hb4.size) (by rw [← hw4]; exact one_cellG w3 72) (fun x hx => by simp at hx; omega) (by simp) gg_72 (.inr rfl) 3 rfl))
  have H4 : Hid (Below w.heap.size w w4) := H3.out.trans (hb4.mono H3.out.size)
  clear hdm hb4 hd4 H3
  go_wp2_with fail
  refine CP.mono ?_
  clear CP hw4
  rintro e w5 ⟨rfl, hf, _⟩
  have H5 : Hid (Below w.heap.size w w5) := H4.out.trans hf
  clear hf
  have CR := gRead_nil w5
  go_wp2_with fail
  refine CR.mono ?_
  clear CR
  rintro e w6 ⟨rfl, hb6⟩
  have H6 : Hid (∀ o, Below w.heap.size w (w6.alloc o)) := fun o => by
    have h := H5.out.trans (hb6.mono H5.out.size)
    exact h.alloc h.size _
  clear hb6
  go_wp2
  go_ret
  exact ⟨rfl, H6.out _⟩
set_option maxHeartbeats 1600000 in
theorem gifnil_walk (a : Option Addr) (n c : Nat) (w : World) (_ : BArg w a n c) : Calls Tryz.prog 3 #[.slice a n c] w fun e w' => e = .returned (.bool true) ∧ Below w.heap.size w w' := by
  have F := gfixed_any w
  go_enter Tryz.func3, Tryz.ntmps3
  go_wp2_with fail
  refine F.mono ?_
  clear F
  rintro e w1 ⟨rfl, hb1⟩
  have H1 : Hid (Below w.heap.size w w1) := hb1
  clear hb1
  have C := gPush_of _ _ (gpush_nil (.slice a n c) w1)
  go_wp2_with fail
  refine C.mono ?_
  clear C
  rintro e w2 ⟨rfl, rfl⟩
  have C := gHead_nil w2
  go_wp2_with fail
  refine C.mono ?_
  clear C
  rintro e w3 ⟨rfl, hb3⟩
  have H4 : Hid (∀ o, Below w.heap.size w (w3.alloc o)) := fun o => by
    have h := H1.out.trans (hb3.mono H1.out.size)
    exact h.alloc h.size _
  clear hb3 H1
  go_wp2_with fail
  refine (gDone_nil _).mono ?_
  rintro e w5 ⟨rfl, rfl⟩
  go_wp2_with fail
  refine (gTold_nil _).mono ?_
  rintro e w6 ⟨rfl, rfl⟩
  go_wp2
  go_ret
  exact ⟨rfl, H4.out _⟩
end Go.Proofs.YtfoacohonpiooaaGreatDoor
