/- PngNil: the document's examples, and the walk. -/
import Derived.Test.YtpjcdfinlclhoaaGreatDoorPgC
namespace Go.Proofs.YtpjcdfinlclhoaaGreatDoor
open Go.RowKit
theorem pg_none : ofAll ([] ++ []) = ([], 2) := by unfold ofAll; rw [if_neg (by decide), if_pos (by decide)]
theorem pg_137 : ofAll ([] ++ [137]) = ([], 2) := by unfold ofAll; rw [if_neg (by decide), if_pos (by decide)]
theorem pg_138 : ofAll ([] ++ [137] ++ [138]) = ([], 3) := by unfold ofAll; rw [if_neg (by decide), if_neg (by decide)]
theorem row_oneG (w : World) (z : Int) : Row (w.alloc (.cells #[.int .u8 z] 5)) (some ⟨w.heap.size, 0, none⟩) [z] := by
  refine .inr ⟨w.heap.size, 0, rfl, fun i hi => ?_⟩
  obtain rfl : i = 0 := by simp at hi; omega
  rw [World.cell?_alloc_mark]; rfl
theorem Fd.below {a w w' : World} {d p B : Nat} (h : Fd w w' d p) (hb : Below B a w) (hd : B ≤ d) (hp : B ≤ p) (ha : B ≤ a.heap.size) : Below B a w' :=
  ⟨h.os.trans hb.os, h.tape.trans hb.tape, h.output.trans hb.output, Nat.le_trans hb.size h.size, fun k hk => (h.block k (by have := hb.size; omega) (by omega) (by omega)).trans (hb.block k hk)⟩
theorem nine_setG {w wr : World} {g : Nat} (hb : Below w.heap.size w wr) (hg : w.heap.size ≤ g) : ∀ (vs : List Value) (i : Nat), Below w.heap.size w (wr.setCells g i vs) := by
  intro vs
  induction vs generalizing wr with
  | nil => intro i; exact hb
  | cons v r ih => intro i; exact ih (hb.setCell (p := ⟨g, i, none⟩) hg v) (i + 1)
set_option maxHeartbeats 1600000 in
theorem pRead_nil (w : World) : Calls Tryz.prog 10 #[.slice none 0 0] w fun e w' => e = .returned (.tuple #[.agg #[.int .i64 0, .int .i64 0, .int .i64 0, .int .i64 0, .bool false, .slice none 0 0, .slice none 0 0, .slice none 0 0, .slice none 0 0], .int .i64 2]) ∧ Below w.heap.size w w' := by
  obtain ⟨w1, hw1⟩ : ∃ w1, w.alloc (.cells #[.int .i64 0, .int .i64 0, .int .i64 0, .int .i64 0, .bool false, .slice none 0 0, .slice none 0 0, .slice none 0 0, .slice none 0 0] 39) = w1 := ⟨_, rfl⟩
  have hb1 : Below w.heap.size w w1 := by rw [← hw1]; exact (Below.refl _ _).alloc (Nat.le_refl _) _
  have hr1 : w1.heap[w.heap.size]? = some (.cells #[.int .i64 0, .int .i64 0, .int .i64 0, .int .i64 0, .bool false, .slice none 0 0, .slice none 0 0, .slice none 0 0, .slice none 0 0] 39 (0, 0)) := by rw [← hw1]; exact heap_alloc_newG w _
  have HW : Hid (Below w.heap.size w w1 ∧ w1.heap[w.heap.size]? = some (.cells #[.int .i64 0, .int .i64 0, .int .i64 0, .int .i64 0, .bool false, .slice none 0 0, .slice none 0 0, .slice none 0 0, .slice none 0 0] 39 (0, 0))) := ⟨hb1, hr1⟩
  have CN := pnew_any w1
  clear hb1 hr1
  go_enter Tryz.func10, Tryz.ntmps10
  go_wp2_with fail
  refine CN.mono ?_
  clear CN hw1
  rintro e w2 ⟨p, d, rfl, hdm, hrd, hp, hd, hpd, hb2⟩
  have CP := ppush_any 0 (by omega) Bytes.nil none 0 0 rfl (by omega) (Nat.le_refl _) (by omega) (fun _ => rfl) (.inl rfl) (fun x hx => by cases hx) hpd hdm hrd pg_none (.inl rfl) 0 rfl
  have H2 : Hid (Below w.heap.size w w2 ∧ w2.heap[w.heap.size]? = some (.cells #[.int .i64 0, .int .i64 0, .int .i64 0, .int .i64 0, .bool false, .slice none 0 0, .slice none 0 0, .slice none 0 0, .slice none 0 0] 39 (0, 0)) ∧ w.heap.size < p ∧ w.heap.size < d) := by
    have hlt := lt_of_block HW.out.2
    exact ⟨HW.out.1.trans (hb2.mono HW.out.1.size), (hb2.block _ hlt).trans HW.out.2, by omega, by omega⟩
  clear hdm hrd hp hd hpd hb2 HW
  go_wp2_with fail
  refine CP.mono ?_
  clear CP
  rintro e w3 ⟨rfl, hf, h3⟩
  obtain ⟨hdm, _⟩ := h3 rfl
  have CD := pDone_new hdm
  have H3 : Hid (Below w.heap.size w w3 ∧ w3.heap[w.heap.size]? = some (.cells #[.int .i64 0, .int .i64 0, .int .i64 0, .int .i64 0, .bool false, .slice none 0 0, .slice none 0 0, .slice none 0 0, .slice none 0 0] 39 (0, 0))) := by
    obtain ⟨q1, q2, q3, q4⟩ := H2.out
    exact ⟨hf.below q1 (by omega) (by omega) (Nat.le_refl _), (hf.block _ (lt_of_block q2) (by omega) (by omega)).trans q2⟩
  clear hf h3 hdm H2
  go_wp2_with fail
  refine CD.mono ?_
  clear CD
  rintro e w4 ⟨rfl, rfl⟩
  have k := H3.out.2
  have c0 : w4.cell? ⟨w.heap.size, 0, none⟩ = some (.int .i64 0) := by simp [World.cell?, k]
  have c1 : w4.cell? ⟨w.heap.size, 1, none⟩ = some (.int .i64 0) := by simp [World.cell?, k]
  have c2 : w4.cell? ⟨w.heap.size, 2, none⟩ = some (.int .i64 0) := by simp [World.cell?, k]
  have c3 : w4.cell? ⟨w.heap.size, 3, none⟩ = some (.int .i64 0) := by simp [World.cell?, k]
  have c4 : w4.cell? ⟨w.heap.size, 4, none⟩ = some (.bool false) := by simp [World.cell?, k]
  have c5 : w4.cell? ⟨w.heap.size, 5, none⟩ = some (.slice none 0 0) := by simp [World.cell?, k]
  have c6 : w4.cell? ⟨w.heap.size, 6, none⟩ = some (.slice none 0 0) := by simp [World.cell?, k]
  have c7 : w4.cell? ⟨w.heap.size, 7, none⟩ = some (.slice none 0 0) := by simp [World.cell?, k]
  have c8 : w4.cell? ⟨w.heap.size, 8, none⟩ = some (.slice none 0 0) := by simp [World.cell?, k]
  have cf : ∀ j, w4.frozen? ⟨w.heap.size, j, none⟩ = false := fun j => by simp [World.frozen?, k]
  have HB : Hid (Below w.heap.size w w4) := H3.out.1
  clear k H3
  go_wp2
  refine bodyPost_ret (v := .tuple #[.agg #[.int .i64 0, .int .i64 0, .int .i64 0, .int .i64 0, .bool false, .slice none 0 0, .slice none 0 0, .slice none 0 0, .slice none 0 0], .int .i64 2]) ?_ rfl ⟨rfl, ?_⟩
  · rw [results_cellPG rfl]
    go_simp
  · have := nine_setG (g := w.heap.size) HB.out (Nat.le_refl _) [.int .i64 0, .int .i64 0, .int .i64 0, .int .i64 0, .bool false, .slice none 0 0, .slice none 0 0, .slice none 0 0, .slice none 0 0] 0
    exact this
set_option maxHeartbeats 3200000 in
theorem fixed_any (w : World) : Calls Tryz.prog 4 #[] w fun e w' => e = .returned (.bool true) ∧ Below w.heap.size w w' := by
  have CN := pnew_any w
  go_enter Tryz.func4, Tryz.ntmps4
  go_wp2_with fail
  refine CN.mono ?_
  clear CN
  rintro e w1 ⟨p, d, rfl, hdm, hrd, hp, hd, hpd, hb1⟩
  obtain ⟨w2, hw2⟩ : ∃ w2, w1.alloc (.cells #[.int .u8 137] 5) = w2 := ⟨_, rfl⟩
  have hb2 : Below w1.heap.size w1 w2 := by rw [← hw2]; exact (Below.refl _ _).alloc (Nat.le_refl _) _
  have hrow2 : Row w2 (some ⟨w1.heap.size, 0, none⟩) [137] := by rw [← hw2]; exact row_oneG w1 137
  have hpl := hrd.lt
  have hdl := lt_of_block hdm
  have CP := pPush_of _ (ppush_any 0 (by omega) (bs := [137]) (fun x hx => by simp at hx; omega) (some ⟨w1.heap.size, 0, none⟩) 1 1 rfl (by omega) (Nat.le_refl _) (by omega) (fun h => by cases h) hrow2 (fun x hx _ => by cases hx; exact ⟨by show w1.heap.size ≠ p; omega, by show w1.heap.size ≠ d; omega⟩) hpd (hdm.same (hb2.block _ hdl)) (hrd.same (hb2.block _ hpl)) pg_137 (.inl rfl) 0 rfl)
  have H2 : Hid (Below w.heap.size w w2 ∧ w.heap.size ≤ p ∧ w.heap.size ≤ d ∧ p ≠ d) := ⟨hb1.trans (hb2.mono hb1.size), hp, hd, hpd⟩
  clear hdm hrd hp hd hpd hb1 hb2 hrow2 hpl hdl
  go_wp2_with fail
  refine CP.mono ?_
  clear CP hw2
  rintro e w3 ⟨rfl, hf, h3⟩
  obtain ⟨hdm, hrd⟩ := h3 rfl
  have H3 : Hid (Below w.heap.size w w3) := hf.below H2.out.1 H2.out.2.2.1 H2.out.2.1 (Nat.le_refl _)
  clear hf h3
  obtain ⟨w4, hw4⟩ : ∃ w4, w3.alloc (.cells #[.int .u8 138] 5) = w4 := ⟨_, rfl⟩
  have hb4 : Below w3.heap.size w3 w4 := by rw [← hw4]; exact (Below.refl _ _).alloc (Nat.le_refl _) _
  have hrow4 : Row w4 (some ⟨w3.heap.size, 0, none⟩) [138] := by rw [← hw4]; exact row_oneG w3 138
  have hpl := hrd.lt
  have hdl := lt_of_block hdm
  have CP := pPush_of _ (ppush_any 1 (by omega) (bs := [138]) (fun x hx => by simp at hx; omega) (some ⟨w3.heap.size, 0, none⟩) 1 1 rfl (by omega) (Nat.le_refl _) (by omega) (fun h => by cases h) hrow4 (fun x hx _ => by cases hx; exact ⟨by show w3.heap.size ≠ p; omega, by show w3.heap.size ≠ d; omega⟩) H2.out.2.2.2 (hdm.same (hb4.block _ hdl)) (hrd.same (hb4.block _ hpl)) pg_138 (.inr rfl) 3 rfl)
  have H4 : Hid (Below w.heap.size w w4) := H3.out.trans (hb4.mono H3.out.size)
  clear hdm hrd hb4 hrow4 hpl hdl H3
  go_wp2_with fail
  refine CP.mono ?_
  clear CP hw4
  rintro e w5 ⟨rfl, hf, _⟩
  have H5 : Hid (Below w.heap.size w w5) := hf.below H4.out H2.out.2.2.1 H2.out.2.1 (Nat.le_refl _)
  clear hf
  have CR := pRead_nil w5
  go_wp2_with fail
  refine CR.mono ?_
  clear CR
  rintro e w6 ⟨rfl, hb6⟩
  have H6 : Hid (∀ o, Below w.heap.size w (w6.alloc o)) := fun o => by
    have h := H5.out.trans (hb6.mono H5.out.size)
    exact h.alloc h.size _
  clear hb6
  go_wp2
  go_ret
  exact ⟨rfl, H6.out _⟩
set_option maxHeartbeats 1600000 in
theorem pngnil_walk (a : Option Addr) (n c : Nat) (w : World) (_ : BArg w a n c) : Calls Tryz.prog 3 #[.slice a n c] w fun e w' => e = .returned (.bool true) ∧ Below w.heap.size w w' := by
  have F := fixed_any w
  go_enter Tryz.func3, Tryz.ntmps3
  go_wp2_with fail
  refine F.mono ?_
  clear F
  rintro e w1 ⟨rfl, hb1⟩
  have H1 : Hid (Below w.heap.size w w1) := hb1
  clear hb1
  have C := pPush_nil (.slice a n c) w1
  go_wp2_with fail
  refine C.mono ?_
  clear C
  rintro e w2 ⟨rfl, rfl⟩
  have C := pHead_nil w2
  go_wp2_with fail
  refine C.mono ?_
  clear C
  rintro e w3 ⟨rfl, hb3⟩
  have H4 : Hid (∀ o, Below w.heap.size w (w3.alloc o)) := fun o => by
    have h := H1.out.trans (hb3.mono H1.out.size)
    exact h.alloc h.size _
  clear hb3 H1
  go_wp2_with fail
  refine (pDone_nil _).mono ?_
  rintro e w5 ⟨rfl, rfl⟩
  go_wp2_with fail
  refine (pTold_nil _).mono ?_
  rintro e w6 ⟨rfl, rfl⟩
  go_wp2
  go_ret
  exact ⟨rfl, H4.out _⟩
end Go.Proofs.YtpjcdfinlclhoaaGreatDoor
