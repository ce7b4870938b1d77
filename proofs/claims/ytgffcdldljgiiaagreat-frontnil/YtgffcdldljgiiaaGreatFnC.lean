/- A front's Push and Done through the interface. -/
import Derived.Test.YtgffcdldljgiiaaGreatFnB
namespace Go.Proofs.YtgffcdldljgiiaaGreat
open Go.RowKit
theorem mth_npush (w : World) : (method 459 59 (.agg #[]) "Push").run Tryz.prog w = .ok (280, .agg #[]) w := by kernel_rfl
theorem mth_gpush (d : Nat) (w : World) : (method 459 56 (.pointer (some ⟨d, 0, none⟩)) "Push").run Tryz.prog w = .ok (203, .pointer (some ⟨d, 0, none⟩)) w := by kernel_rfl
theorem mth_gdone (d : Nat) (w : World) : (method 459 56 (.pointer (some ⟨d, 0, none⟩)) "Done").run Tryz.prog w = .ok (201, .pointer (some ⟨d, 0, none⟩)) w := by kernel_rfl
set_option maxHeartbeats 400000 in
theorem npush_any (v : Value) (w : World) : Calls Tryz.prog 280 #[.agg #[], v] w fun e w' => e = .returned (.tuple #[.slice none 0 0, .int .i64 3]) ∧ Below w.heap.size w w' := by
  have HF : Hid (∀ o, Below w.heap.size w (w.alloc o)) := fun o => (Below.refl _ _).alloc (Nat.le_refl _) _
  go_enter Tryz.func280, Tryz.ntmps280
  go_wp2
  go_ret2
  exact ⟨rfl, HF.out _⟩
set_option maxRecDepth 100000 in
set_option maxHeartbeats 800000 in
theorem fPush_one {w : World} {f b : Nat} (h : FrB w f .nilIface false) (hc : w.cell? ⟨b, 0, none⟩ = some (.int .u8 1)) : Calls Tryz.prog 5 #[.pointer (some ⟨f, 0, none⟩), .slice (some ⟨b, 0, none⟩) 1 1] w fun e w' => e = .returned (.tuple #[.slice none 0 0, .int .i64 3]) ∧ w.grownBy w' (some f) := by
  have C := begun_no h
  have CB := fbegin_no h
  clear h
  have hm := mth_npush
  go_enter Tryz.func5, Tryz.ntmps5
  go_wp2_with fail
  refine C.mono ?_
  clear C
  rintro e w' ⟨rfl, rfl⟩
  go_wp2_with fail
  refine CB.mono ?_
  clear CB
  rintro e w1 ⟨rfl, h1, hb1⟩
  have C := begun_yes h1
  obtain ⟨k0, -, -⟩ := h1.cells
  have HB : Hid (w'.grownBy w1 (some f)) := hb1
  clear h1 hb1 hc
  go_wp2_with fail
  refine C.mono ?_
  clear C
  rintro e w2 ⟨rfl, rfl⟩
  have C := npush_any (.slice (some ⟨b, 0, none⟩) 1 1) w2
  go_wp2_with fail
  refine C.mono ?_
  clear C
  rintro e w3 ⟨rfl, hb3⟩
  have HP : Hid (w'.grownBy w3 (some f)) := grownBy_trans HB.out (grownBy_of_below hb3 (some f))
  clear hb3 HB
  go_wp2
  go_ret2
  exact ⟨rfl, HP.out⟩
set_option maxRecDepth 100000 in
set_option maxHeartbeats 800000 in
theorem fPush_gi {w : World} {f b : Nat} (h : FrB w f .nilIface false) (hbl : b < w.heap.size) (hbf : b ≠ f) (hc : w.cell? ⟨b, 0, none⟩ = some (.int .u8 71)) (hc1 : w.cell? ⟨b, 1, none⟩ = some (.int .u8 73)) :
    Calls Tryz.prog 5 #[.pointer (some ⟨f, 0, none⟩), .slice (some ⟨b, 0, none⟩) 2 2] w fun e w' => e = .returned (.tuple #[.slice none 0 0, .int .i64 0]) ∧ Below f w w' ∧ ∃ d kv, FrB w' f (.iface 56 (.pointer (some ⟨d, 0, none⟩))) true ∧ DgB w' d 2 kv := by
  have C := begun_no h
  have CB := fbegin_gif h
  have HL : Hid (f < w.heap.size ∧ b < w.heap.size ∧ w.cell? ⟨b, 0, none⟩ = some (.int .u8 71) ∧ w.cell? ⟨b, 1, none⟩ = some (.int .u8 73)) := ⟨lt_of_block h, hbl, hc, hc1⟩
  clear h hc1 hbl
  go_enter Tryz.func5, Tryz.ntmps5
  go_wp2_with fail
  refine C.mono ?_
  clear C
  rintro e w' ⟨rfl, rfl⟩
  go_wp2_with fail
  refine CB.mono ?_
  clear CB
  rintro e w1 ⟨rfl, d, h1, hd, hb1, hoth⟩
  have C := begun_yes h1
  obtain ⟨k0, -, -⟩ := h1.cells
  obtain ⟨l1, l2, l3, l4⟩ := HL.out
  have hcc : ∀ j, w1.cell? ⟨b, j, none⟩ = w'.cell? ⟨b, j, none⟩ := fun j => World.cell?_of_block (a := ⟨b, j, none⟩) (hoth b l2 hbf)
  have CP := gPush_of _ _ (gpush_of hd.block (.inl rfl) (gread_two hd l2 ((hcc 0).trans l3) ((hcc 1).trans l4)))
  have hm := mth_gpush d
  have HB : Hid (Below f w' w1 ∧ f < w'.heap.size ∧ FrB w1 f (.iface 56 (.pointer (some ⟨d, 0, none⟩))) true) := ⟨hb1, l1, h1⟩
  clear h1 hb1 hc HL hd hoth hcc l1 l2 l3 l4
  go_wp2_with fail
  refine C.mono ?_
  clear C
  rintro e w2 ⟨rfl, rfl⟩
  go_wp2_with fail
  refine CP.mono ?_
  clear CP
  rintro e w3 ⟨rfl, hb3, hd3⟩
  obtain ⟨kv', hd3⟩ := hd3 (by first | rfl | trivial)
  have HP : Hid (Below f w' w3 ∧ ∃ d kv, FrB w3 f (.iface 56 (.pointer (some ⟨d, 0, none⟩))) true ∧ DgB w3 d 2 kv) := ⟨HB.out.1.trans (hb3.mono (by have := HB.out.2.1; omega)), d, kv', (hb3.block f HB.out.2.1).trans HB.out.2.2, hd3.block⟩
  clear hb3 hd3 HB
  go_wp2
  go_ret2
  exact ⟨rfl, HP.out⟩
set_option maxRecDepth 100000 in
set_option maxHeartbeats 400000 in
theorem fDone_gif {w : World} {f d : Nat} {kv : Value} (h : FrB w f (.iface 56 (.pointer (some ⟨d, 0, none⟩))) true) (hd : DgB w d 2 kv) : Calls Tryz.prog 7 #[.pointer (some ⟨f, 0, none⟩)] w fun e w' => e = .returned (.bool false) ∧ w' = w := by
  have C := begun_yes h
  obtain ⟨k0, -, -⟩ := h.cells
  have CD := gDone_new hd
  have hm := mth_gdone d
  clear h hd
  go_enter Tryz.func7, Tryz.ntmps7
  go_wp2_with fail
  refine C.mono ?_
  clear C
  rintro e w' ⟨rfl, rfl⟩
  go_wp2_with fail
  refine CD.mono ?_
  rintro e w' ⟨rfl, rfl⟩
  go_wp2
  go_ret
  exact ⟨rfl, rfl⟩
set_option maxHeartbeats 400000 in
theorem fHead_nil (w : World) : Calls Tryz.prog 6 #[.pointer none] w fun e w' => e = .returned (.tuple #[.agg #[.int .i64 0, .int .i64 0, .int .i64 0, .int .i64 0, .bool false], .bool false]) ∧ Below w.heap.size w w' := by
  obtain ⟨w1, hw1⟩ : ∃ w1, w.alloc (.cells #[.int .i64 0, .int .i64 0, .int .i64 0, .int .i64 0, .bool false] 30) = w1 := ⟨_, rfl⟩
  have hr : w1.heap[w.heap.size]? = some (.cells #[.int .i64 0, .int .i64 0, .int .i64 0, .int .i64 0, .bool false] 30 (0, 0)) := by rw [← hw1]; exact heap_alloc_newG w _
  have HB : Hid (Below w.heap.size w w1) := by rw [← hw1]; exact (Below.refl _ _).alloc (Nat.le_refl _) _
  have c0 : w1.cell? ⟨w.heap.size, 0, none⟩ = some (.int .i64 0) := by simp [World.cell?, hr]
  have c1 : w1.cell? ⟨w.heap.size, 1, none⟩ = some (.int .i64 0) := by simp [World.cell?, hr]
  have c2 : w1.cell? ⟨w.heap.size, 2, none⟩ = some (.int .i64 0) := by simp [World.cell?, hr]
  have c3 : w1.cell? ⟨w.heap.size, 3, none⟩ = some (.int .i64 0) := by simp [World.cell?, hr]
  have c4 : w1.cell? ⟨w.heap.size, 4, none⟩ = some (.bool false) := by simp [World.cell?, hr]
  have cf : ∀ j, w1.frozen? ⟨w.heap.size, j, none⟩ = false := fun j => by simp [World.frozen?, hr]
  have C := begun_nil w1
  clear hr
  go_enter Tryz.func6, Tryz.ntmps6
  go_wp2_with fail
  refine C.mono ?_
  clear C hw1
  rintro e w2 ⟨rfl, rfl⟩
  have HN : Hid (Below w.heap.size w (w2.setCells w.heap.size 0 [.int .i64 0, .int .i64 0, .int .i64 0, .int .i64 0, .bool false])) := by
    have : ∀ (vs : List Value) (i : Nat) (wr : World), Below w.heap.size w wr → Below w.heap.size w (wr.setCells w.heap.size i vs) := by
      intro vs
      induction vs with
      | nil => intro i wr h; exact h
      | cons v r ih => intro i wr h; exact ih (i + 1) _ (h.setCell (p := ⟨w.heap.size, i, none⟩) (Nat.le_refl _) v)
    exact this _ 0 _ HB.out
  clear HB
  go_wp2
  refine bodyPost_ret (v := .tuple #[.agg #[.int .i64 0, .int .i64 0, .int .i64 0, .int .i64 0, .bool false], .bool false]) ?_ rfl ⟨rfl, ?_⟩
  · rw [results_cellPG rfl]
    go_simp
  · exact HN.out
end Go.Proofs.YtgffcdldljgiiaaGreat
