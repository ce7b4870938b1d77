/- A GIF's decoder that has read but the beginning's first bytes: New, ask, open. -/
import Derived.Test.YtfoacohonpiooaaGreatDoorScI
import Derived.StillTail
import Derived.Deep.DeepCutAuto
import Derived.Deep.CutBlock
import Derived.Deep.RegionHeld3
import Derived.WalkMore
namespace Go.Proofs.YtfoacohonpiooaaGreatDoor
open Go.RowKit
theorem heap_alloc_newG (w : World) (o : Obj) : (w.alloc o).heap[w.heap.size]? = some o := by show (w.heap.push o)[w.heap.size]? = some o; simp
/-- A decoder's cells. -/
def DgA (seen : Int) (kv : Value) : Array Value := #[.int .i64 0, .int .i64 seen, .int .i64 0, kv, .int .i64 0, .slice none 0 0, .pointer none, .int .i64 0, .int .i64 0, .int .i64 0, .int .i64 0, .bool false, .slice none 0 0, .slice none 0 0, .slice none 0 0, .slice none 0 0, .bool false, .pointer none, .pointer none, .slice none 0 0, .slice none 0 0, .int .i64 0]
def DgB (w : World) (d : Nat) (seen : Int) (kv : Value) : Prop := w.heap[d]? = some (.cells (DgA seen kv) 61 (0, 0))
/-- With the bytes that are kept. -/
structure DgM (w : World) (d B : Nat) (seen : Int) (kv : Value) (zs : List Int) : Prop where
  block : DgB w d seen kv
  kept : ∃ g, Sl w 5 kv g (vals zs) ∧ ∀ k, g = some k → B ≤ k ∧ k ≠ d
  low : B ≤ d
theorem DgB.cells {w : World} {d : Nat} {seen : Int} {kv : Value} (h : DgB w d seen kv) : w.cell? ⟨d, 0, none⟩ = some (.int .i64 0) ∧ w.cell? ⟨d, 1, none⟩ = some (.int .i64 seen) ∧ w.cell? ⟨d, 2, none⟩ = some (.int .i64 0) ∧ w.cell? ⟨d, 3, none⟩ = some kv ∧ (∀ j, w.frozen? ⟨d, j, none⟩ = false) := by
  unfold DgB DgA at h
  refine ⟨?_, ?_, ?_, ?_, fun j => ?_⟩ <;> simp [World.cell?, World.frozen?, h]
theorem DgB.heads {w : World} {d : Nat} {seen : Int} {kv : Value} (h : DgB w d seen kv) : w.cell? ⟨d, 7, none⟩ = some (.int .i64 0) ∧ w.cell? ⟨d, 8, none⟩ = some (.int .i64 0) ∧ w.cell? ⟨d, 9, none⟩ = some (.int .i64 0) ∧ w.cell? ⟨d, 10, none⟩ = some (.int .i64 0) ∧ w.cell? ⟨d, 11, none⟩ = some (.bool false) ∧ w.cell? ⟨d, 16, none⟩ = some (.bool false) ∧ w.cell? ⟨d, 21, none⟩ = some (.int .i64 0) := by
  unfold DgB DgA at h
  refine ⟨?_, ?_, ?_, ?_, ?_, ?_, ?_⟩ <;> simp [World.cell?, h]
theorem DgM.same {w w' : World} {d B : Nat} {seen : Int} {kv : Value} {zs : List Int} (h : DgM w d B seen kv zs) (hs : ∀ k, k < w.heap.size → w'.heap[k]? = w.heap[k]?) : DgM w' d B seen kv zs := by
  obtain ⟨h1, ⟨g, h2, h3⟩, h4⟩ := h
  exact ⟨(hs d (lt_of_block h1)).trans h1, ⟨g, h2.same fun k hk => hs k (h2.lt hk), h3⟩, h4⟩
theorem DgM.seen {w : World} {d B : Nat} {seen : Int} {kv : Value} {zs : List Int} (h : DgM w d B seen kv zs) (s : Int) : DgM (w.setCell ⟨d, 1, none⟩ (.int .i64 s)) d B s kv zs := by
  obtain ⟨h1, ⟨g, h2, h3⟩, h4⟩ := h
  refine ⟨?_, ⟨g, h2.same fun k hk => Below.heap_setCell _ _ _ _ (h3 k hk).2, h3⟩, h4⟩
  unfold DgB at h1 ⊢
  rw [heap_setCell_same w d 1 _ _ _ h1]; rfl
set_option maxHeartbeats 800000 in
theorem gnew_any (w : World) : Calls Tryz.prog 9 #[] w fun e w' => ∃ d, e = .returned (.pointer (some ⟨d, 0, none⟩)) ∧ DgM w' d w.heap.size 0 (.slice none 0 0) [] ∧ Below w.heap.size w w' := by
  have HF : Hid (∀ o, Below w.heap.size w (w.alloc o) ∧ (w.alloc o).heap[w.heap.size]? = some o) := fun o => ⟨(Below.refl _ _).alloc (Nat.le_refl _) _, heap_alloc_newG w o⟩
  go_enter Tryz.func9, Tryz.ntmps9
  go_wp2
  go_ret
  exact ⟨w.heap.size, rfl, ⟨(HF.out _).2, ⟨none, Sl.nil _ _, fun k hk => by cases hk⟩, Nat.le_refl _⟩, (HF.out _).1⟩
set_option maxHeartbeats 1600000 in
theorem gask_any {w : World} {d B : Nat} {seen : Int} {kv : Value} {zs : List Int} {E2 : Int} (h : DgM w d B seen kv zs) (hb : Bytes zs) (hl : zs.length ≤ 100) (ho : gAll zs = .error E2) (he2 : E2 = 2 ∨ E2 = 3) (E : Int) (hE : (if E2 = 2 then 0 else E2) = E) :
    Calls Tryz.prog 23 #[.pointer (some ⟨d, 0, none⟩)] w fun e w' => e = .returned (.int .i64 E) ∧ Below w.heap.size w w' := by
  obtain ⟨h1, ⟨g, h2, h3⟩, h4⟩ := h
  obtain ⟨a, c, hv, hle, hcm, hc0⟩ := h2.shape
  rw [vals_len] at hv
  have CR := sRead_any a zs.length c zs w rfl hc0 (by omega) hb (h2.row hv)
  obtain ⟨k0, k1, k2, k3, kf⟩ := h1.cells
  rw [hv] at k3
  have HO : Hid (gAll zs = .error E2) := ho
  generalize zs.length = L at *
  clear h1 h2 h3 h4 hv hle hcm hc0 hb ho
  rcases he2 with rfl | rfl
  · obtain rfl : E = 0 := by rw [← hE]; rfl
    clear hE
    go_enter Tryz.func23, Tryz.ntmps23
    go_wp2_with fail
    refine CR.mono ?_
    clear CR
    rintro e w1 (⟨s, r, tv, hg, _⟩ | ⟨E', hg, _, rfl, hb1⟩)
    · rw [HO.out] at hg; cases hg
    · rw [HO.out] at hg
      obtain rfl : E' = 2 := by injection hg with hg; exact hg.symm
      have HB : Hid (∀ o, Below w.heap.size w (w1.alloc o)) := fun o => hb1.alloc hb1.size _
      clear hb1 hg
      unfold ScV
      go_wp2
      go_ret
      exact ⟨rfl, HB.out _⟩
  · obtain rfl : E = 3 := by rw [← hE]; rfl
    clear hE
    go_enter Tryz.func23, Tryz.ntmps23
    go_wp2_with fail
    refine CR.mono ?_
    clear CR
    rintro e w1 (⟨s, r, tv, hg, _⟩ | ⟨E', hg, _, rfl, hb1⟩)
    · rw [HO.out] at hg; cases hg
    · rw [HO.out] at hg
      obtain rfl : E' = 3 := by injection hg with hg; exact hg.symm
      have HB : Hid (∀ o, Below w.heap.size w (w1.alloc o)) := fun o => hb1.alloc hb1.size _
      clear hb1 hg
      unfold ScV
      go_wp2
      go_ret
      exact ⟨rfl, HB.out _⟩
theorem DgM.keep {w w7 : World} {d B : Nat} {seen : Int} {kv : Value} {g : Option Nat} {o : Obj} {ys : List Int} {v7 : Value} {g7 : Option Nat} (h1 : DgB w d seen kv) (h3 : ∀ k, g = some k → B ≤ k ∧ k ≠ d) (h4 : B ≤ d) (hs7 : Sl w7 5 v7 g7 (vals ys)) (hg7 : g7 = g ∨ ∃ k, g7 = some k ∧ (w.alloc o).heap.size ≤ k) (hgr7 : (w.alloc o).grownBy w7 g) :
    DgM (w7.setCell ⟨d, 3, none⟩ v7) d B seen v7 ys ∧ Below B w (w7.setCell ⟨d, 3, none⟩ v7) := by
  have hdl : d < w.heap.size := lt_of_block h1
  have hd7 : DgB w7 d seen kv := (hgr7.block d (by rw [World.size_alloc]; omega) (fun e => (h3 d e.symm).2 rfl)).trans ((Below.heap_alloc _ _ _ hdl).trans h1)
  have hg' : ∀ k, g7 = some k → B ≤ k ∧ k ≠ d := by
    intro k hk
    rcases hg7 with e | ⟨j, e, hj⟩
    · exact h3 k (e.symm.trans hk)
    · rw [e] at hk; cases hk
      rw [World.size_alloc] at hj
      exact ⟨by omega, by omega⟩
  refine ⟨⟨?_, ⟨g7, hs7.same fun k hk => Below.heap_setCell _ _ _ _ (hg' k hk).2, hg'⟩, h4⟩, ?_⟩
  · unfold DgB at hd7 ⊢
    rw [heap_setCell_same w7 d 3 _ _ _ hd7]; rfl
  · have b1 : Below B w (w.alloc o) := (Below.refl _ _).alloc (by omega) _
    have b2 : Below B (w.alloc o) w7 := ⟨hgr7.os, hgr7.tape, hgr7.output, hgr7.size, fun k hk => hgr7.block k (by rw [World.size_alloc]; omega) (fun e => by have := (h3 k e.symm).1; omega)⟩
    exact (b1.trans b2).setCell (p := ⟨d, 3, none⟩) h4 v7
theorem row_oneG (w : World) (z : Int) : Row (w.alloc (.cells #[.int .u8 z] 5)) (some ⟨w.heap.size, 0, none⟩) [z] := by
  refine .inr ⟨w.heap.size, 0, rfl, fun i hi => ?_⟩
  obtain rfl : i = 0 := by simp at hi; omega
  rw [World.cell?_alloc_mark]; rfl
set_option maxHeartbeats 1600000 in
theorem gopen_any {w : World} {d B : Nat} {seen : Int} {kv : Value} {zs : List Int} {E2 : Int} (v : Int) (hv33 : ¬ v = 33) (h : DgM w d B seen kv zs) (hb : Bytes (zs ++ [v])) (hl : (zs ++ [v]).length ≤ 100) (ho : gAll (zs ++ [v]) = .error E2) (he2 : E2 = 2 ∨ E2 = 3) (E : Int) (hE : (if E2 = 2 then 0 else E2) = E) :
    Calls Tryz.prog 15 #[.pointer (some ⟨d, 0, none⟩), .int .u8 v] w fun e w' => e = .returned (.int .i64 E) ∧ Below B w w' ∧ ∃ kv', DgM w' d B seen kv' (zs ++ [v]) := by
  obtain ⟨h1, ⟨g, h2, h3⟩, h4⟩ := h
  obtain ⟨a, c, hvv, hle, hcm, hc0⟩ := h2.shape
  rw [vals_len] at hvv
  obtain ⟨k0, k1, k2, k3, kf⟩ := h1.cells
  have hdl : d < w.heap.size := lt_of_block h1
  have k3a : (w.alloc (.cells #[.int .u8 v] 5)).cell? ⟨d, 3, none⟩ = some kv := (World.cell?_of_block (a := ⟨d, 3, none⟩) (Below.heap_alloc _ _ _ hdl)).trans k3
  subst hvv
  have HS : Hid (Sl (w.alloc (.cells #[.int .u8 v] 5)) 5 (.slice a zs.length c) g (vals zs) ∧ zs.length ≤ 100) := ⟨h2.same fun k hk => Below.heap_alloc _ _ _ (h2.lt hk), by rw [List.length_append] at hl; omega⟩
  have HK : Hid (∀ w7 v7 g7, Sl w7 5 v7 g7 (vals (zs ++ [v])) → (g7 = g ∨ ∃ k, g7 = some k ∧ (w.alloc (.cells #[.int .u8 v] 5)).heap.size ≤ k) → (w.alloc (.cells #[.int .u8 v] 5)).grownBy w7 g → DgM (w7.setCell ⟨d, 3, none⟩ v7) d B seen v7 (zs ++ [v]) ∧ Below B w (w7.setCell ⟨d, 3, none⟩ v7) ∧ (w7.cell? ⟨d, 3, none⟩).isSome = true ∧ w7.frozen? ⟨d, 3, none⟩ = false) := fun w7 v7 g7 q1 q2 q3 => by
    have hd7 : DgB w7 d seen (.slice a zs.length c) := (q3.block d (by rw [World.size_alloc]; omega) (fun e => (h3 d e.symm).2 rfl)).trans ((Below.heap_alloc _ _ _ hdl).trans h1)
    obtain ⟨-, -, -, y3, yf⟩ := hd7.cells
    exact ⟨(DgM.keep h1 h3 h4 q1 q2 q3).1, (DgM.keep h1 h3 h4 q1 q2 q3).2, by rw [y3]; rfl, yf 3⟩
  have HA : Hid (∀ w8 v7, DgM w8 d B seen v7 (zs ++ [v]) → Calls Tryz.prog 23 #[.pointer (some ⟨d, 0, none⟩)] w8 fun e w' => e = .returned (.int .i64 E) ∧ Below w8.heap.size w8 w') := fun w8 v7 q => gask_any q hb hl ho he2 E hE
  have HBd : Hid (B ≤ d ∧ d < w.heap.size) := ⟨h4, hdl⟩
  clear h1 h2 h3 h4 hle hcm hb hl ho he2 hE hdl
  have HR := row_oneG w v
  generalize hL : zs.length = L at *
  go_enter Tryz.func15, Tryz.ntmps15
  go_wp2_with (at_builtin; refine wpList_more rfl _ _ rfl (.slice a L c) g zs rfl HS.out.1 (some ⟨w.heap.size, 0, none⟩) 1 1 [v] rfl (by intro h; cases h) rfl HR (by have := HS.out.2; omega) ?_; intro v7 w7 g7 hs7 hg7 hgr7; obtain ⟨q1, q2, q3, q4⟩ := HK.out w7 v7 g7 hs7 hg7 hgr7; obtain ⟨x, hx⟩ := Option.isSome_iff_exists.1 q3; have C := HA.out _ _ q1; have HB1 : Hid (DgM (w7.setCell ⟨d, 3, none⟩ v7) d B seen v7 (zs ++ [v]) ∧ Below B w (w7.setCell ⟨d, 3, none⟩ v7) ∧ B ≤ (w7.setCell ⟨d, 3, none⟩ v7).heap.size) := ⟨q1, q2, (by have := HBd.out; have := q2.size; omega)⟩; obtain ⟨a7, c7, hv7, -⟩ := hs7.shape; generalize (vals (zs ++ [v])).length = z7 at hv7; subst hv7; clear hs7 hg7 hgr7 q1 q2 q3 HK HA HS HR)
  refine C.mono ?_
  clear C
  rintro e w9 ⟨rfl, hb9⟩
  have HP : Hid (Below B w w9 ∧ ∃ kv', DgM w9 d B seen kv' (zs ++ [v])) := ⟨HB1.out.2.1.trans (hb9.mono HB1.out.2.2), _, HB1.out.1.same fun k hk => hb9.block k hk⟩
  clear hb9 HB1
  go_wp2
  go_ret
  exact ⟨rfl, HP.out⟩
end Go.Proofs.YtfoacohonpiooaaGreatDoor
