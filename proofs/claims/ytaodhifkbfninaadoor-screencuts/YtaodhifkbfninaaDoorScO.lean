/- A GIF's beginning: calls whose answers the document fixes; whether two screens are the same. -/
import Derived.Test.YtaodhifkbfninaaDoorScN
import Derived.Test.YtaodhifkbfninaaDoorSmC
namespace Go.Proofs.YtaodhifkbfninaaDoor
open Go.RowKit
theorem made_tints (m : Nat) : (madeCells #[Value.int .u8 0, Value.int .u8 0, Value.int .u8 0] (m * 3)).toList = vals (List.replicate (3 * m) 0) := by
  apply List.ext_getElem?
  intro i
  by_cases h : i < m * 3
  · have h' : i < 3 * m := by omega
    have hz : ∀ k : Nat, k < 3 → (#[Value.int .u8 0, Value.int .u8 0, Value.int .u8 0] : Array Value)[k]! = Value.int .u8 0 := by
      intro k hk
      match k, hk with
      | 0, _ => rfl
      | 1, _ => rfl
      | 2, _ => rfl
    have e : (madeCells #[Value.int .u8 0, Value.int .u8 0, Value.int .u8 0] (m * 3)).toList[i]? = some (Value.int .u8 0) := by
      simp only [madeCells, Array.toList_map, List.getElem?_map, Array.toList_range, List.getElem?_range h, Option.map_some]
      exact congrArg some (hz (i % 3) (Nat.mod_lt _ (by omega)))
    rw [e]
    simp [vals, h']
  · rw [List.getElem?_eq_none (by simp [madeCells]; omega), List.getElem?_eq_none (by simp [vals]; omega)]

set_option maxHeartbeats 3200000 in
theorem same17_any (W H : Int) (ta : Option Addr) (tn tc : Nat) (Lo : Bool) (C : Int) (La : Bool) (B : Int) (tb : Option Addr) (td : Nat) (T : List Int) (w : World) (hl : T.length = 3 * tn) (hn : tn ≤ 256) (r1 : Row w ta T) (r2 : Row w tb T) :
    Calls Tryd.prog 11 #[ScV W H (.slice ta tn tc) Lo C La B, ScV W H (.slice tb tn td) Lo C La B] w fun e w' => e = .returned (.bool true) ∧ Below w.heap.size w w' := by
  have HR : Hid (T.length = 3 * tn ∧ Row w ta T ∧ Row w tb T) := ⟨hl, r1, r2⟩
  obtain ⟨w1, hw1⟩ : ∃ w1, w1 = (w.alloc (.cells #[.int .i64 W, .int .i64 H, .slice ta tn tc, .bool Lo, .int .i64 C, .bool La, .int .i64 B] 26)).alloc (.cells #[.int .i64 W, .int .i64 H, .slice tb tn td, .bool Lo, .int .i64 C, .bool La, .int .i64 B] 26) := ⟨_, rfl⟩
  have HB : Hid (Below w.heap.size w w1 ∧ SC w1 w.heap.size W H (.slice ta tn tc) Lo C La B ∧ SC w1 (w.heap.size + 1) W H (.slice tb tn td) Lo C La B) := by
    refine ⟨by rw [hw1]; exact ((Below.refl _ w).alloc (Nat.le_refl _) _).alloc (by simp) _, ?_, ?_⟩
    · unfold SC; rw [hw1, Below.heap_alloc _ _ _ (by simp)]; exact World.alloc_heap_new w _
    · unfold SC; rw [hw1]
      have := World.alloc_heap_new (w.alloc (.cells #[.int .i64 W, .int .i64 H, .slice ta tn tc, .bool Lo, .int .i64 C, .bool La, .int .i64 B] 26)) (.cells #[.int .i64 W, .int .i64 H, .slice tb tn td, .bool Lo, .int .i64 C, .bool La, .int .i64 B] 26)
      rwa [World.size_alloc] at this
  clear hl r1 r2
  unfold ScV
  go_enter Tryd.func11, Tryd.ntmps11
  go_wp2
  rw [← hw1]
  clear hw1
  go_loopw [5, 58] (fun _ t wq => ∃ j : Nat, j ≤ tn ∧ t = .int .i64 j ∧ Hid (Below w.heap.size w wq ∧ SC wq w.heap.size W H (.slice ta tn tc) Lo C La B ∧ SC wq (w.heap.size + 1) W H (.slice tb tn td) Lo C La B)) (fun _ t _ => tn - (intOf t).toNat)
  case atStart => exact ⟨0, Nat.zero_le _, rfl, HB⟩
  case round =>
    obtain ⟨j, hj, rfl, HQ⟩ := hrel
    by_cases hlt : j < tn
    · obtain ⟨b1, o1, rfl, h1, h2, h3⟩ := row_3 (HR.out.2.1.old HQ.out.1) HR.out.1 hlt
      obtain ⟨b2, o2, rfl, k1, k2, k3⟩ := row_3 (HR.out.2.2.old HQ.out.1) HR.out.1 hlt
      obtain ⟨-, -, z2, -⟩ := HQ.out.2.1.cells
      obtain ⟨-, -, y2, -⟩ := HQ.out.2.2.cells
      generalize T[3 * j]?.getD 0 = x at *
      generalize T[3 * j + 1]?.getD 0 = y at *
      generalize T[3 * j + 2]?.getD 0 = z at *
      go_wp2
      go_quiet (fail)
      go_wp2
      go_roundw
      case rel => exact ⟨j + 1, by omega, by go_num, ⟨HQ.out.1.os, HQ.out.1.tape, HQ.out.1.output, HQ.out.1.size, HQ.out.1.block⟩, HQ.out.2.1, HQ.out.2.2⟩
      case measure => simp [intOf]; omega
    · go_wp2
      go_ret
      exact ⟨rfl, HQ.out.1⟩
def fxL : List Int := [71, 73, 70, 56, 57, 97, 1, 0, 2, 0, 240, 0, 0, 0, 0, 0, 0, 0, 0, 44, 0, 0, 0, 0, 1, 0, 2, 0, 0, 2]
theorem fx_w : wrL 1 2 [0, 0, 0, 0, 0, 0] false (-1) false 2 0 = fxL := by decide
theorem fx_a : gAll [71, 73, 70] = .error 2 := by rfl
theorem fx_b : gAll [71, 73, 70, 56, 55, 97] = .error 3 := by rfl
theorem bytes_lit (l : List Int) (h : (l.all fun z => decide (0 ≤ z) && decide (z < 256)) = true) : Bytes l := by
  intro z hz
  simp at h
  exact h z hz
set_option maxHeartbeats 3200000 in
set_option maxRecDepth 100000 in
theorem sfixed_any (w : World) (ht : TabD w) : Calls Tryd.prog 8 #[] w fun e w' => e = .returned (.bool true) ∧ Below w.heap.size w w' := by
  have HT : Hid (TabD w) := ht
  have kc := fun (w : World) (Cx : Array Value) (n c g : Nat) (hg : g = w.heap.size) => Go.Joins.run_convert_bytes_const_at (P := Tryd.prog) w 22 5 Cx n c g hg Tryd.underlying22 Tryd.underlying5
  obtain ⟨i0, hi, hz0, hz1, hz2⟩ := info_parts Tryd.infoTi
  obtain ⟨w0, hw0⟩ : ∃ w0, w0 = w.alloc (.cells #[.int .u8 71, .int .u8 73, .int .u8 70] 5 (3, 4)) := ⟨_, rfl⟩
  have HB0 : Hid (Below w.heap.size w w0 ∧ Row w0 (some ⟨w.heap.size, 0, none⟩) [71, 73, 70]) := ⟨by rw [hw0]; exact (Below.refl _ _).alloc (Nat.le_refl _) _, by rw [hw0]; exact row_fr [71, 73, 70] _ _ rfl⟩
  have C0 := sRead_any (some ⟨w.heap.size, 0, none⟩) 3 3 [71, 73, 70] w0 rfl (by intro h; cases h) (by omega) (bytes_lit _ (by decide)) HB0.out.2
  rw [hw0] at C0
  clear ht
  go_enter Tryd.func8, Tryd.ntmps8
  go_wp2_with fail
  refine C0.mono ?_
  clear C0
  rw [← hw0]
  clear hw0
  rintro e w1 (⟨s, r, tv, hg, -⟩ | ⟨E, hE, -, rfl, hb1⟩)
  · rw [fx_a] at hg; cases hg
  obtain rfl : E = 2 := by rw [fx_a] at hE; cases hE; rfl
  have HB1 : Hid (Below w.heap.size w w1) := HB0.out.1.trans (hb1.mono HB0.out.1.size)
  clear hE hb1 HB0
  unfold ScV
  obtain ⟨w2, hw2⟩ : ∃ w2, w2 = w1.alloc (.cells #[.int .i64 0, .int .i64 0, .slice none 0 0, .bool false, .int .i64 0, .bool false, .int .i64 0] 26) := ⟨_, rfl⟩
  obtain ⟨w3, hw3⟩ : ∃ w3, w3 = w2.alloc (.cells #[.int .u8 71, .int .u8 73, .int .u8 70, .int .u8 56, .int .u8 55, .int .u8 97] 5 (6, 7)) := ⟨_, rfl⟩
  have hs2 : w2.heap.size = w1.heap.size + 1 := by rw [hw2]; simp
  have HB3 : Hid (Below w.heap.size w w3 ∧ Row w3 (some ⟨w1.heap.size + 1, 0, none⟩) [71, 73, 70, 56, 55, 97]) := by
    have b2 : Below w1.heap.size w1 w2 := by rw [hw2]; exact (Below.refl _ _).alloc (Nat.le_refl _) _
    have b3 : Below w2.heap.size w2 w3 := by rw [hw3]; exact (Below.refl _ _).alloc (Nat.le_refl _) _
    have c2 := HB1.out.trans (b2.mono HB1.out.size)
    exact ⟨c2.trans (b3.mono c2.size), by rw [hw3, ← hs2]; exact row_fr [71, 73, 70, 56, 55, 97] _ _ rfl⟩
  have C3 := sRead_any (some ⟨w1.heap.size + 1, 0, none⟩) 6 6 [71, 73, 70, 56, 55, 97] w3 rfl (by intro h; cases h) (by omega) (bytes_lit _ (by decide)) HB3.out.2
  rw [hw3, hw2] at C3
  clear hs2
  go_wp2_with fail
  refine C3.mono ?_
  clear C3
  rw [← hw2, ← hw3]
  clear hw2 hw3
  rintro e w4 (⟨s, r, tv, hg, -⟩ | ⟨E, hE, -, rfl, hb4⟩)
  · rw [fx_b] at hg; cases hg
  obtain rfl : E = 3 := by rw [fx_b] at hE; cases hE; rfl
  have HB4 : Hid (Below w.heap.size w w4) := HB3.out.1.trans (hb4.mono HB3.out.1.size)
  clear hE hb4 HB3
  unfold ScV
  have HB5 : Hid (∀ w6, (w4.alloc (.cells #[.int .i64 0, .int .i64 0, .slice none 0 0, .bool false, .int .i64 0, .bool false, .int .i64 0] 26)).grownBy w6 none → Below w.heap.size w w6) := fun w6 hg => by
    have h5 := HB4.out.alloc HB4.out.size (.cells #[.int .i64 0, .int .i64 0, .slice none 0 0, .bool false, .int .i64 0, .bool false, .int .i64 0] 26)
    exact h5.grown hg h5.size (fun k hk => by cases hk)
  have HI0 : Hid (Tryd.prog.info? 53 = some i0 ∧ i0.zero = some (.agg #[.int .u8 0, .int .u8 0, .int .u8 0]) ∧ i0.size = 3 ∧ i0.bytes = 3) := ⟨hi, hz0, hz1, hz2⟩
  clear hi hz0 hz1 hz2
  go_wp2_with (at_make; refine wpList_make_full _ rfl _ _ 24 rfl (w4.heap.size + 1) 53 i0 (.agg #[.int .u8 0, .int .u8 0, .int .u8 0]) 3 Tryd.underlying24 HI0.out.1 HI0.out.2.1 HI0.out.2.2.1 .i64 .i64 _ _ 2 rfl rfl rfl rfl ?b2 ?b3 ?b4 ?_)
  case b2 => rw [HI0.out.2.2.2]; decide
  case b3 => decide
  case b4 => simp
  intro w6 hown hgrow
  have hown2 : w6.ownsRow (w4.heap.size + 1) 53 3 (.slice (some ⟨w4.heap.size + 1, 0, none⟩) 2 2) 2 (vals [0, 0, 0, 0, 0, 0]) := by
    have h6 := made_tints 2
    have h7 : (madeCells #[Value.int .u8 0, Value.int .u8 0, Value.int .u8 0] 6).toList = vals [0, 0, 0, 0, 0, 0] := h6
    rw [← h7]
    simpa using hown
  have HB6 : Hid (Below w.heap.size w w6 ∧ Row w6 (some ⟨w4.heap.size + 1, 0, none⟩) [0, 0, 0, 0, 0, 0]) := ⟨HB5.out w6 hgrow, own_rowT hown2⟩
  have C6 := write_yes 1 2 (some ⟨w4.heap.size + 1, 0, none⟩) 2 2 false (-1) false 2 [0, 0, 0, 0, 0, 0] 0 w6 (HT.out.old HB6.out.1) (by omega) rfl (by decide) rfl (Nat.le_refl _) HB6.out.2
  rw [fx_w] at C6
  unfold ScV at C6
  clear hown hown2 hgrow
  go_wp2_with fail
  refine C6.mono ?_
  clear C6
  rintro e w7 ⟨a7, c7, g7, rfl, hs7, -, hb7⟩
  have HR7 : Hid (Row w7 a7 fxL ∧ Below w.heap.size w w7) := ⟨hs7.row rfl, HB6.out.1.trans (hb7.mono HB6.out.1.size)⟩
  clear hs7 hb7
  rw [show fxL.length = 30 from rfl]
  go_wp2_with fail
  obtain ⟨w8, hw8⟩ : ∃ w8, w8 = w7.alloc (.cells (vals fxL).toArray 5) := ⟨_, rfl⟩
  have hr8 : Row w8 (some ⟨w7.heap.size, 0, none⟩) fxL := by rw [hw8]; exact row_fr fxL _ _ rfl
  have hb8 : Below w7.heap.size w7 w8 := by rw [hw8]; exact (Below.refl _ _).alloc (Nat.le_refl _) _
  have HB8 : Hid (Below w.heap.size w w8) := HR7.out.2.trans (hb8.mono HR7.out.2.size)
  have C8 := same_any a7 (some ⟨w7.heap.size, 0, none⟩) 30 c7 30 fxL w8 rfl (HR7.out.1.old hb8) hr8
  rw [hw8] at C8
  clear hr8 hb8
  refine C8.mono ?_
  clear C8
  rintro e w9 ⟨rfl, rfl⟩
  go_wp2
  go_ret
  refine ⟨rfl, ?_⟩
  have := HB8.out
  rw [hw8] at this
  exact this
end Go.Proofs.YtaodhifkbfninaaDoor
