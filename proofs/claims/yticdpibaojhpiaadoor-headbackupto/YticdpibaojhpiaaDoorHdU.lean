/- A table of colours is written: the program's WriteTints and the reference's. -/
import Derived.Test.YticdpibaojhpiaaDoorHdT
namespace Go.Proofs.YticdpibaojhpiaaDoor
open Go.RowKit
theorem three_row {w : World} {x y z : Int} (W : World) (hW : W = (w.alloc (.cells #[.int .u8 x, .int .u8 y, .int .u8 z] 59)).alloc (.cells #[.int .u8 x, .int .u8 y, .int .u8 z] 5)) : Row W (some ⟨w.heap.size + 1, 0, none⟩) [x, y, z] ∧ Below w.heap.size w W := by
  subst hW
  have hs : (w.alloc (.cells #[.int .u8 x, .int .u8 y, .int .u8 z] 59)).heap.size = w.heap.size + 1 := by simp
  refine ⟨?_, ((Below.refl _ _).alloc (Nat.le_refl _) _).alloc (by simp) _⟩
  have := row_five (w.alloc (.cells #[.int .u8 x, .int .u8 y, .int .u8 z] 59)) _ [x, y, z] rfl
  rw [hs] at this
  exact this
theorem take_3 {b : List Int} {m j : Nat} (hb : b.length = 3 * m) (hj : j < m) : b.take (3 * (j + 1)) = b.take (3 * j) ++ [b[3 * j]?.getD 0, b[3 * j + 1]?.getD 0, b[3 * j + 2]?.getD 0] := by
  rw [show 3 * (j + 1) = 3 * j + 1 + 1 + 1 by omega, take_snoc b (3 * j + 1 + 1) (by omega), take_snoc b (3 * j + 1) (by omega), take_snoc b (3 * j) (by omega)]
  simp
theorem row_3 {w : World} {a : Option Addr} {b : List Int} (h : Row w a b) {m j : Nat} (hb : b.length = 3 * m) (hj : j < m) : ∃ bb off, a = some ⟨bb, off, none⟩ ∧ w.cell? ⟨bb, off + j * 3, none⟩ = some (.int .u8 (b[3 * j]?.getD 0)) ∧ w.cell? ⟨bb, off + j * 3 + 1, none⟩ = some (.int .u8 (b[3 * j + 1]?.getD 0)) ∧ w.cell? ⟨bb, off + j * 3 + 2, none⟩ = some (.int .u8 (b[3 * j + 2]?.getD 0)) := by
  rcases h with e | ⟨bb, off, e, hc⟩
  · rw [e] at hb; simp at hb; omega
  · refine ⟨bb, off, e, ?_, ?_, ?_⟩
    · rw [show off + j * 3 = off + 3 * j by omega]; exact hc _ (by omega)
    · rw [show off + j * 3 + 1 = off + (3 * j + 1) by omega]; exact hc _ (by omega)
    · rw [show off + j * 3 + 2 = off + (3 * j + 2) by omega]; exact hc _ (by omega)
set_option maxHeartbeats 1600000 in
theorem wtints_any (a : Option Addr) (n cap : Nat) (b : List Int) (w : World) (hl : b.length = 3 * n) (hn : 3 * n ≤ 140737488351232) (hb : Bytes b) (hr : Row w a b) :
    Calls Tryd.prog 22 #[.slice a n cap] w fun e w' => NewS w b e w' := by
  obtain ⟨B, hB⟩ : ∃ B, B = w.heap.size := ⟨_, rfl⟩
  have HB : Hid (B = w.heap.size) := hB
  have HX : Hid (b.length = 3 * n ∧ Bytes b ∧ Row w a b) := ⟨hl, hb, hr⟩
  obtain ⟨i0, hi, hz0, hz1, hz2⟩ := info_parts Tryd.info5
  obtain ⟨N3, hN3⟩ : ∃ N3, N3 = 3 * n := ⟨_, rfl⟩
  have hN3i : 3 * (n : Int) = (N3 : Int) := by omega
  have HN3 : Hid (N3 = 3 * n) := hN3
  have hN3b : N3 ≤ 140737488351232 := by omega
  clear hl hb hr hB hN3
  go_enter Tryd.func22, Tryd.ntmps22
  go_wp2_with (at_make; refine wpList_make_own _ rfl _ _ 27 rfl B 5 i0 (.int .u8 0) 1 Tryd.underlying27 hi hz0 hz1 .i64 .i64 _ N3 rfl rfl rfl ?b2 ?b3 ?b4 ?_)
  case b2 => rw [hz2]; omega
  case b3 => unfold maxLen; omega
  case b4 => rw [HB.out]; exact Nat.le_refl _
  intro w2 hown hgrow
  have hbel : Below B w w2 := (Below.refl _ _).grown hgrow (by rw [HB.out]; exact Nat.le_refl _) (fun k hk => by cases hk)
  obtain ⟨g0, hs0, hg0⟩ := Sl.of_owns hown
  have HS0 : Hid (Sl w2 5 (.slice (some ⟨w.heap.size, 0, none⟩) 0 N3) g0 (vals (b.take (3 * 0))) ∧ (∀ q, g0 = some q → B ≤ q) ∧ Below B w w2) := ⟨hs0, hg0, hbel⟩
  clear hown hgrow hbel hs0 hg0
  go_wp2
  go_loopw [3, 5, 12] (fun o _ c wr => ∃ (j : Nat) (g : Option Nat), j ≤ n ∧ c = .int .i64 j ∧ Sl wr 5 o g (vals (b.take (3 * j))) ∧ (∀ q, g = some q → B ≤ q) ∧ Below B w wr) (fun _ _ c _ => n - (intOf c).toNat)
  case atStart => exact ⟨0, g0, Nat.zero_le _, rfl, HS0.out⟩
  case round =>
    clear HS0
    obtain ⟨j, g, hj, rfl, hsl, hg, hbel⟩ := hrel
    have hL : (b.take (3 * j)).length = 3 * j := by rw [List.length_take, HX.out.1]; omega
    obtain ⟨ao, co, hv, hl1, hl2, hl3⟩ := hsl.shape
    rw [vals_len, hL] at hv hl1
    have HL : Hid ((b.take (3 * j)).length = 3 * j) := hL
    clear hL
    by_cases hlt : j < n
    · obtain ⟨bb, off, rfl, hc0, hc1, hc2⟩ := row_3 (HX.out.2.2.old (by rw [← HB.out]; exact hbel)) HX.out.1 hlt
      have HU : Hid (b.take (3 * (j + 1)) = b.take (3 * j) ++ [b[3 * j]?.getD 0, b[3 * j + 1]?.getD 0, b[3 * j + 2]?.getD 0]) := take_3 HX.out.1 hlt
      have HSl : Hid (Sl wr 5 (.slice ao (3 * j) co) g (vals (b.take (3 * j))) ∧ (∀ q, g = some q → B ≤ q) ∧ Below B w wr) := ⟨hv ▸ hsl, hg, hbel⟩
      clear hsl hg hbel hl2 hl3
      subst hv
      generalize b[3 * j]?.getD 0 = x at *
      generalize b[3 * j + 1]?.getD 0 = y at *
      generalize b[3 * j + 2]?.getD 0 = z at *
      obtain ⟨W2, hW2⟩ : ∃ W2, W2 = (wr.alloc (.cells #[.int .u8 x, .int .u8 y, .int .u8 z] 59)).alloc (.cells #[.int .u8 x, .int .u8 y, .int .u8 z] 5) := ⟨_, rfl⟩
      have h3 := three_row W2 hW2
      have HR3 : Hid (Row W2 (some ⟨wr.heap.size + 1, 0, none⟩) [x, y, z] ∧ Below wr.heap.size wr W2 ∧ Sl W2 5 (.slice ao (3 * j) co) g (vals (b.take (3 * j)))) := ⟨h3.1, h3.2, HSl.out.1.same fun q hq => h3.2.block q (HSl.out.1.lt hq)⟩
      rw [hW2] at HR3
      clear h3 hW2
      go_wp2_with (at_builtin; refine wpList_more rfl _ _ rfl (.slice ao (3 * j) co) g (b.take (3 * j)) rfl HR3.out.2.2 (some ⟨wr.heap.size + 1, 0, none⟩) 3 3 [x, y, z] rfl (by intro h; cases h) rfl HR3.out.1 (by rw [HL.out]; omega) ?_)
      intro v7 w7 g7 hs7 hg7 hgr7
      have HF : Hid _ := more_step HB.out HSl.out.2.2 HR3.out.2.1 HSl.out.2.1 hs7 (by simpa using hg7) hgr7 HU.out
      clear hs7 hg7 hgr7 HR3 HSl
      go_wp2
      go_roundw
      case rel => exact ⟨j + 1, g7, by omega, by go_num, HF.out⟩
      case measure => simp [intOf]; omega
    · obtain rfl : j = n := by omega
      subst hv
      have HSl : Hid (NewS w b (.returned (.slice ao (3 * j) co)) wr) := by
        have e : b.take (3 * j) = b := List.take_of_length_le (by rw [HX.out.1]; exact Nat.le_refl _)
        rw [e] at hsl
        rw [HB.out] at hg hbel
        refine ⟨ao, co, g, by rw [HX.out.1], ?_, hg, hbel⟩
        rw [HX.out.1]; exact hsl
      clear hsl hg hbel
      go_wp2
      go_ret
      exact HSl.out
set_option maxHeartbeats 1600000 in
theorem rwtints_any (a : Option Addr) (n cap : Nat) (b : List Int) (w : World) (hl : b.length = 3 * n) (hn : 3 * n ≤ 140737488351232) (hb : Bytes b) (hr : Row w a b) :
    Calls Tryd.prog 23 #[.slice a n cap] w fun e w' => NewS w b e w' := by
  obtain ⟨B, hB⟩ : ∃ B, B = w.heap.size := ⟨_, rfl⟩
  have HB : Hid (B = w.heap.size) := hB
  have HX : Hid (b.length = 3 * n ∧ Bytes b ∧ Row w a b) := ⟨hl, hb, hr⟩
  clear hl hb hr hB
  go_enter Tryd.func23, Tryd.ntmps23
  go_wp2
  go_loopw [3, 5, 8] (fun o _ c wr => ∃ (j : Nat) (g : Option Nat), j ≤ n ∧ c = .int .i64 j ∧ Sl wr 5 o g (vals (b.take (3 * j))) ∧ (∀ q, g = some q → B ≤ q) ∧ Below B w wr) (fun _ _ c _ => n - (intOf c).toNat)
  case atStart => exact ⟨0, none, Nat.zero_le _, rfl, Sl.nil _ _, (by intro q hq; cases hq), Below.refl _ _⟩
  case round =>
    obtain ⟨j, g, hj, rfl, hsl, hg, hbel⟩ := hrel
    have hL : (b.take (3 * j)).length = 3 * j := by rw [List.length_take, HX.out.1]; omega
    obtain ⟨ao, co, hv, hl1, hl2, hl3⟩ := hsl.shape
    rw [vals_len, hL] at hv hl1
    have HL : Hid ((b.take (3 * j)).length = 3 * j) := hL
    clear hL
    by_cases hlt : j < n
    · obtain ⟨bb, off, rfl, hc0, hc1, hc2⟩ := row_3 (HX.out.2.2.old (by rw [← HB.out]; exact hbel)) HX.out.1 hlt
      have HU : Hid (b.take (3 * (j + 1)) = b.take (3 * j) ++ [b[3 * j]?.getD 0, b[3 * j + 1]?.getD 0, b[3 * j + 2]?.getD 0]) := take_3 HX.out.1 hlt
      have HSl : Hid (Sl wr 5 (.slice ao (3 * j) co) g (vals (b.take (3 * j))) ∧ (∀ q, g = some q → B ≤ q) ∧ Below B w wr) := ⟨hv ▸ hsl, hg, hbel⟩
      clear hsl hg hbel hl2 hl3
      subst hv
      generalize b[3 * j]?.getD 0 = x at *
      generalize b[3 * j + 1]?.getD 0 = y at *
      generalize b[3 * j + 2]?.getD 0 = z at *
      obtain ⟨W2, hW2⟩ : ∃ W2, W2 = (wr.alloc (.cells #[.int .u8 x, .int .u8 y, .int .u8 z] 59)).alloc (.cells #[.int .u8 x, .int .u8 y, .int .u8 z] 5) := ⟨_, rfl⟩
      have h3 := three_row W2 hW2
      have HR3 : Hid (Row W2 (some ⟨wr.heap.size + 1, 0, none⟩) [x, y, z] ∧ Below wr.heap.size wr W2 ∧ Sl W2 5 (.slice ao (3 * j) co) g (vals (b.take (3 * j)))) := ⟨h3.1, h3.2, HSl.out.1.same fun q hq => h3.2.block q (HSl.out.1.lt hq)⟩
      rw [hW2] at HR3
      clear h3 hW2
      go_wp2_with (at_builtin; refine wpList_more rfl _ _ rfl (.slice ao (3 * j) co) g (b.take (3 * j)) rfl HR3.out.2.2 (some ⟨wr.heap.size + 1, 0, none⟩) 3 3 [x, y, z] rfl (by intro h; cases h) rfl HR3.out.1 (by rw [HL.out]; omega) ?_)
      intro v7 w7 g7 hs7 hg7 hgr7
      have HF : Hid _ := more_step HB.out HSl.out.2.2 HR3.out.2.1 HSl.out.2.1 hs7 (by simpa using hg7) hgr7 HU.out
      clear hs7 hg7 hgr7 HR3 HSl
      go_wp2
      go_roundw
      case rel => exact ⟨j + 1, g7, by omega, by go_num, HF.out⟩
      case measure => simp [intOf]; omega
    · obtain rfl : j = n := by omega
      subst hv
      have HSl : Hid (NewS w b (.returned (.slice ao (3 * j) co)) wr) := by
        have e : b.take (3 * j) = b := List.take_of_length_le (by rw [HX.out.1]; exact Nat.le_refl _)
        rw [e] at hsl
        rw [HB.out] at hg hbel
        refine ⟨ao, co, g, by rw [HX.out.1], ?_, hg, hbel⟩
        rw [HX.out.1]; exact hsl
      clear hsl hg hbel
      go_wp2
      go_ret
      exact HSl.out
end Go.Proofs.YticdpibaojhpiaaDoor
