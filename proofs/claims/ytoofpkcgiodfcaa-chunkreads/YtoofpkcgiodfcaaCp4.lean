/- The calls that the document fixes. -/
import Derived.Test.YtoofpkcgiodfcaaCp3
namespace Go.Proofs.Ytoofpkcgiodfcaa
open Go.RowKit
theorem chainB {B : Nat} {a b c : World} (h : Below B a b) (k : Below b.heap.size b c) (hB : B ≤ b.heap.size) : Below B a c :=
  h.trans ⟨k.os, k.tape, k.output, k.size, fun j hj => k.block j (by omega)⟩
theorem Row.ofBlk {w w' : World} {a : Option Addr} {zs : List Int} (h : Row w a zs) (hb : Below w.heap.size w w') : Row w' a zs := h.old hb
set_option maxHeartbeats 6400000 in
set_option maxRecDepth 20000 in
theorem kfixed_any (w : World) : Calls Try.prog 8 #[] w fun e w' => e = .returned (.bool true) ∧ Below w.heap.size w w' := by
  have C1 := pack_any none 0 0 (fun _ => ⟨sIEND, none, 0, []⟩) w (by omega) (by show 0 ≤ _; omega) ⟨Nat.le_refl _, by unfold maxLen; omega, fun h => absurd h (by omega)⟩
  have HC2 : Hid (∀ w : World, ∀ s, s = w.heap.size → Calls Try.prog 15 #[.slice (some ⟨s, 0, none⟩) 1 1] (w.alloc (.cells #[.string ⟨#[73, 69, 78, 68]⟩, .slice none 0 0] 40)) fun e w' => PkPost (w.alloc (.cells #[.string ⟨#[73, 69, 78, 68]⟩, .slice none 0 0] 40)) fIEND 1 e w') := by
    intro w s hs
    exact pack_any _ 1 1 fIEND _ (by omega) (by show 0 + 0 ≤ _; omega) (ckArg_new w s hs sIEND fIEND rfl)
  have HC3 : Hid (∀ w : World, ∀ s, s = w.heap.size → Calls Try.prog 15 #[.slice (some ⟨s, 0, none⟩) 1 1] (w.alloc (.cells #[.string ⟨#[73, 69, 78]⟩, .slice none 0 0] 40)) fun e w' => PkPost (w.alloc (.cells #[.string ⟨#[73, 69, 78]⟩, .slice none 0 0] 40)) fIEN 1 e w') := by
    intro w s hs
    exact pack_any _ 1 1 fIEN _ (by omega) (by show 0 + 0 ≤ _; omega) (ckArg_new w s hs sIEN fIEN rfl)
  go_enter Try.func8, Try.ntmps8
  go_wp2_with fail
  refine C1.mono ?_
  clear C1
  rintro e w1 ⟨hb1, hy1, _⟩
  obtain ⟨a1, c1, rfl, hl1, hm1, hn1, hr1, hg1, _⟩ := hy1 (fun i hi => by omega)
  have H1 : Hid (Below w.heap.size w w1 ∧ Row w1 a1 first8) := ⟨hb1, hr1⟩
  rw [show (packB (fun _ => (⟨sIEND, none, 0, []⟩ : Ck)) 0).length = 8 from rfl]
  clear hb1 hy1 hl1 hm1 hn1 hr1 hg1
  have C2 := HC2.out w1 w1.heap.size rfl
  go_wp2_with fail
  refine C2.mono ?_
  clear C2 HC2
  rintro e w2 ⟨hb2, hy2, _⟩
  obtain ⟨a2, c2, rfl, hl2, hm2, hn2, hr2, hg2, _⟩ := hy2 okK_iend
  rw [packB_iend] at hl2 hr2
  rw [packB_iend, show (first8 ++ iend12).length = 20 from rfl]
  have hb12 : Below w1.heap.size w1 w2 := ((Below.refl _ _).alloc (Nat.le_refl _) _).trans ⟨hb2.os, hb2.tape, hb2.output, hb2.size, fun j hj => hb2.block j (by simp; omega)⟩
  obtain ⟨x2, rfl⟩ : ∃ x, a2 = some x := by
    cases a2 with
    | none => have := hn2 rfl; rw [this] at hl2; simp [first8, iend12] at hl2
    | some x => exact ⟨x, rfl⟩
  have H2 : Hid (Below w1.heap.size w1 w2 ∧ Row w2 (some x2) (first8 ++ iend12) ∧ 20 ≤ c2 ∧ c2 ≤ 9223372036854775807 ∧ x2.block < w2.heap.size) := ⟨hb12, hr2, hl2, hm2, hr2.lt x2 rfl (by decide)⟩
  clear hb2 hy2 hn2 hr2 hg2 hb12 hl2
  have C3 := cnew_any w2
  go_wp2_with fail
  refine C3.mono ?_
  clear C3
  rintro e w3 ⟨rfl, hcr3, hb3⟩
  have hrow3 : Row w3 (some x2) (first8 ++ iend12) := H2.out.2.1.old hb3
  have C4 := push20 (some x2) c2 H2.out.2.2.1 H2.out.2.2.2.1 (by intro h; cases h) hrow3 (by intro x hx; cases hx; have := H2.out.2.2.2.2; omega) hcr3
  have HP2 : Hid (w2.heap.size < w3.heap.size) := hcr3.lt
  have H3 : Hid (Below w2.heap.size w2 w3 ∧ Row w3 (some x2) (first8 ++ iend12)) := ⟨hb3, hrow3⟩
  clear hcr3 hb3 hrow3
  go_wp2_with fail
  refine C4.mono ?_
  clear C4
  rintro e w4 ⟨b4, cl, rfl, hcl, hb4, ⟨y0, y3, y4⟩, hcr4, hf4⟩
  have H4 : Hid (Fr w3 w4 w2.heap.size none ∧ CRd w4 w2.heap.size (first8 ++ iend12) [⟨kIEND, 0, [], true⟩] 1 [] ∧ Row w4 (some x2) (first8 ++ iend12) ∧ b4 < w4.heap.size) := ⟨hf4, hcr4, H3.out.2.same fun x hx hz => hf4.block _ (H3.out.2.lt x hx hz) (by cases hx; have := H2.out.2.2.2.2; omega) (by simp), cell_lt y0⟩
  clear hcr4 hf4 hb4
  have C5 := HC3.out w4 w4.heap.size rfl
  go_wp2_with fail
  refine C5.mono ?_
  clear C5 HC3
  rintro e w5 ⟨hb5, _, hy5⟩
  rw [hy5 okK_ien]
  have hb45 : Below w4.heap.size w4 w5 := ((Below.refl _ _).alloc (Nat.le_refl _) _).trans ⟨hb5.os, hb5.tape, hb5.output, hb5.size, fun j hj => hb5.block j (by simp; omega)⟩
  have hbW : Below w.heap.size w w5 := by
    have e1 := H1.out.1
    have e2 := chainB e1 H2.out.1 e1.size
    have e3 := chainB e2 H3.out.1 e2.size
    have e4 : Below w.heap.size w w4 := e3.trans ⟨H4.out.1.os, H4.out.1.tape, H4.out.1.output, H4.out.1.size, fun j hj => H4.out.1.block j (by have := e3.size; omega) (by have := e2.size; omega) (by simp)⟩
    exact chainB e4 hb45 e4.size
  have hr5 : Row w5 (some x2) (first8 ++ iend12) := H4.out.2.2.1.old hb45
  have hr1 : Row w5 a1 first8 := by
    have e2 := H1.out.2.old H2.out.1
    have e3 := e2.old H3.out.1
    have e4 : Row w4 a1 first8 := e3.same fun x hx hz => H4.out.1.block _ (e3.lt x hx hz) (by have := e2.lt x hx hz; omega) (by simp)
    exact e4.old hb45
  have z0 : w5.cell? ⟨b4, 0, none⟩ = some (.string ⟨#[73, 69, 78, 68]⟩) := (World.cell?_of_block (a := ⟨b4, 0, none⟩) (hb45.block b4 H4.out.2.2.2)).trans y0
  have z3 : w5.cell? ⟨b4, 3, none⟩ = some (.bool true) := (World.cell?_of_block (a := ⟨b4, 3, none⟩) (hb45.block b4 H4.out.2.2.2)).trans y3
  have z4 : w5.cell? ⟨b4, 4, none⟩ = some (.bool true) := (World.cell?_of_block (a := ⟨b4, 4, none⟩) (hb45.block b4 H4.out.2.2.2)).trans y4
  have hcr5 : CRd w5 w2.heap.size (first8 ++ iend12) [⟨kIEND, 0, [], true⟩] 1 [] := H4.out.2.1.same (hb45.block _ H4.out.2.1.lt)
  obtain ⟨w6, hw6⟩ : ∃ w6, w5.alloc (.cells #[.int .u8 137, .int .u8 80, .int .u8 78, .int .u8 71, .int .u8 13, .int .u8 10, .int .u8 26, .int .u8 10] 5) = w6 := ⟨_, rfl⟩
  have b56 : Below w5.heap.size w5 w6 := by rw [← hw6]; exact (Below.refl _ _).alloc (Nat.le_refl _) _
  obtain ⟨w7, hw7⟩ : ∃ w7, w6.alloc (.cells #[.int .u8 0, .int .u8 0, .int .u8 0, .int .u8 0, .int .u8 73, .int .u8 69, .int .u8 78, .int .u8 68, .int .u8 174, .int .u8 66, .int .u8 96, .int .u8 130] 5) = w7 := ⟨_, rfl⟩
  have b67 : Below w6.heap.size w6 w7 := by rw [← hw7]; exact (Below.refl _ _).alloc (Nat.le_refl _) _
  have F1 := rfirst_any w5
  rw [hw6] at F1
  have S1 := same_any a1 (some ⟨w5.heap.size, 0, none⟩) 8 c1 8 first8 w6 rfl (hr1.old b56) (by rw [← hw6]; exact row_arr rfl first8 _ _ rfl)
  have hcut := ((hr5.old b56).old b67).cut 8 c2 (by decide) H2.out.2.2.1
  have hc8 : ¬ c2 = 8 := by have := H2.out; omega
  have h20 : 20 ≤ c2 := H2.out.2.2.1
  rw [if_neg hc8] at hcut
  have S2 := same_any (Option.map (fun x => x.add 8) (some x2)) (some ⟨w6.heap.size, 0, none⟩) 12 (c2 - 8) 12 iend12 w7 rfl (by rw [show (first8 ++ iend12).drop 8 = iend12 from rfl] at hcut; exact hcut) (by rw [← hw7]; exact row_arr rfl iend12 _ _ rfl)
  have hcr7 := (hcr5.same (b56.block _ hcr5.lt))
  have BW := between_any (hcr7.same (b67.block _ hcr7.lt))
  rw [show decide ((1 : Nat) = 1 ∧ ([] : List Int) = []) = true by simp] at BW
  have z0' : w7.cell? ⟨b4, 0, none⟩ = some (.string ⟨#[73, 69, 78, 68]⟩) := by
    rw [World.cell?_of_block (a := ⟨b4, 0, none⟩) (b67.block b4 (by have := cell_lt z0; have := b56.size; simp only at *; omega)), World.cell?_of_block (a := ⟨b4, 0, none⟩) (b56.block b4 (cell_lt z0))]; exact z0
  have z3' : w7.cell? ⟨b4, 3, none⟩ = some (.bool true) := by
    rw [World.cell?_of_block (a := ⟨b4, 3, none⟩) (b67.block b4 (by have := cell_lt z0; have := b56.size; simp only at *; omega)), World.cell?_of_block (a := ⟨b4, 3, none⟩) (b56.block b4 (cell_lt z0))]; exact z3
  have z4' : w7.cell? ⟨b4, 4, none⟩ = some (.bool true) := by
    rw [World.cell?_of_block (a := ⟨b4, 4, none⟩) (b67.block b4 (by have := cell_lt z0; have := b56.size; simp only at *; omega)), World.cell?_of_block (a := ⟨b4, 4, none⟩) (b56.block b4 (cell_lt z0))]; exact z4
  have HW : Hid (Below w.heap.size w w7) := chainB (chainB hbW b56 hbW.size) b67 (Nat.le_trans hbW.size b56.size)
  clear hb5 hy5 hb45 hbW hr5 hr1 z0 z3 z4 hcr5 b56 b67 hcut hcr7 y0 y3 y4
  go_wp2_with (first
    | (go_at_call 19; refine F1.mono ?_; rintro e wq ⟨rfl, rfl⟩)
    | (go_at_call 17; first
      | (refine S1.mono ?_; clear S1; rintro e wq ⟨rfl, hwq⟩; rw [hwq]; clear hwq)
      | (refine S2.mono ?_; rintro e wq ⟨rfl, hwq⟩; rw [hwq]; clear hwq))
    | (go_at_call 12; refine BW.mono ?_; rintro e wq ⟨rfl, hwq⟩; rw [hwq]; clear hwq))
  go_ret
  exact ⟨rfl, HW.out⟩
end Go.Proofs.Ytoofpkcgiodfcaa
