/- Blocks: the document's example; a nil reader. -/
import Derived.Test.YtkfokfjmdkondaaBk6
import Derived.Test.YtkfokfjmdkondaaSmC
import Derived.Test.YtkfokfjmdkondaaArgB
namespace Go.Proofs.Ytkfokfjmdkondaa
open Go.RowKit
theorem row_new (w : World) (l : List Int) : Row (w.alloc (.cells (vals l).toArray 5)) (some ⟨w.heap.size, 0, none⟩) l := by
  refine .inr ⟨_, 0, rfl, fun i hi => ?_⟩
  have e := World.alloc_heap_new w (.cells (vals l).toArray 5)
  simp only [World.cell?, e, Nat.zero_add]
  rw [List.getElem?_toArray, vals_at l i hi]
  rfl
set_option maxHeartbeats 1600000 in
set_option maxRecDepth 100000 in
theorem bfixed_any (w : World) : Calls Try.prog 7 #[] w fun e w' => e = .returned (.bool true) ∧ Below w.heap.size w w' := by
  have hbp : bpk 2 [7, 8, 9] ++ [0] = [2, 7, 8, 1, 9, 0] := by decide
  have hbg : bgo bs0 [2, 7, 8, 1, 9, 0] = ([7, 8, 9], ⟨0, true, 6, []⟩) := by simp [bgo, bs0]
  obtain ⟨wa, hwa⟩ : ∃ wa, w.alloc (.cells #[.int .u8 7, .int .u8 8, .int .u8 9] 5) = wa := ⟨_, rfl⟩
  have hBa : Below w.heap.size w wa := by rw [← hwa]; exact (Below.refl _ w).alloc (Nat.le_refl _) _
  have hra : Row wa (some ⟨w.heap.size, 0, none⟩) [7, 8, 9] := by rw [← hwa]; exact row_new w [7, 8, 9]
  have C1 := bpack_any [7, 8, 9] (some ⟨w.heap.size, 0, none⟩) 3 3 2 wa (by decide) (by decide) rfl (by decide) (by decide) hra (by intro z hz; simp at hz; omega) (by decide)
  rw [hbp] at C1
  have HB : Hid (Below w.heap.size w wa) := hBa
  clear hBa hra hbp
  go_enter Try.func7, Try.ntmps7
  go_wp2_with fail
  refine C1.mono ?_
  rintro e w1 ⟨v, g, rfl, hs1, hg1, hb1⟩
  have HB1 : Hid (Below w.heap.size w w1) := HB.out.trans (hb1.mono HB.out.size)
  obtain ⟨a1, c1, hv, hl1, hl2, hl3⟩ := hs1.shape
  rw [vals_len] at hv hl1
  subst hv
  have HS1 : Hid (Sl w1 5 (.slice a1 6 c1) g (vals [2, 7, 8, 1, 9, 0]) ∧ (∀ k, g = some k → wa.heap.size ≤ k)) := ⟨hs1, hg1⟩
  clear hs1 hg1 hb1 HB C1 hwa
  simp only [List.length_cons, List.length_nil, Nat.zero_add, Nat.reduceAdd] at hl1
  go_wp2_with fail
  refine (bnew_any w1).mono ?_
  rintro e w2 ⟨rfl, hr2, hb2⟩
  have HB2 : Hid (Below w.heap.size w w2 ∧ w.heap.size ≤ w1.heap.size ∧ w1.heap.size < w2.heap.size) := ⟨HB1.out.trans (hb2.mono HB1.out.size), HB1.out.size, hr2.lt⟩
  have hs2 : Sl w2 5 (.slice a1 6 c1) g (vals [2, 7, 8, 1, 9, 0]) := HS1.out.1.same fun k hk => hb2.block k (HS1.out.1.lt hk)
  have hgr : ∀ k, g = some k → k < w1.heap.size := fun k hk => HS1.out.1.lt hk
  have hrow2 := hs2.row rfl
  have hcb : c1 ≤ 9223372036854775807 := hl2
  have C3 := bpush_any w1.heap.size none bs0 [2, 7, 8, 1, 9, 0] a1 6 c1 w2 hr2 rfl hl1 hcb hl3 hrow2 (by intro z hz; simp at hz; omega) (by decide) (by decide) (by decide)
  unfold BpPost at C3
  rw [hbg] at C3
  have HS2 : Hid (Sl w2 5 (.slice a1 6 c1) g (vals [2, 7, 8, 1, 9, 0]) ∧ (∀ k, g = some k → k < w1.heap.size)) := ⟨hs2, hgr⟩
  clear hs2 hgr hrow2 HS1 HB1 hb2 hr2 hl1 hl2 hbg
  go_wp2_with fail
  refine C3.mono ?_
  rintro e w3 ⟨tv, tg, g', rfl, hs3, hg3, hr3, _, hf3⟩
  have HB3 : Hid (Below w.heap.size w w3) := Fr.below HB2.out.1 hf3 HB2.out.2.1 (by intro q hq; cases hq) HB2.out.1.size
  obtain ⟨a3, c3, hv3, hl4, hl5, hl6⟩ := hs3.shape
  rw [vals_len] at hv3
  subst hv3
  have HR3 : Hid (Row w3 a3 [7, 8, 9]) := hs3.row rfl
  have HR1 : Hid (Row w3 a1 [2, 7, 8, 1, 9, 0]) := (HS2.out.1.same fun k hk => hf3.block k (HS2.out.1.lt hk) (by have := HS2.out.2 k hk; omega) (by simp)).row rfl
  have HBR : Hid (BR w3 w1.heap.size ⟨0, true, 6, []⟩ g') := hr3
  clear hs3 hg3 hr3 hf3 hl4 hl5 hl6 C3 HS2
  go_wp2_with fail
  have hn1 : Row (w3.alloc (.cells #[.int .u8 2, .int .u8 7, .int .u8 8, .int .u8 1, .int .u8 9, .int .u8 0] 5)) (some ⟨w3.heap.size, 0, none⟩) [2, 7, 8, 1, 9, 0] := row_new w3 [2, 7, 8, 1, 9, 0]
  have C4 := same_any a1 (some ⟨w3.heap.size, 0, none⟩) 6 c1 6 [2, 7, 8, 1, 9, 0] _ rfl (HR1.out.alloc _) hn1
  clear hn1
  refine C4.mono ?_
  rintro e w4 ⟨rfl, rfl⟩
  go_wp2_with fail
  have hn2 : Row ((w3.alloc (.cells #[.int .u8 2, .int .u8 7, .int .u8 8, .int .u8 1, .int .u8 9, .int .u8 0] 5)).alloc (.cells #[.int .u8 7, .int .u8 8, .int .u8 9] 5)) (some ⟨w3.heap.size + 1, 0, none⟩) [7, 8, 9] := by
    have := row_new (w3.alloc (.cells #[.int .u8 2, .int .u8 7, .int .u8 8, .int .u8 1, .int .u8 9, .int .u8 0] 5)) [7, 8, 9]
    rw [World.size_alloc] at this
    exact this
  have C5 := same_any a3 (some ⟨w3.heap.size + 1, 0, none⟩) 3 c3 3 [7, 8, 9] _ rfl ((HR3.out.alloc _).alloc _) hn2
  clear hn2
  refine C5.mono ?_
  rintro e w4 ⟨rfl, rfl⟩
  obtain ⟨w5, hw5⟩ : ∃ w5, (w3.alloc (.cells #[.int .u8 2, .int .u8 7, .int .u8 8, .int .u8 1, .int .u8 9, .int .u8 0] 5)).alloc (.cells #[.int .u8 7, .int .u8 8, .int .u8 9] 5) = w5 := ⟨_, rfl⟩
  have hb5 : Below w3.heap.size w3 w5 := by rw [← hw5]; exact ((Below.refl _ _).alloc (Nat.le_refl _) _).alloc (by simp) _
  have HB5 : Hid (Below w.heap.size w w5 ∧ BR w5 w1.heap.size ⟨0, true, 6, []⟩ g') := ⟨HB3.out.trans (hb5.mono HB3.out.size), HBR.out.old hb5⟩
  clear hb5 HBR HR3 HR1 HB3 C4 C5
  rw [hw5]
  go_wp2_with (first
    | (go_at_call 12; refine (bdone_any HB5.out.2).mono ?_; rintro e w' ⟨rfl, rfl⟩)
    | (go_at_call 14; refine (bseen_any HB5.out.2).mono ?_; rintro e w' ⟨rfl, rfl⟩))
  go_ret
  exact ⟨rfl, HB5.out.1⟩
set_option maxHeartbeats 800000 in
set_option maxRecDepth 100000 in
theorem bnil_walk (a : Option Addr) (len cap : Nat) (w : World) (_ : BArg w a len cap) :
    Calls Try.prog 6 #[.slice a len cap] w fun e w' => e = .returned (.bool true) ∧ Below w.heap.size w w' := by
  go_enter Try.func6, Try.ntmps6
  go_wp2_with fail
  refine (bfixed_any _).mono ?_
  rintro e w1 ⟨rfl, hb⟩
  go_wp2_with (first
    | (go_at_call 9; refine (bpush_nil _ _).mono ?_; rintro e w' ⟨rfl, rfl⟩)
    | (go_at_call 12; refine (bdone_nil _).mono ?_; rintro e w' ⟨rfl, rfl⟩)
    | (go_at_call 13; refine (brest_nil _).mono ?_; rintro e w' ⟨rfl, rfl⟩)
    | (go_at_call 14; refine (bseen_nil _).mono ?_; rintro e w' ⟨rfl, rfl⟩))
  go_ret
  exact ⟨rfl, hb⟩
end Go.Proofs.Ytkfokfjmdkondaa
