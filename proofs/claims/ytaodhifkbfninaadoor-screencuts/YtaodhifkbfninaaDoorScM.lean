/- A GIF's beginning is written: the colours. -/
import Derived.Test.YtaodhifkbfninaaDoorScL
namespace Go.Proofs.YtaodhifkbfninaaDoor
open Go.RowKit
theorem row_3 {w : World} {a : Option Addr} {b : List Int} (h : Row w a b) {m j : Nat} (hb : b.length = 3 * m) (hj : j < m) : ∃ bb off, a = some ⟨bb, off, none⟩ ∧ w.cell? ⟨bb, off + j * 3, none⟩ = some (.int .u8 (b[3 * j]?.getD 0)) ∧ w.cell? ⟨bb, off + j * 3 + 1, none⟩ = some (.int .u8 (b[3 * j + 1]?.getD 0)) ∧ w.cell? ⟨bb, off + j * 3 + 2, none⟩ = some (.int .u8 (b[3 * j + 2]?.getD 0)) := by
  rcases h with e | ⟨bb, off, e, hc⟩
  · rw [e] at hb; simp at hb; omega
  · refine ⟨bb, off, e, ?_, ?_, ?_⟩
    · rw [show off + j * 3 = off + 3 * j by omega]; exact hc _ (by omega)
    · rw [show off + j * 3 + 1 = off + (3 * j + 1) by omega]; exact hc _ (by omega)
    · rw [show off + j * 3 + 2 = off + (3 * j + 2) by omega]; exact hc _ (by omega)
theorem row_lit3 (w : World) (x y z : Int) : Row (w.alloc (.cells #[.int .u8 x, .int .u8 y, .int .u8 z] 5)) (some ⟨w.heap.size, 0, none⟩) [x, y, z] := row_fr [x, y, z] _ _ rfl
/-- The colours so far. -/
structure TwI (w : World) (T : List Int) (j : Nat) (v : Value) (g : Option Nat) (wr : World) : Prop where
  sl : Sl wr 5 v g (vals (T.take (3 * j)))
  be : Below w.heap.size w wr
  nw : ∀ k, g = some k → w.heap.size ≤ k
set_option maxHeartbeats 1600000 in
theorem table_any (W H : Int) (ta : Option Addr) (tn tc : Nat) (Lo : Bool) (C : Int) (La : Bool) (B : Int) (T : List Int) (w : World) (hl : T.length = 3 * tn) (hn : tn ≤ 256) (hc : tn ≤ tc) (hr : Row w ta T) : Calls Tryd.prog 26 #[ScV W H (.slice ta tn tc) Lo C La B] w fun e w' => NewBytes w T e w' := by
  have HQ : Hid (Qs w W H (.slice ta tn tc) Lo C La B _) := Qs.box w W H (.slice ta tn tc) Lo C La B
  obtain ⟨w1, hw1⟩ : ∃ w1, w.alloc (.cells #[.int .i64 W, .int .i64 H, .slice ta tn tc, .bool Lo, .int .i64 C, .bool La, .int .i64 B] 26) = w1 := ⟨_, rfl⟩
  rw [hw1] at HQ
  have HX : Hid (T.length = 3 * tn ∧ Row w ta T) := ⟨hl, hr⟩
  clear hl hr
  obtain ⟨-, -, z2, -⟩ := HQ.out.2.cells
  unfold ScV
  go_enter Tryd.func26, Tryd.ntmps26
  go_wp2
  clear hw1 z2
  go_loopw [3, 5, 9] (fun v _ i wr => ∃ (j : Nat) (a : Option Addr) (n c : Nat) (g : Option Nat), j ≤ tn ∧ i = .int .i64 j ∧ v = .slice a n c ∧ Hid (TwI w T j (.slice a n c) g wr)) (fun _ _ i _ => tn - (intOf i).toNat)
  case atStart => exact ⟨0, none, 0, 0, none, Nat.zero_le _, rfl, rfl, ⟨Sl.nil _ _, HQ.out.1, (by intro k hk; cases hk)⟩⟩
  case round =>
    clear HQ
    obtain ⟨j, a, n, c, g, hj, rfl, rfl, HI⟩ := hrel
    by_cases hlt : j < tn
    · obtain ⟨bb, off, rfl, c0, c1, c2⟩ := row_3 (HX.out.2.old HI.out.be) HX.out.1 hlt
      have HL : Hid (T.take (3 * (j + 1)) = T.take (3 * j) ++ [T[3 * j]?.getD 0, T[3 * j + 1]?.getD 0, T[3 * j + 2]?.getD 0]) := by
        show _ = _
        have := HX.out.1
        rw [show 3 * (j + 1) = 3 * j + 1 + 1 + 1 by omega, take_snoc T (3 * j + 1 + 1) (by omega), take_snoc T (3 * j + 1) (by omega), take_snoc T (3 * j) (by omega)]
        simp
      generalize T[3 * j]?.getD 0 = x at *
      generalize T[3 * j + 1]?.getD 0 = y at *
      generalize T[3 * j + 2]?.getD 0 = z at *
      obtain ⟨w2, hw2⟩ : ∃ w2, w2 = wr.alloc (.cells #[.int .u8 x, .int .u8 y, .int .u8 z] 53) := ⟨_, rfl⟩
      obtain ⟨w3, hw3⟩ : ∃ w3, w3 = w2.alloc (.cells #[.int .u8 x, .int .u8 y, .int .u8 z] 5) := ⟨_, rfl⟩
      have hs2 : w2.heap.size = wr.heap.size + 1 := by rw [hw2]; simp
      have HR3 : Hid (Row w3 (some ⟨wr.heap.size + 1, 0, none⟩) [x, y, z]) := by
        show Row _ _ _
        rw [hw3, ← hs2]; exact row_lit3 w2 x y z
      have hb3 : Below wr.heap.size wr w3 := by rw [hw3, hw2]; exact ((Below.refl _ wr).alloc (Nat.le_refl _) _).alloc (by simp) _
      have HI3 : Hid (TwI w T j (.slice a n c) g w3) := ⟨HI.out.sl.same fun k hk => hb3.block k (HI.out.sl.lt hk), HI.out.be.trans (hb3.mono HI.out.be.size), HI.out.nw⟩
      have HLn : Hid ((T.take (3 * j)).length + 3 ≤ 140737488351232) := by show _ ≤ _; rw [List.length_take]; omega
      have hsl := HI.out.sl
      obtain ⟨a', c', hv', hle, -⟩ := hsl.shape
      simp only [Value.slice.injEq, vals_len] at hv'
      have HN : Hid ((T.take (3 * j)).length = n) := hv'.2.1.symm
      clear hb3 hs2 hsl hv' hle
      rw [hw2] at hw3
      go_wp2_with (at_builtin; rw [← hw3]; refine wpList_more rfl _ _ rfl (.slice a n c) g (T.take (3 * j)) rfl HI3.out.sl (some ⟨wr.heap.size + 1, 0, none⟩) 3 3 [x, y, z] rfl (by intro h; cases h) rfl HR3.out HLn.out ?_; intro v7 w7 g7 hs7 hg7 hgr7; obtain ⟨a7, c7, hv7, -⟩ := hs7.shape; generalize (vals (T.take (3 * j) ++ [x, y, z])).length = z7 at hv7; subst hv7)
      have HI7 : Hid (TwI w T (j + 1) (.slice a7 z7 c7) g7 w7) := by
        have b3 := HI3.out.be
        refine ⟨by rw [HL.out]; exact hs7, b3.grown hgr7 b3.size (fun k hk => HI3.out.nw k hk), ?_⟩
        intro k hk
        rcases hg7 with e | ⟨q, e, hq⟩
        · rw [e] at hk; exact HI3.out.nw k hk
        · rw [e] at hk; cases hk; have := b3.size; omega
      clear hs7 hg7 hgr7
      go_roundw
      case rel => exact ⟨j + 1, a7, z7, c7, g7, by omega, by go_num, rfl, HI7⟩
      case measure => simp [intOf]; omega
    · obtain rfl : j = tn := by omega
      have HF : Hid (NewBytes w T (.returned (.slice a n c)) wr) := by
        show NewBytes ..
        have ht : T.take (3 * j) = T := List.take_of_length_le (by have := HX.out.1; omega)
        have hs := HI.out.sl
        rw [ht] at hs
        obtain ⟨a', c', hv', hle, -, hnn⟩ := hs.shape
        simp only [Value.slice.injEq, vals_len] at hv'
        obtain ⟨rfl, rfl, rfl⟩ := hv'
        exact ⟨a, c, g, rfl, hs, HI.out.nw, hnn, HI.out.be⟩
      clear HI
      go_wp2
      go_ret
      exact HF.out
end Go.Proofs.YtaodhifkbfninaaDoor
