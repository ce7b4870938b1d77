/- A head is written: the program and the reference. -/
import Derived.Test.YticdpibaojhpiaaDoorHdH
import Derived.Test.YticdpibaojhpiaaDoorHdP
namespace Go.Proofs.YticdpibaojhpiaaDoor
open Go.RowKit
def lcB (L : Bool) : Int := if L then 1 else 0
def wrA (W H : Int) : List Int := (octs W 4).reverse ++ (octs H 4).reverse
def wrL (W H C D : Int) (L : Bool) : List Int := wrA W H ++ [D % 256, C % 256, 0, 0, lcB L]
theorem octs_len (v : Int) (n : Nat) : (octs v n).length = n := by simp [octs]
theorem wrA_len (W H : Int) : (wrA W H).length = 8 := by simp [wrA, octs_len]
theorem wrL_len (W H C D : Int) (L : Bool) : (wrL W H C D L).length = 13 := by simp [wrL, wrA_len]
/-- Bytes of the call's own and no error. -/
def NewB2 (w : World) (zs : List Int) (e : Ending) (w' : World) : Prop :=
  ∃ a c g, e = .returned (.tuple #[.slice a zs.length c, .int .i64 0]) ∧ Sl w' 5 (.slice a zs.length c) g (vals zs) ∧ (∀ k, g = some k → w.heap.size ≤ k) ∧ Below w.heap.size w w'
theorem wr_fin {w w7 W8 w8 : World} {W H C D : Int} {L : Bool} {g7 g8 : Option Nat} {v8 : Value} {x : Int} (hx : x = lcB L) (hC : C % 256 = C) (hD : D % 256 = D) (hg7 : ∀ k, g7 = some k → w.heap.size < k) (h7 : Qh w W H C D L w7) (hW : W8 = w7.alloc (.cells #[.int .u8 D, .int .u8 C, .int .u8 0, .int .u8 0, .int .u8 x] 5)) (hs8 : Sl w8 5 v8 g8 (vals (wrA W H ++ [D, C, 0, 0, x])))
    (hg8 : g8 = g7 ∨ ∃ k, g8 = some k ∧ w7.heap.size + 1 ≤ k) (hgr8 : W8.grownBy w8 g7) : NewB2 w (wrL W H C D L) (.returned (.tuple #[v8, .int .i64 0])) w8 := by
  subst hx
  have e : wrL W H C D L = wrA W H ++ [D, C, 0, 0, lcB L] := by rw [wrL, hC, hD]
  rw [← e] at hs8
  obtain ⟨a8, c8, hv8, -⟩ := hs8.shape
  rw [vals_len] at hv8
  subst hv8
  have hb : Below w.heap.size w W8 := by rw [hW]; exact h7.1.alloc h7.1.size _
  refine ⟨a8, c8, g8, rfl, hs8, fun k hk => ?_, hb.grown hgr8 hb.size (fun k hk => by have := hg7 k hk; omega)⟩
  rcases hg8 with e | ⟨j, e, hj⟩
  · have := hg7 k (by rw [← e, hk]); omega
  · rw [e] at hk; cases hk; have := h7.1.size; omega
theorem row_five (w W : World) (l : List Int) (h : W.heap = (w.alloc (.cells (vals l).toArray 5)).heap) : Row W (some ⟨w.heap.size, 0, none⟩) l := by
  refine .inr ⟨_, 0, rfl, fun i hi => ?_⟩
  have hh : W.heap[w.heap.size]? = some (.cells (vals l).toArray 5 (0, 0)) := by rw [h]; exact heap_alloc_new _ _
  rw [← vals_at l i hi]
  simp [World.cell?, hh]
set_option maxHeartbeats 400000 in
theorem write_no (W H C D : Int) (L : Bool) (w : World) (ht : Tab w) (hm : ¬ mayN W H C D) : Calls Tryd.prog 16 #[HdV W H C D L] w fun e w' => e = .returned (.tuple #[.slice none 0 0, .int .i64 11]) ∧ Below w.heap.size w w' := by
  have HB0 : Hid (Qh w W H C D L _) := Qh.box w W H C D L
  have CM := may_any W H C D L _ (ht.old HB0.out.1)
  rw [decide_eq_false hm] at CM
  clear hm ht
  unfold HdV at *
  go_enter Tryd.func16, Tryd.ntmps16
  go_wp2_with fail
  refine CM.mono ?_
  rintro e w1 ⟨rfl, hb1⟩
  have HB1 : Hid (Qh w W H C D L w1) := HB0.out.old hb1
  clear hb1 CM
  go_wp2
  go_ret2
  exact ⟨rfl, HB1.out.1⟩
set_option maxHeartbeats 400000 in
theorem rwrite_no (W H C D : Int) (L : Bool) (w : World) (hm : ¬ mayN W H C D) : Calls Tryd.prog 17 #[HdV W H C D L] w fun e w' => e = .returned (.tuple #[.slice none 0 0, .int .i64 11]) ∧ Below w.heap.size w w' := by
  have HB0 : Hid (Qh w W H C D L _) := Qh.box w W H C D L
  have CM := rmay_any W H C D L (w.alloc (.cells #[.int .i64 W, .int .i64 H, .int .i64 C, .int .i64 D, .bool L] 23))
  rw [decide_eq_false hm] at CM
  clear hm
  unfold HdV at *
  go_enter Tryd.func17, Tryd.ntmps17
  go_wp2_with fail
  refine CM.mono ?_
  rintro e w1 ⟨rfl, hb1⟩
  have HB1 : Hid (Qh w W H C D L w1) := HB0.out.old hb1
  clear hb1 CM
  go_wp2
  go_ret2
  exact ⟨rfl, HB1.out.1⟩
/-- What the two numbers' bytes, put one behind the other, leave. -/
theorem two_fin {w w1 w2 w3 w7 : World} {W H C D : Int} {L : Bool} {g2 g7 : Option Nat} {v7 : Value} (h : Qh w W H C D L w1) (hb2 : Below w1.heap.size w1 w2) (hg2 : ∀ k, g2 = some k → w1.heap.size ≤ k) (hb3 : Below w2.heap.size w2 w3)
    (hs7 : Sl w7 5 v7 g7 (vals ((octs W 4).reverse ++ (octs H 4).reverse))) (hg7 : g7 = g2 ∨ ∃ k, g7 = some k ∧ w3.heap.size ≤ k) (hgr7 : w3.grownBy w7 g2) : Sl w7 5 v7 g7 (vals (wrA W H)) ∧ (∀ k, g7 = some k → w.heap.size < k) ∧ Qh w W H C D L w7 := by
  have h1 := lt_of_block h.2
  have h3 := (h.old hb2).old hb3
  have e2 := hb2.size
  have e3 := hb3.size
  refine ⟨hs7, fun k hk => ?_, ?_, ?_⟩
  · rcases hg7 with e | ⟨j, e, hj⟩
    · have := hg2 k (by rw [← e, hk]); omega
    · rw [e] at hk; cases hk; omega
  · exact h3.1.grown hgr7 h3.1.size (fun k hk => by have := hg2 k hk; omega)
  · exact (hgr7.block w.heap.size (by omega) (fun e => by have := hg2 w.heap.size e.symm; omega)).trans h3.2
set_option maxHeartbeats 3200000 in
set_option maxRecDepth 20000 in
theorem write_yes (W H C D : Int) (L : Bool) (w : World) (ht : Tab w) (hm : mayN W H C D) : Calls Tryd.prog 16 #[HdV W H C D L] w fun e w' => NewB2 w (wrL W H C D L) e w' := by
  have HB0 : Hid (Qh w W H C D L _) := Qh.box w W H C D L
  have CM := may_any W H C D L _ (ht.old HB0.out.1)
  rw [decide_eq_true hm] at CM
  have hbd := isPr_bd hm.2.2.1
  clear hm ht
  have HPW : Hid (∀ W1, Calls Tryd.prog 34 #[.int .i64 4, .int .i64 W] W1 fun e w' => NewS W1 (octs W 4).reverse e w') := fun W1 => putBig_any 4 W W1
  have HPH : Hid (∀ W1, Calls Tryd.prog 34 #[.int .i64 4, .int .i64 H] W1 fun e w' => NewS W1 (octs H 4).reverse e w') := fun W1 => putBig_any 4 H W1
  unfold HdV at *
  go_enter Tryd.func16, Tryd.ntmps16
  go_wp2_with fail
  refine CM.mono ?_
  rintro e w1 ⟨rfl, hb1⟩
  have HB1 : Hid (Qh w W H C D L w1) := HB0.out.old hb1
  obtain ⟨c0, c1, c2, c3, c4⟩ := HB1.out.five
  clear hb1 CM HB0
  cases L
  · have HN1 : Hid (∀ n, Qh w W H C D _ (w1.drewN n)) := fun n => HB1.out.drewN n
    have HA : Hid (∀ n, Calls Tryd.prog 34 #[.int .i64 4, .int .i64 W] (w1.drewN n) fun e w' => ∃ a c g, e = .returned (.slice a 4 c) ∧ Hid (Sl w' 5 (.slice a 4 c) g (vals (octs W 4).reverse) ∧ (∀ k, g = some k → w1.heap.size ≤ k) ∧ Below w1.heap.size w1 w') ∧ w'.cell? ⟨w.heap.size, 1, none⟩ = some (.int .i64 H)) := fun n => (HPW.out (w1.drewN n)).mono fun _ w' ⟨a, c, g, e1, e2, e3, e4⟩ => by
      rw [List.length_reverse, octs_len] at e1 e2
      have e5 : Below w1.heap.size w1 w' := ⟨e4.os, e4.tape, e4.output, e4.size, e4.block⟩
      exact ⟨a, c, g, e1, ⟨e2, e3, e5⟩, (HB1.out.old e5).five.2.1⟩
    have HBq : Hid (∀ W1, Calls Tryd.prog 34 #[.int .i64 4, .int .i64 H] W1 fun e w' => ∃ a c, e = .returned (.slice a 4 c) ∧ Hid (Row w' a (octs H 4).reverse ∧ Below W1.heap.size W1 w' ∧ (a = none → c = 0))) := fun W1 => (HPH.out W1).mono fun _ w' ⟨a, c, g, e1, e2, e3, e4⟩ => by
      rw [List.length_reverse, octs_len] at e1 e2
      obtain ⟨a', c', hv, _, _, hz⟩ := e2.shape
      simp only [Value.slice.injEq] at hv
      exact ⟨a, c, e1, e2.row rfl, e4, fun h => by rw [hv.2.2]; exact hz (by rw [← hv.1]; exact h)⟩
    have HL4 : Hid (((octs W 4).reverse).length = 4 ∧ ((octs H 4).reverse).length = 4) := ⟨by simp [octs_len], by simp [octs_len]⟩
    clear HPW HPH
    go_wp2
    go_region_law (first
      | (have hz2 := hq2; clear hz2; go_simp; go_at_call 34; refine Calls.mono (HBq.out _) ?_; rintro e w3 ⟨a3, k3, rfl, hq3⟩)
      | (go_simp; go_at_call 34; refine Calls.mono (HA.out 1) ?_; rintro e w2 ⟨a2, k2, g2, rfl, hq2, ch⟩)
      | (refine step_more rfl _ _ rfl (.slice a2 4 k2) g2 (octs W 4).reverse rfl (hq2.out.1.same fun k hk => hq3.out.2.1.block k (hq2.out.1.lt hk)) a3 4 k3 (octs H 4).reverse rfl hq3.out.2.2 HL4.out.2 hq3.out.1 (by rw [HL4.out.1]; omega) ?_; intro v7 w7 g7 hs7 hg7 hgr7; obtain ⟨a7, c7, hv7, -⟩ := hs7.shape; generalize (vals ((octs W 4).reverse ++ (octs H 4).reverse)).length = z7 at hv7; subst hv7)
      | fail)
    all_goals
      have HF : Hid (Sl w7 5 _ g7 (vals (wrA W H)) ∧ (∀ k, g7 = some k → w.heap.size < k) ∧ Qh w W H C D false w7) := two_fin HB1.out hq2.out.2.2 hq2.out.2.1 hq3.out.2.1 hs7 hg7 hgr7
      obtain ⟨d0, d1, d2, d3, d4⟩ := HF.out.2.2.five
      have HS8 : Hid (Sl (w7.alloc (.cells #[.int .u8 D, .int .u8 C, .int .u8 0, .int .u8 0, .int .u8 0] 5)) 5 (.slice a7 z7 c7) g7 (vals (wrA W H))) := HF.out.1.same fun k hk => Below.heap_alloc w7 _ k (HF.out.1.lt hk)
      have HR8 : Hid (Row (w7.alloc (.cells #[.int .u8 D, .int .u8 C, .int .u8 0, .int .u8 0, .int .u8 0] 5)) (some ⟨w7.heap.size, 0, none⟩) [D, C, 0, 0, 0]) := row_five w7 _ [D, C, 0, 0, 0] rfl
      clear hs7 hg7 hgr7 hq2 hq3 HA HBq HL4 HN1 c0 c1 c2 c3 c4 ch
      obtain ⟨b0, b1, b2, b3⟩ := hbd
      have hsz : w.heap.size < w7.heap.size := cell_lt d0
      go_wp2_with (at_builtin; refine wpList_more rfl _ _ rfl (.slice a7 z7 c7) g7 (wrA W H) rfl HS8.out (some ⟨w7.heap.size, 0, none⟩) 5 5 [D, C, 0, 0, 0] rfl (by intro h; cases h) rfl HR8.out (by rw [wrA_len]; omega) ?_)
      intro v8 w8 g8 hs8 hg8 hgr8
      have HZ : Hid (NewB2 w (wrL W H C D false) (.returned (.tuple #[v8, .int .i64 0])) w8) := wr_fin (x := 0) rfl (by omega) (by omega) HF.out.2.1 HF.out.2.2 rfl hs8 hg8 hgr8
      clear hs8 hg8 hgr8 HF HS8 HR8
      go_wp2
      go_ret2
      exact HZ.out
  · have HN1 : Hid (∀ n, Qh w W H C D _ (w1.drewN n)) := fun n => HB1.out.drewN n
    have HA : Hid (∀ n, Calls Tryd.prog 34 #[.int .i64 4, .int .i64 W] (w1.drewN n) fun e w' => ∃ a c g, e = .returned (.slice a 4 c) ∧ Hid (Sl w' 5 (.slice a 4 c) g (vals (octs W 4).reverse) ∧ (∀ k, g = some k → w1.heap.size ≤ k) ∧ Below w1.heap.size w1 w') ∧ w'.cell? ⟨w.heap.size, 1, none⟩ = some (.int .i64 H)) := fun n => (HPW.out (w1.drewN n)).mono fun _ w' ⟨a, c, g, e1, e2, e3, e4⟩ => by
      rw [List.length_reverse, octs_len] at e1 e2
      have e5 : Below w1.heap.size w1 w' := ⟨e4.os, e4.tape, e4.output, e4.size, e4.block⟩
      exact ⟨a, c, g, e1, ⟨e2, e3, e5⟩, (HB1.out.old e5).five.2.1⟩
    have HBq : Hid (∀ W1, Calls Tryd.prog 34 #[.int .i64 4, .int .i64 H] W1 fun e w' => ∃ a c, e = .returned (.slice a 4 c) ∧ Hid (Row w' a (octs H 4).reverse ∧ Below W1.heap.size W1 w' ∧ (a = none → c = 0))) := fun W1 => (HPH.out W1).mono fun _ w' ⟨a, c, g, e1, e2, e3, e4⟩ => by
      rw [List.length_reverse, octs_len] at e1 e2
      obtain ⟨a', c', hv, _, _, hz⟩ := e2.shape
      simp only [Value.slice.injEq] at hv
      exact ⟨a, c, e1, e2.row rfl, e4, fun h => by rw [hv.2.2]; exact hz (by rw [← hv.1]; exact h)⟩
    have HL4 : Hid (((octs W 4).reverse).length = 4 ∧ ((octs H 4).reverse).length = 4) := ⟨by simp [octs_len], by simp [octs_len]⟩
    clear HPW HPH
    go_wp2
    go_region_law (first
      | (have hz2 := hq2; clear hz2; go_simp; go_at_call 34; refine Calls.mono (HBq.out _) ?_; rintro e w3 ⟨a3, k3, rfl, hq3⟩)
      | (go_simp; go_at_call 34; refine Calls.mono (HA.out 1) ?_; rintro e w2 ⟨a2, k2, g2, rfl, hq2, ch⟩)
      | (refine step_more rfl _ _ rfl (.slice a2 4 k2) g2 (octs W 4).reverse rfl (hq2.out.1.same fun k hk => hq3.out.2.1.block k (hq2.out.1.lt hk)) a3 4 k3 (octs H 4).reverse rfl hq3.out.2.2 HL4.out.2 hq3.out.1 (by rw [HL4.out.1]; omega) ?_; intro v7 w7 g7 hs7 hg7 hgr7; obtain ⟨a7, c7, hv7, -⟩ := hs7.shape; generalize (vals ((octs W 4).reverse ++ (octs H 4).reverse)).length = z7 at hv7; subst hv7)
      | fail)
    all_goals
      have HF : Hid (Sl w7 5 _ g7 (vals (wrA W H)) ∧ (∀ k, g7 = some k → w.heap.size < k) ∧ Qh w W H C D true w7) := two_fin HB1.out hq2.out.2.2 hq2.out.2.1 hq3.out.2.1 hs7 hg7 hgr7
      obtain ⟨d0, d1, d2, d3, d4⟩ := HF.out.2.2.five
      have HS8 : Hid (Sl (w7.alloc (.cells #[.int .u8 D, .int .u8 C, .int .u8 0, .int .u8 0, .int .u8 1] 5)) 5 (.slice a7 z7 c7) g7 (vals (wrA W H))) := HF.out.1.same fun k hk => Below.heap_alloc w7 _ k (HF.out.1.lt hk)
      have HR8 : Hid (Row (w7.alloc (.cells #[.int .u8 D, .int .u8 C, .int .u8 0, .int .u8 0, .int .u8 1] 5)) (some ⟨w7.heap.size, 0, none⟩) [D, C, 0, 0, 1]) := row_five w7 _ [D, C, 0, 0, 1] rfl
      clear hs7 hg7 hgr7 hq2 hq3 HA HBq HL4 HN1 c0 c1 c2 c3 c4 ch
      obtain ⟨b0, b1, b2, b3⟩ := hbd
      have hsz : w.heap.size < w7.heap.size := cell_lt d0
      go_wp2_with (at_builtin; refine wpList_more rfl _ _ rfl (.slice a7 z7 c7) g7 (wrA W H) rfl HS8.out (some ⟨w7.heap.size, 0, none⟩) 5 5 [D, C, 0, 0, 1] rfl (by intro h; cases h) rfl HR8.out (by rw [wrA_len]; omega) ?_)
      intro v8 w8 g8 hs8 hg8 hgr8
      have HZ : Hid (NewB2 w (wrL W H C D true) (.returned (.tuple #[v8, .int .i64 0])) w8) := wr_fin (x := 1) rfl (by omega) (by omega) HF.out.2.1 HF.out.2.2 rfl hs8 hg8 hgr8
      clear hs8 hg8 hgr8 HF HS8 HR8
      go_wp2
      go_ret2
      exact HZ.out
end Go.Proofs.YticdpibaojhpiaaDoor
