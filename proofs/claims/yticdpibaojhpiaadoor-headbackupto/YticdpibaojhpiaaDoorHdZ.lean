/- What covers nothing is written: the program's WriteClear and the reference's. -/
import Derived.Test.YticdpibaojhpiaaDoorHdY
import Derived.Deep.RegionHeld3
namespace Go.Proofs.YticdpibaojhpiaaDoor
open Go.RowKit
def NumsIn (w : World) (a : Option Addr) (n : Nat) (x : List Int) : Prop := x.length = n ∧ n ≤ 17592186044416 ∧ IRow w a x
theorem NumsIn.old {w w' : World} {a : Option Addr} {n : Nat} {x : List Int} (h : NumsIn w a n x) (hb : Below w.heap.size w w') : NumsIn w' a n x := ⟨h.1, h.2.1, h.2.2.old hb⟩
theorem newS_box {w w1 w' : World} {zs : List Int} {e : Ending} (h : NewS w1 zs e w') (hb : Below w.heap.size w w1) : NewS w zs e w' := by
  obtain ⟨a, c, g, e1, e2, e3, e4⟩ := h
  exact ⟨a, c, g, e1, e2, fun k hk => Nat.le_trans hb.size (e3 k hk), hb.trans (e4.mono hb.size)⟩
theorem newS_nil {w w' : World} (hb : Below w.heap.size w w') : NewS w [] (.returned (.slice none 0 0)) w' := ⟨none, 0, none, rfl, Sl.nil _ _, (by intro k hk; cases hk), hb⟩
set_option maxHeartbeats 800000 in
theorem wclear_any (W H C D : Int) (L : Bool) (a : Option Addr) (n cap : Nat) (a' : Option Addr) (n' cap' : Nat) (x y : List Int) (w : World) (hx : NumsIn w a n x) (hy : NumsIn w a' n' y) :
    Calls Tryd.prog 27 #[HdV W H C D L, .slice a n cap, .slice a' n' cap'] w fun e w' => NewS w (wcL C x y) e w' := by
  have HB0 : Hid (Qh w W H C D L _) := Qh.box w W H C D L
  have C1 := putAll_any 1 (.inl rfl) a n cap x _ hx.1 hx.2.1 (hx.old HB0.out.1).2.2
  have C2 := putAll_any 2 (.inr rfl) a' n' cap' y _ hy.1 hy.2.1 (hy.old HB0.out.1).2.2
  clear hx hy
  unfold HdV
  by_cases h3 : C = 3
  · subst h3
    rw [show wcL 3 x y = putA 1 x from rfl]
    go_enter Tryd.func27, Tryd.ntmps27
    go_wp2_with fail
    refine C1.mono ?_
    rintro e w1 ⟨a1, c1, g1, rfl, e2, e3, e4⟩
    have HF : Hid (NewS w (putA 1 x) (.returned (.slice a1 (putA 1 x).length c1)) w1) := newS_box ⟨a1, c1, g1, rfl, e2, e3, e4⟩ HB0.out.1
    clear e2 e3 e4 C1 C2
    go_wp2
    go_ret
    exact HF.out
  · by_cases h0 : C = 0 ∨ C = 2
    · rw [show wcL C x y = putA 2 y from by unfold wcL; rw [if_neg h3, if_pos h0]]
      rcases h0 with rfl | rfl
      · go_enter Tryd.func27, Tryd.ntmps27
        go_wp2_with fail
        refine C2.mono ?_
        rintro e w1 ⟨a1, c1, g1, rfl, e2, e3, e4⟩
        have HF : Hid (NewS w (putA 2 y) (.returned (.slice a1 (putA 2 y).length c1)) w1) := newS_box ⟨a1, c1, g1, rfl, e2, e3, e4⟩ HB0.out.1
        clear e2 e3 e4 C1 C2
        go_wp2
        go_ret
        exact HF.out
      · go_enter Tryd.func27, Tryd.ntmps27
        go_wp2_with fail
        refine C2.mono ?_
        rintro e w1 ⟨a1, c1, g1, rfl, e2, e3, e4⟩
        have HF : Hid (NewS w (putA 2 y) (.returned (.slice a1 (putA 2 y).length c1)) w1) := newS_box ⟨a1, c1, g1, rfl, e2, e3, e4⟩ HB0.out.1
        clear e2 e3 e4 C1 C2
        go_wp2
        go_ret
        exact HF.out
    · rw [show wcL C x y = [] from by unfold wcL; rw [if_neg h3, if_neg h0]]
      have k3 : (C == 3) = false := by simpa using h3
      have k0 : (C == 0) = false := by simp; omega
      have k2 : (C == 2) = false := by simp; omega
      clear C1 C2 h3 h0
      go_enter Tryd.func27, Tryd.ntmps27
      go_wp2
      go_ret
      exact newS_nil HB0.out.1
theorem octs_one (v : Int) : (octs v 1).reverse = [v % 256] := by simp [octs, oct]
set_option maxHeartbeats 3200000 in
theorem rwclear_any (W H C D : Int) (L : Bool) (a : Option Addr) (n cap : Nat) (a' : Option Addr) (n' cap' : Nat) (x y : List Int) (w : World) (hx : NumsIn w a n x) (hy : NumsIn w a' n' y) :
    Calls Tryd.prog 28 #[HdV W H C D L, .slice a n cap, .slice a' n' cap'] w fun e w' => NewS w (wcL C x y) e w' := by
  have HB0 : Hid (Qh w W H C D L _) := Qh.box w W H C D L
  obtain ⟨B, hB⟩ : ∃ B, B = w.heap.size := ⟨_, rfl⟩
  have HB : Hid (B = w.heap.size) := hB
  have HX : Hid (NumsIn w a n x) := hx
  have HY : Hid (NumsIn w a' n' y) := hy
  have hn := hx.2.1
  have hn' := hy.2.1
  clear hx hy hB
  have HP : Hid (∀ (v : Int) W1, Calls Tryd.prog 35 #[.int .i64 2, .int .i64 v] W1 fun e w' => ∃ a c, e = .returned (.slice a 2 c) ∧ Row w' a (octs v 2).reverse ∧ (a = none → c = 0) ∧ Below W1.heap.size W1 w') := fun v W1 => (refPutBig_any 2 v W1).mono fun _ w' ⟨a, c, g, e1, e2, e3, e4⟩ => by
    rw [List.length_reverse, octs_len] at e1 e2
    obtain ⟨a', c', hv, _, _, hz⟩ := e2.shape
    simp only [Value.slice.injEq] at hv
    exact ⟨a, c, e1, e2.row rfl, fun h => by rw [hv.2.2]; exact hz (by rw [← hv.1]; exact h), e4⟩
  unfold HdV
  by_cases h3 : C = 3
  · subst h3
    rw [show wcL 3 x y = putA 1 x from rfl]
    go_enter Tryd.func28, Tryd.ntmps28
    go_wp2
    go_loopw [7, 9, 17] (fun o _ c wr => ∃ (j : Nat) (g : Option Nat), j ≤ n ∧ c = .int .i64 j ∧ Sl wr 5 o g (vals (putA 1 (x.take j))) ∧ (∀ q, g = some q → B < q) ∧ Hid (Qh w W H 3 D L wr)) (fun _ _ c _ => n - (intOf c).toNat)
    case atStart => exact ⟨0, none, Nat.zero_le _, rfl, Sl.nil _ _, (by intro q hq; cases hq), HB0⟩
    case round =>
      obtain ⟨j, g, hj, rfl, hsl, hg, HQ⟩ := hrel
      have hL : (putA 1 (x.take j)).length = j := by rw [putA_len, List.length_take, HX.out.1, Nat.min_eq_left hj, Nat.one_mul]
      obtain ⟨ao, co, hv, hl1, hl2, hl3⟩ := hsl.shape
      rw [vals_len, hL] at hv hl1
      have HL : Hid ((putA 1 (x.take j)).length = j) := hL
      clear hL
      by_cases hlt : j < n
      · obtain ⟨b, off, rfl, hc⟩ := (HX.out.2.2.old HQ.out.1).at j (by rw [HX.out.1]; exact hlt)
        have HU : Hid (putA 1 (x.take (j + 1)) = putA 1 (x.take j) ++ [(x[j]?.getD 0) % 256]) := by
          show _ = _
          rw [take_snoc x j (by rw [HX.out.1]; exact hlt), putA_snoc, octs_one]
        have HSl : Hid (Sl wr 5 (.slice ao j co) g (vals (putA 1 (x.take j))) ∧ (∀ q, g = some q → B < q)) := ⟨hv ▸ hsl, hg⟩
        clear hsl hg hl2 hl3
        subst hv
        generalize x[j]?.getD 0 = z at *
        have hand := i64_and255 z
        have hz : 0 ≤ z % 256 ∧ z % 256 < 256 := by omega
        generalize z % 256 = Y at *
        have HS3 : Hid (Sl (wr.alloc (.cells #[.int .u8 Y] 5)) 5 (.slice ao j co) g (vals (putA 1 (x.take j)))) := HSl.out.1.same fun q hq => Below.heap_alloc wr _ q (HSl.out.1.lt hq)
        have HR3 : Hid (Row (wr.alloc (.cells #[.int .u8 Y] 5)) (some ⟨wr.heap.size, 0, none⟩) [Y]) := row_five wr _ [Y] rfl
        go_wp2_with (at_builtin; refine wpList_more rfl _ _ rfl (.slice ao j co) g (putA 1 (x.take j)) rfl HS3.out (some ⟨wr.heap.size, 0, none⟩) 1 1 [Y] rfl (by intro h; cases h) rfl HR3.out (by rw [HL.out]; omega) ?_)
        intro v7 w7 g7 hs7 hg7 hgr7
        have HF : Hid (Sl w7 5 v7 g7 (vals (putA 1 (x.take (j + 1)))) ∧ (∀ q, g7 = some q → B < q) ∧ Hid (Qh w W H 3 D L w7)) := by
          have hqs := lt_of_block HQ.out.2
          have hb := HQ.out.1
          have hba : Below w.heap.size w (wr.alloc (.cells #[.int .u8 Y] 5)) := hb.alloc hb.size _
          refine ⟨by rw [HU.out]; exact hs7, fun q hq => ?_, hba.grown hgr7 hba.size (fun k hk => by have := HSl.out.2 k hk; have := HB.out; omega), ?_⟩
          · rcases hg7 with e | ⟨k, e, hk⟩
            · exact HSl.out.2 q (by rw [← e, hq])
            · rw [e] at hq; cases hq; have := HB.out; omega
          · exact (hgr7.block w.heap.size (by simp; omega) (fun e => by have := HSl.out.2 _ e.symm; have := HB.out; omega)).trans ((Below.heap_alloc wr _ _ hqs).trans HQ.out.2)
        clear hs7 hg7 hgr7 HS3 HR3 HSl HQ
        go_wp2
        go_roundw
        case rel => exact ⟨j + 1, g7, by omega, by go_num, HF.out⟩
        case measure => simp [intOf]; omega
      · have : j = n := by omega
        subst this
        subst hv
        have HSl : Hid (Sl wr 5 (.slice ao j co) g (vals (putA 1 (x.take j))) ∧ (∀ q, g = some q → B < q)) := ⟨hsl, hg⟩
        have HT : Hid (x.take j = x) := List.take_of_length_le (by have := HX.out.1; omega)
        clear hsl hg
        obtain ⟨c0, c1, c2, c3, c4⟩ := HQ.out.five
        go_wp2
        go_ret
        have := HSl.out
        have hz := HL.out
        rw [HT.out] at this hz
        rw [← hz]
        rw [← hz] at this
        exact ⟨ao, co, g, rfl, this.1, fun k hk => by have := this.2 k hk; have := HB.out; omega, HQ.out.1⟩
  · by_cases h0 : C = 0 ∨ C = 2
    · rw [show wcL C x y = putA 2 y from by unfold wcL; rw [if_neg h3, if_pos h0]]
      rcases h0 with rfl | rfl
      all_goals
        clear h3
        go_enter Tryd.func28, Tryd.ntmps28
        go_wp2
        go_loopw [7, 11, 38] (fun o _ c wr => ∃ (j : Nat) (g : Option Nat), j ≤ n' ∧ c = .int .i64 j ∧ Sl wr 5 o g (vals (putA 2 (y.take j))) ∧ (∀ q, g = some q → B ≤ q) ∧ Below B w wr) (fun _ _ c _ => n' - (intOf c).toNat)
        case atStart => exact ⟨0, none, Nat.zero_le _, rfl, Sl.nil _ _, (by intro q hq; cases hq), (by rw [HB.out]; exact HB0.out.1)⟩
        case round =>
          obtain ⟨j, g, hj, rfl, hsl, hg, hbel⟩ := hrel
          have hL : (putA 2 (y.take j)).length = 2 * j := by rw [putA_len, List.length_take, HY.out.1, Nat.min_eq_left hj]
          obtain ⟨ao, co, hv, hl1, hl2, hl3⟩ := hsl.shape
          rw [vals_len] at hv hl1
          have HL : Hid ((putA 2 (y.take j)).length = 2 * j) := hL
          generalize hZ : (putA 2 (y.take j)).length = Z at *
          have HZ : Hid ((putA 2 (y.take j)).length = Z) := hZ
          clear hL hZ
          by_cases hlt : j < n'
          · obtain ⟨b, off, rfl, hc⟩ := (HY.out.2.2.old (by rw [← HB.out]; exact hbel)).at j (by rw [HY.out.1]; exact hlt)
            have HU : Hid (putA 2 (y.take (j + 1)) = putA 2 (y.take j) ++ (octs (y[j]?.getD 0) 2).reverse) := by
              show _ = _
              rw [take_snoc y j (by rw [HY.out.1]; exact hlt), putA_snoc]
            have HSl : Hid (Sl wr 5 (.slice ao Z co) g (vals (putA 2 (y.take j))) ∧ (∀ q, g = some q → B ≤ q) ∧ Below B w wr) := ⟨hv ▸ hsl, hg, hbel⟩
            have CP := HP.out (y[j]?.getD 0) wr
            have HO : Hid ((octs (y[j]?.getD 0) 2).reverse.length = 2) := by show _ = _; rw [List.length_reverse, octs_len]
            clear hsl hg hbel hl2 hl3
            subst hv
            generalize y[j]?.getD 0 = z at *
            go_wp2_with fail
            refine CP.mono ?_
            clear CP
            rintro e w3 ⟨a3, c3, rfl, r3, z3, b3⟩
            have HR3 : Hid (Row w3 a3 (octs z 2).reverse ∧ (a3 = none → c3 = 0) ∧ Below wr.heap.size wr w3 ∧ Sl w3 5 (.slice ao Z co) g (vals (putA 2 (y.take j)))) := ⟨r3, z3, b3, HSl.out.1.same fun q hq => b3.block q (HSl.out.1.lt hq)⟩
            clear r3 z3 b3
            go_wp2_with (at_builtin; refine wpList_more rfl _ _ rfl (.slice ao Z co) g (putA 2 (y.take j)) rfl HR3.out.2.2.2 a3 2 c3 (octs z 2).reverse rfl HR3.out.2.1 HO.out HR3.out.1 (by have := HL.out; have := HZ.out; omega) ?_)
            intro v7 w7 g7 hs7 hg7 hgr7
            have HF : Hid _ := more_step HB.out HSl.out.2.2 HR3.out.2.2.1 HSl.out.2.1 hs7 hg7 hgr7 HU.out
            clear hs7 hg7 hgr7 HR3 HSl
            go_wp2
            go_roundw
            case rel => exact ⟨j + 1, g7, by omega, by go_num, HF.out⟩
            case measure => simp [intOf]; omega
          · have : j = n' := by omega
            subst this
            subst hv
            have HSl : Hid (Sl wr 5 (.slice ao Z co) g (vals (putA 2 (y.take j))) ∧ (∀ q, g = some q → B ≤ q) ∧ Below B w wr) := ⟨hsl, hg, hbel⟩
            have HT : Hid (y.take j = y) := List.take_of_length_le (by have := HY.out.1; omega)
            clear hsl hg hbel
            go_wp2
            go_ret
            have := HSl.out
            have hz := HZ.out
            rw [HT.out] at this hz
            rw [← hz] at this ⊢
            rw [HB.out] at this
            exact ⟨ao, co, g, rfl, this.1, this.2.1, this.2.2⟩
    · rw [show wcL C x y = [] from by unfold wcL; rw [if_neg h3, if_neg h0]]
      have k3 : (C == 3) = false := by simpa using h3
      have k0 : (C == 0) = false := by simp; omega
      have k2 : (C == 2) = false := by simp; omega
      clear h3 h0
      go_enter Tryd.func28, Tryd.ntmps28
      go_wp2
      go_ret
      exact newS_nil HB0.out.1
set_option maxHeartbeats 1600000 in
theorem hwrites_walk (W H C D : Int) (L : Bool) (a : Option Addr) (n cap : Nat) (a' : Option Addr) (n' cap' : Nat) (w : World) (ht : Tab w) (_ : HdW W H C D) (ha : IArg w a n cap) (ha' : IArg w a' n' cap') :
    Calls Tryd.prog 7 #[HdV W H C D L, .slice a n cap, .slice a' n' cap'] w fun e w' => e = .returned (.bool true) ∧ Below w.heap.size w w' := by
  obtain ⟨x, nx, lx, kx, zx, rx⟩ := ha
  obtain ⟨y, ny, ly, ky, zy, ry⟩ := ha'
  have HT : Hid (Tab w) := ht
  have hX : NumsIn w a n x := ⟨nx, by omega, rx⟩
  have hY : NumsIn w a' n' y := ⟨ny, by omega, ry⟩
  have HC1 : Hid (∀ w1, Qh w W H C D L w1 → Calls Tryd.prog 27 #[HdV W H C D L, .slice a n cap, .slice a' n' cap'] w1 fun e w' => ∃ a1 c1, e = .returned (.slice a1 (wcL C x y).length c1) ∧ Hid (Qh w W H C D L w' ∧ Row w' a1 (wcL C x y)) ∧ Five w' w.heap.size W H C D L) := fun w1 h => (wclear_any W H C D L a n cap a' n' cap' x y w1 (hX.old h.1) (hY.old h.1)).mono fun _ _ ⟨a1, c1, g1, e1, e2, e3, e4⟩ => ⟨a1, c1, e1, ⟨h.old e4, e2.row rfl⟩, (h.old e4).five⟩
  have HC2 : Hid (∀ w1 a1, Qh w W H C D L w1 ∧ Row w1 a1 (wcL C x y) → Calls Tryd.prog 28 #[HdV W H C D L, .slice a n cap, .slice a' n' cap'] w1 fun e w' => ∃ a2 c2, e = .returned (.slice a2 (wcL C x y).length c2) ∧ Hid (Qh w W H C D L w' ∧ Row w' a1 (wcL C x y) ∧ Row w' a2 (wcL C x y)) ∧ Five w' w.heap.size W H C D L) := fun w1 a1 h => (rwclear_any W H C D L a n cap a' n' cap' x y w1 (hX.old h.1.1) (hY.old h.1.1)).mono fun _ _ ⟨a2, c2, g1, e1, e2, e3, e4⟩ => ⟨a2, c2, e1, ⟨h.1.old e4, h.2.old e4, e2.row rfl⟩, (h.1.old e4).five⟩
  clear ht hX hY nx lx kx zx rx ny ly ky zy ry
  obtain ⟨w0, hw0⟩ : ∃ w0, w0 = w.alloc (.cells #[.int .i64 W, .int .i64 H, .int .i64 C, .int .i64 D, .bool L] 23) := ⟨_, rfl⟩
  have HB0 : Hid (Qh w W H C D L w0) := by
    show Qh _ _ _ _ _ _ _
    rw [hw0]
    exact Qh.box ..
  have F := fixed_any w0 (HT.out.old HB0.out.1)
  generalize wcL C x y = R at *
  unfold HdV at *
  go_enter Tryd.func7, Tryd.ntmps7
  go_wp2_with fail
  rw [← hw0]
  refine F.mono ?_
  clear F hw0
  rintro e w1 ⟨rfl, hb1⟩
  have HB1 : Hid (∀ n, Qh w W H C D L (w1.drewN n)) := fun n => (HB0.out.old hb1).drewN n
  obtain ⟨g0, g1, g2, g3, g4⟩ := (HB0.out.old hb1).five
  clear hb1 HB0
  unfold Five at *
  go_wp2_with fail
  go_region_held3 (fun u => u.cell? ⟨w.heap.size, 0, none⟩ = some (.int .i64 W) ∧ u.cell? ⟨w.heap.size, 1, none⟩ = some (.int .i64 H) ∧ u.cell? ⟨w.heap.size, 2, none⟩ = some (.int .i64 C) ∧ u.cell? ⟨w.heap.size, 3, none⟩ = some (.int .i64 D) ∧ u.cell? ⟨w.heap.size, 4, none⟩ = some (.bool L)) (first | go_keep | exact ⟨by assumption, by assumption, by assumption, by assumption, by assumption⟩) (first
    | (go_at_call 18; refine Calls.mono (same_any a1 a2 R.length c1 c2 R _ rfl hq3.out.2.1 hq3.out.2.2) ?_; rintro e w4 ⟨rfl, hw4⟩; subst hw4)
    | (go_at_call 28; refine Calls.mono (HC2.out _ a1 hq2.out) ?_; rintro e w3 ⟨a2, c2, rfl, hq3, l0, l1, l2, l3, l4⟩)
    | (go_at_call 27; refine Calls.mono (HC1.out _ (HB1.out _)) ?_; rintro e w2 ⟨a1, c1, rfl, hq2, k0, k1, k2, k3, k4⟩)
    | fail)
  all_goals
    go_wp2
    go_ret
    exact ⟨rfl, hq3.out.1.1⟩
end Go.Proofs.YticdpibaojhpiaaDoor
