/- A table of colours is read: the program's ReadTints. -/
import Derived.Test.YticdpibaojhpiaaDoorHdK
import Derived.Deep.RegionHeld3
import Derived.StillTail
namespace Go.Proofs.YticdpibaojhpiaaDoor
open Go.RowKit
abbrev tnOk (C D n : Int) : Prop := ((C = 2 ∨ C = 6) ∧ 1 ≤ n ∧ n ≤ 256) ∨ (C = 3 ∧ 1 ≤ n ∧ n ≤ 2 ^ D.toNat)
set_option maxHeartbeats 800000 in
theorem mayHave_any (W H C D : Int) (L : Bool) (n : Int) (w : World) (hD : 1 ≤ D ∧ D ≤ 16) : Calls Tryd.prog 36 #[HdV W H C D L, .int .i64 n] w fun e w' => e = .returned (.bool (decide (tnOk C D n))) ∧ Below w.heap.size w w' := by
  have HB0 : Hid (Qh w W H C D L _) := Qh.box w W H C D L
  obtain ⟨P, hP⟩ : ∃ P : Int, P = 2 ^ D.toNat := ⟨_, rfl⟩
  have hsh : wrap64 (2 ^ D.toNat) = P := by rw [hP]; exact shl_D hD
  unfold HdV
  by_cases h1 : 1 ≤ n
  · rcases (show C = 2 ∨ C = 6 ∨ C = 3 ∨ (C ≠ 2 ∧ C ≠ 6 ∧ C ≠ 3) by omega) with rfl | rfl | rfl | ⟨k2, k6, k3⟩
    · by_cases h2 : n ≤ 256
      · rw [decide_eq_true (show tnOk 2 D n from .inl ⟨.inl rfl, h1, h2⟩)]
        go_enter Tryd.func36, Tryd.ntmps36
        go_wp2
        go_ret
        exact ⟨rfl, HB0.out.1⟩
      · rw [decide_eq_false (show ¬ tnOk 2 D n from fun h => by unfold tnOk at h; omega)]
        go_enter Tryd.func36, Tryd.ntmps36
        go_wp2
        go_ret
        exact ⟨rfl, HB0.out.1⟩
    · by_cases h2 : n ≤ 256
      · rw [decide_eq_true (show tnOk 6 D n from .inl ⟨.inr rfl, h1, h2⟩)]
        go_enter Tryd.func36, Tryd.ntmps36
        go_wp2
        go_ret
        exact ⟨rfl, HB0.out.1⟩
      · rw [decide_eq_false (show ¬ tnOk 6 D n from fun h => by unfold tnOk at h; omega)]
        go_enter Tryd.func36, Tryd.ntmps36
        go_wp2
        go_ret
        exact ⟨rfl, HB0.out.1⟩
    · by_cases h2 : n ≤ P
      · rw [decide_eq_true (show tnOk 3 D n from .inr ⟨rfl, h1, by rw [← hP]; exact h2⟩)]
        clear hP
        go_enter Tryd.func36, Tryd.ntmps36
        go_wp2
        go_ret
        exact ⟨rfl, HB0.out.1⟩
      · rw [decide_eq_false (show ¬ tnOk 3 D n from fun h => by unfold tnOk at h; rw [← hP] at h; omega)]
        have h2d : decide (n ≤ P) = false := decide_eq_false h2
        clear hP
        go_enter Tryd.func36, Tryd.ntmps36
        go_wp2
        go_ret
        exact ⟨rfl, HB0.out.1⟩
    · rw [decide_eq_false (show ¬ tnOk C D n from fun h => by unfold tnOk at h; omega)]
      have e2 : (C == 2) = false := by simpa using k2
      have e6 : (C == 6) = false := by simpa using k6
      have e3 : (C == 3) = false := by simpa using k3
      clear hP
      go_enter Tryd.func36, Tryd.ntmps36
      go_wp2
      go_ret
      exact ⟨rfl, HB0.out.1⟩
  · rw [decide_eq_false (show ¬ tnOk C D n from fun h => by unfold tnOk at h; omega)]
    have hh : decide (1 ≤ n) = false := decide_eq_false h1
    clear hP
    rcases (show C = 2 ∨ C = 6 ∨ C = 3 ∨ (C ≠ 2 ∧ C ≠ 6 ∧ C ≠ 3) by omega) with rfl | rfl | rfl | ⟨k2, k6, k3⟩
    · go_enter Tryd.func36, Tryd.ntmps36
      go_wp2
      go_ret
      exact ⟨rfl, HB0.out.1⟩
    · go_enter Tryd.func36, Tryd.ntmps36
      go_wp2
      go_ret
      exact ⟨rfl, HB0.out.1⟩
    · go_enter Tryd.func36, Tryd.ntmps36
      go_wp2
      go_ret
      exact ⟨rfl, HB0.out.1⟩
    · have e2 : (C == 2) = false := by simpa using k2
      have e6 : (C == 6) = false := by simpa using k6
      have e3 : (C == 3) = false := by simpa using k3
      go_enter Tryd.func36, Tryd.ntmps36
      go_wp2
      go_ret
      exact ⟨rfl, HB0.out.1⟩
def TtPost (w : World) (n : Nat) (R : List Int) (er : Int) (e : Ending) (w' : World) : Prop := ∃ a c, e = .returned (.tuple #[.slice a n c, .int .i64 er]) ∧ Row w' a R ∧ Below w.heap.size w w'
theorem ttPost_nil {w w' : World} {er : Int} (hb : Below w.heap.size w w') : TtPost w 0 [] er (.returned (.tuple #[.slice none 0 0, .int .i64 er])) w' := ⟨none, 0, rfl, .inl rfl, hb⟩
theorem Tryd.info59 : (Tryd.prog.info? 59).map (fun i => (i.zero, i.size, i.bytes)) = some (some (.agg #[.int .u8 0, .int .u8 0, .int .u8 0]), 3, 3) := by kernel_rfl
theorem made_tints (m : Nat) : (madeCells #[Value.int .u8 0, Value.int .u8 0, Value.int .u8 0] (m * 3)).toList = vals (List.replicate (3 * m) 0) := by
  apply List.ext_getElem?
  intro i
  by_cases h : i < m * 3
  · have h' : i < 3 * m := by omega
    have hz : ∀ k : Nat, k < 3 → (#[Value.int .u8 0, Value.int .u8 0, Value.int .u8 0] : Array Value)[k]! = Value.int .u8 0 := by
      intro k hk
      match k, hk with
      | 0, _ => rfl
      | 1, _ => rfl
      | 2, _ => rfl
    have e : (madeCells #[Value.int .u8 0, Value.int .u8 0, Value.int .u8 0] (m * 3)).toList[i]? = some (Value.int .u8 0) := by
      simp only [madeCells, Array.toList_map, List.getElem?_map, Array.toList_range, List.getElem?_range h, Option.map_some]
      exact congrArg some (hz (i % 3) (Nat.mod_lt _ (by omega)))
    rw [e]
    simp [vals, h']
  · rw [List.getElem?_eq_none (by simp [madeCells]; omega), List.getElem?_eq_none (by simp [vals]; omega)]
/-- The first j colours are there. -/
def tnF (b : List Int) (m j : Nat) : List Int := b.take (3 * j) ++ List.replicate (3 * m - 3 * j) 0
theorem tnF_len {b : List Int} {m j : Nat} (hb : b.length = 3 * m) (hj : j ≤ m) : (tnF b m j).length = 3 * m := by simp [tnF, hb]; omega
theorem tnF_step {b : List Int} {m j : Nat} (hb : b.length = 3 * m) (hj : j < m) : (((tnF b m j).set (j * 3) (b[3 * j]?.getD 0)).set (j * 3 + 1) (b[3 * j + 1]?.getD 0)).set (j * 3 + 2) (b[3 * j + 2]?.getD 0) = tnF b m (j + 1) := by
  have h1 : b.take (3 * (j + 1)) = b.take (3 * j) ++ [b[3 * j]?.getD 0, b[3 * j + 1]?.getD 0, b[3 * j + 2]?.getD 0] := by
    rw [show 3 * (j + 1) = 3 * j + 1 + 1 + 1 by omega, take_snoc b (3 * j + 1 + 1) (by omega), take_snoc b (3 * j + 1) (by omega), take_snoc b (3 * j) (by omega)]
    simp
  have h2 : List.replicate (3 * m - 3 * j) (0 : Int) = 0 :: 0 :: 0 :: List.replicate (3 * m - 3 * (j + 1)) 0 := by
    rw [show 3 * m - 3 * j = (3 * m - 3 * (j + 1)) + 1 + 1 + 1 by omega, List.replicate_succ, List.replicate_succ, List.replicate_succ]
  have hl : (b.take (3 * j)).length = 3 * j := by rw [List.length_take]; omega
  unfold tnF
  rw [h1, h2, List.append_assoc]
  generalize b.take (3 * j) = l at *
  rw [List.set_append_right _ _ (by omega), show j * 3 - l.length = 0 by omega, List.set_cons_zero, List.set_append_right _ _ (by omega), show j * 3 + 1 - l.length = 0 + 1 by omega, List.set_cons_succ, List.set_cons_zero, List.set_append_right _ _ (by omega), show j * 3 + 2 - l.length = 0 + 1 + 1 by omega, List.set_cons_succ, List.set_cons_succ, List.set_cons_zero]
  rfl
theorem tn_stored {w wr : World} {B g m j : Nat} {b : List Int} (hb : b.length = 3 * m) (hj : j < m) (hown : wr.ownsRow B 59 3 (.slice (some ⟨g, 0, none⟩) m m) m (vals (tnF b m j))) (hbel : Below B w wr) (hw : B ≤ w.heap.size) {x y z : Int} (hx : x = b[3 * j]?.getD 0) (hy : y = b[3 * j + 1]?.getD 0) (hz : z = b[3 * j + 2]?.getD 0) :
    (((wr.setCell ⟨g, j * 3, none⟩ (.int .u8 x)).setCell ⟨g, j * 3 + 1, none⟩ (.int .u8 y)).setCell ⟨g, j * 3 + 2, none⟩ (.int .u8 z)).ownsRow B 59 3 (.slice (some ⟨g, 0, none⟩) m m) m (vals (tnF b m (j + 1))) ∧ Below B w (((wr.setCell ⟨g, j * 3, none⟩ (.int .u8 x)).setCell ⟨g, j * 3 + 1, none⟩ (.int .u8 y)).setCell ⟨g, j * 3 + 2, none⟩ (.int .u8 z)) := by
  have k1 := hown.stored (j * 3) (.int .u8 x)
  have k2 := k1.1.stored (j * 3 + 1) (.int .u8 y)
  have k3 := k2.1.stored (j * 3 + 2) (.int .u8 z)
  have hs := hbel.size
  have b1 := hbel.grown k1.2 (by omega) fun k hk => (hown.lt k hk).1
  have b2 := b1.grown k2.2 (by have := b1.size; omega) fun k hk => (k1.1.lt k hk).1
  have b3 := b2.grown k3.2 (by have := b2.size; omega) fun k hk => (k2.1.lt k hk).1
  have e : (((vals (tnF b m j)).set (j * 3) (.int .u8 x)).set (j * 3 + 1) (.int .u8 y)).set (j * 3 + 2) (.int .u8 z) = vals (tnF b m (j + 1)) := by
    rw [← tnF_step hb hj, hx, hy, hz]; simp [vals, List.map_set]
  rw [e] at k3
  exact ⟨k3.1, b3⟩
set_option maxHeartbeats 3200000 in
theorem rtints_yes (W H C D : Int) (L : Bool) (a : Option Addr) (m cap : Nat) (b : List Int) (w : World) (ht : Tab w) (hn : b.length = 3 * m) (hb : Bytes b) (hr : Row w a b) (hm : mayN W H C D) (ho : tnOk C D m) (hms : m ≤ 65536) :
    Calls Tryd.prog 19 #[HdV W H C D L, .slice a (3 * m) cap] w fun e w' => TtPost w m b 0 e w' := by
  have HB0 : Hid (Qh w W H C D L _) := Qh.box w W H C D L
  have CM := may_any W H C D L _ (ht.old HB0.out.1)
  rw [decide_eq_true hm] at CM
  have hbd := isPr_bd hm.2.2.1
  have HH : Hid (∀ w1, Calls Tryd.prog 36 #[HdV W H C D L, .int .i64 m] w1 fun e w' => e = .returned (.bool true) ∧ Below w1.heap.size w1 w') := fun w1 => by
    have := mayHave_any W H C D L m w1 (by omega)
    rw [decide_eq_true ho] at this
    exact this
  have HX : Hid (b.length = 3 * m ∧ Bytes b ∧ Row w a b) := ⟨hn, hb, hr⟩
  have hrem : ((3 * m : Nat) : Int).tmod 3 = 0 := by rw [Int.tmod_eq_emod_of_nonneg (by omega)]; omega
  have hdiv : ((3 * m : Nat) : Int).tdiv 3 = (m : Int) := by rw [Int.tdiv_eq_ediv_of_nonneg (by omega)]; omega
  obtain ⟨i0, hi, hz0, hz1, hz2⟩ := info_parts Tryd.info59
  obtain ⟨B, hB⟩ : ∃ B, B = w.heap.size := ⟨_, rfl⟩
  have HB : Hid (B = w.heap.size) := hB
  clear ht hn hb hr hm ho hB
  unfold HdV at *
  go_enter Tryd.func19, Tryd.ntmps19
  go_wp2_with fail
  refine CM.mono ?_
  clear CM
  rintro e w1 ⟨rfl, hb1⟩
  have HQ1 : Hid (Qh w W H C D L w1) := HB0.out.old hb1
  obtain ⟨c0, c1, c2, c3, c4⟩ := HQ1.out.five
  clear hb1 HB0
  have CH := HH.out w1
  go_wp2_with fail
  refine CH.mono ?_
  clear CH HH
  rintro e w2 ⟨rfl, hb2⟩
  have HB2 : Hid (Below w.heap.size w w2) := HQ1.out.1.trans (hb2.mono HQ1.out.1.size)
  clear hb2 HQ1 c0 c1 c2 c3 c4
  go_wp2_with (at_make; refine wpList_make_full _ rfl _ _ 35 rfl B 59 i0 (.agg #[.int .u8 0, .int .u8 0, .int .u8 0]) 3 Tryd.underlying35 hi hz0 hz1 .i64 .i64 _ _ m rfl rfl rfl rfl ?b2 ?b3 ?b4 ?_)
  case b2 => rw [hz2]; omega
  case b3 => unfold maxLen; omega
  case b4 => rw [HB.out]; exact HB2.out.size
  intro w3 hown hgrow
  rw [made_tints] at hown
  have hbel : Below B w w3 := by rw [HB.out]; exact HB2.out.grown hgrow HB2.out.size (fun k hk => by cases hk)
  obtain ⟨g, hg⟩ : ∃ g, g = w2.heap.size := ⟨_, rfl⟩
  rw [← hg]
  rw [← hg] at hown
  have HBg : Hid (w.heap.size ≤ g) := by show _ ≤ _; rw [hg]; exact HB2.out.size
  clear hg hgrow HB2
  go_wp2
  go_loopw [7, 8, 32] (fun _ _ c wr => ∃ j : Nat, j ≤ m ∧ c = .int .i64 j ∧ wr.ownsRow B 59 3 (.slice (some ⟨g, 0, none⟩) m m) m (vals (tnF b m j)) ∧ Below B w wr) (fun _ _ c _ => m - (intOf c).toNat)
  case atStart => exact ⟨0, Nat.zero_le _, rfl, by rw [show tnF b m 0 = List.replicate (3 * m) 0 from by simp [tnF]]; exact hown, hbel⟩
  case round =>
    clear hown hbel
    obtain ⟨j, hj, rfl, hown, hbel⟩ := hrel
    by_cases hlt : j < m
    · have hrw : Row wr a b := HX.out.2.2.old (by rw [← HB.out]; exact hbel)
      obtain ⟨bb, off, rfl, hc0⟩ := hrw.atH (3 * j) (by rw [HX.out.1]; omega)
      obtain ⟨b', o', e', hc1⟩ := hrw.atH (3 * j + 1) (by rw [HX.out.1]; omega)
      simp only [Option.some.injEq, Addr.mk.injEq] at e'
      obtain ⟨rfl, rfl, -⟩ := e'
      obtain ⟨b', o', e', hc2⟩ := hrw.atH (3 * j + 2) (by rw [HX.out.1]; omega)
      simp only [Option.some.injEq, Addr.mk.injEq] at e'
      obtain ⟨rfl, rfl, -⟩ := e'
      have hbg : bb ≠ g := by
        rcases HX.out.2.2 with e | ⟨b1, o1, e1, h1⟩
        · have := HX.out.1; rw [e] at this; simp at this; omega
        · simp only [Option.some.injEq, Addr.mk.injEq] at e1
          have := cell_lt (h1 0 (by rw [HX.out.1]; omega))
          have hg2 := HBg.out
          obtain ⟨rfl, _⟩ := e1
          intro he
          subst he
          simp only at this
          omega
      have hL := tnF_len HX.out.1 hj
      have cl (q : Nat) (hq : q < 3) : ∃ v, wr.cell? ⟨g, j * 3 + q, none⟩ = some v := by
        rw [hown.cellAt (j * 3 + q) (by omega)]
        exact ⟨_, List.getElem?_eq_getElem (by rw [vals_len, hL]; omega)⟩
      obtain ⟨v0, s0⟩ := cl 0 (by omega)
      obtain ⟨v1, s1⟩ := cl 1 (by omega)
      obtain ⟨v2, s2⟩ := cl 2 (by omega)
      rw [Nat.add_zero] at s0
      have f0 := hown.frozenAt (j * 3)
      have f1 := hown.frozenAt (j * 3 + 1)
      have f2 := hown.frozenAt (j * 3 + 2)
      obtain ⟨x, hx⟩ : ∃ x, x = b[3 * j]?.getD 0 := ⟨_, rfl⟩
      obtain ⟨y, hy⟩ : ∃ y, y = b[3 * j + 1]?.getD 0 := ⟨_, rfl⟩
      obtain ⟨z, hz⟩ : ∃ z, z = b[3 * j + 2]?.getD 0 := ⟨_, rfl⟩
      have HR : Hid _ := tn_stored (wr := wr.drew) HX.out.1 hlt hown ⟨hbel.os, hbel.tape, hbel.output, hbel.size, hbel.block⟩ (by rw [HB.out]; exact Nat.le_refl _) hx hy hz
      rw [← hx] at hc0
      rw [← hy] at hc1
      rw [← hz] at hc2
      clear hown hbel hrw hL cl hx hy hz
      obtain ⟨J3, hJ3⟩ : ∃ J3, J3 = 3 * j := ⟨_, rfl⟩
      rw [← hJ3] at hc0 hc1 hc2
      have hJi : (j : Int) * 3 = (J3 : Int) := by omega
      have hJb : J3 + 2 < 3 * m := by omega
      have hJa : J3 + 1 < 3 * m := by omega
      have hJz : J3 < 3 * m := by omega
      have hKa : (J3 : Int) + 1 < 3 * (m : Int) := by omega
      have hKb : (J3 : Int) + 2 < 3 * (m : Int) := by omega
      have hKz : (J3 : Int) < 3 * (m : Int) := by omega
      have hWa : IntKind.i64.wrap ((J3 : Int) + 1) = (J3 : Int) + 1 := by rw [IntKind.wrap_i64]; omega
      have hWb : IntKind.i64.wrap ((J3 : Int) + 2) = (J3 : Int) + 2 := by rw [IntKind.wrap_i64]; omega
      have hTa : ((J3 : Int) + 1).toNat = J3 + 1 := by omega
      have hTb : ((J3 : Int) + 2).toNat = J3 + 2 := by omega
      have hNa : (0 : Int) ≤ (J3 : Int) + 1 := by omega
      have hNb : (0 : Int) ≤ (J3 : Int) + 2 := by omega
      have HJ3 : Hid (J3 = 3 * j) := hJ3
      clear hJ3
      go_wp2
      refine wp_region_still_tail 17 (by kernel_rfl) (by kernel_rfl) ?_
      simp only [List.take_succ_cons, List.take_zero, List.drop_succ_cons, List.drop_zero]
      rw [show ({ wr with drawn := wr.drawn + 1 } : World) = wr.drew from rfl]
      repeat still_step
      refine wpStill_nil ?_
      go_wp2
      go_roundw
      case rel => exact ⟨j + 1, by omega, by go_num, HR.out.1, HR.out.2⟩
      case measure => simp [intOf]; omega
    · obtain rfl : j = m := by omega
      have HF : Hid (TtPost w j b 0 (.returned (.tuple #[.slice (some ⟨g, 0, none⟩) j j, .int .i64 0])) wr) := by
        refine ⟨some ⟨g, 0, none⟩, j, rfl, ?_, by rw [← HB.out]; exact hbel⟩
        have e : tnF b j j = b := by unfold tnF; rw [List.take_of_length_le (by rw [HX.out.1]; exact Nat.le_refl _)]; simp
        rw [e] at hown
        refine .inr ⟨g, 0, rfl, fun i hi => ?_⟩
        rw [Nat.zero_add, hown.cellAt i (by rw [HX.out.1] at hi; omega), vals_at b i hi]
      clear hown hbel
      go_wp2
      go_ret2
      exact HF.out
/-- What ReadTints refuses. -/
abbrev ttOk (W H C D : Int) (b : List Int) : Prop := mayN W H C D ∧ b.length % 3 = 0 ∧ tnOk C D ((b.length / 3 : Nat) : Int)
def ttN (W H C D : Int) (b : List Int) : Nat := if ttOk W H C D b then b.length / 3 else 0
def ttL (W H C D : Int) (b : List Int) : List Int := if ttOk W H C D b then b else []
def ttE (W H C D : Int) (b : List Int) : Int := if mayN W H C D then (if ttOk W H C D b then 0 else 12) else 11
theorem tn_le {C D n : Int} (hD : D ≤ 16) (h : tnOk C D n) : n ≤ 65536 := by
  rcases h with ⟨_, _, h⟩ | ⟨_, _, h⟩
  · omega
  · have : (2 : Int) ^ D.toNat ≤ 65536 := by
      have hk : (2 : Nat) ^ D.toNat ≤ 2 ^ 16 := Nat.pow_le_pow_right (by omega) (by omega)
      have e : (2 : Int) ^ D.toNat = ((2 ^ D.toNat : Nat) : Int) := by rw [Int.natCast_pow]; rfl
      rw [e]; omega
    omega
set_option maxHeartbeats 1600000 in
theorem rtints_any (W H C D : Int) (L : Bool) (a : Option Addr) (n cap : Nat) (b : List Int) (w : World) (ht : Tab w) (hn : b.length = n) (hnb : n ≤ 140737488351232) (hb : Bytes b) (hr : Row w a b) :
    Calls Tryd.prog 19 #[HdV W H C D L, .slice a n cap] w fun e w' => TtPost w (ttN W H C D b) (ttL W H C D b) (ttE W H C D b) e w' := by
  by_cases hm : mayN W H C D
  · have hbd := isPr_bd hm.2.2.1
    by_cases ho : ttOk W H C D b
    · rw [ttN, ttL, ttE, if_pos ho, if_pos ho, if_pos hm, if_pos ho]
      obtain ⟨m, hm3⟩ : ∃ m, n = 3 * m := ⟨n / 3, by have := ho.2.1; omega⟩
      have hq : b.length / 3 = m := by omega
      rw [hq]
      subst hm3
      have h3 := ho.2.2
      rw [hq] at h3
      exact rtints_yes W H C D L a m cap b w ht hn hb hr hm h3 (by have := tn_le (by omega) h3; omega)
    · rw [ttN, ttL, ttE, if_neg ho, if_neg ho, if_pos hm, if_neg ho]
      have HB0 : Hid (Qh w W H C D L _) := Qh.box w W H C D L
      have CM := may_any W H C D L _ (ht.old HB0.out.1)
      rw [decide_eq_true hm] at CM
      have HH : Hid (∀ w1, Calls Tryd.prog 36 #[HdV W H C D L, .int .i64 ((n / 3 : Nat) : Int)] w1 fun e w' => e = .returned (.bool (decide (tnOk C D ((n / 3 : Nat) : Int)))) ∧ Below w1.heap.size w1 w') := fun w1 => mayHave_any W H C D L _ w1 (by omega)
      by_cases h3 : n % 3 = 0
      · have h4 : ¬ tnOk C D ((n / 3 : Nat) : Int) := fun k => ho ⟨hm, by rw [hn]; exact h3, by rw [hn]; exact k⟩
        rw [decide_eq_false h4] at HH
        have hrem : (n : Int).tmod 3 = 0 := by rw [Int.tmod_eq_emod_of_nonneg (by omega)]; omega
        have hdiv : (n : Int).tdiv 3 = ((n / 3 : Nat) : Int) := by rw [Int.tdiv_eq_ediv_of_nonneg (by omega)]; omega
        have hdiv2 : (n : Int) / 3 = ((n / 3 : Nat) : Int) := by omega
        have hrem2 : (n : Int) % 3 = 0 := by omega
        generalize ((n / 3 : Nat) : Int) = N3 at *
        clear ht hn hb hr hm ho h3 h4 hbd
        unfold HdV at *
        go_enter Tryd.func19, Tryd.ntmps19
        go_wp2_with fail
        refine CM.mono ?_
        clear CM
        rintro e w1 ⟨rfl, hb1⟩
        have HQ1 : Hid (Qh w W H C D L w1) := HB0.out.old hb1
        obtain ⟨c0, c1, c2, c3, c4⟩ := HQ1.out.five
        clear hb1 HB0
        have CH := HH.out w1
        go_wp2_with fail
        refine CH.mono ?_
        clear CH HH
        rintro e w2 ⟨rfl, hb2⟩
        have HB2 : Hid (Below w.heap.size w w2) := HQ1.out.1.trans (hb2.mono HQ1.out.1.size)
        clear hb2 HQ1 c0 c1 c2 c3 c4
        go_wp2
        go_ret2
        exact ttPost_nil HB2.out
      · have hrem : (n : Int).tmod 3 = ((n % 3 : Nat) : Int) := by rw [Int.tmod_eq_emod_of_nonneg (by omega)]; omega
        have hne : ((((n % 3 : Nat) : Int)) != 0) = true := by simp; omega
        have hne2 : ((((n % 3 : Nat) : Int)) == 0) = false := by simp; omega
        have hrem2 : (n : Int) % 3 = ((n % 3 : Nat) : Int) := by omega
        generalize ((n % 3 : Nat) : Int) = R3 at *
        clear ht hn hb hr hm ho h3 hbd HH
        unfold HdV at *
        go_enter Tryd.func19, Tryd.ntmps19
        go_wp2_with fail
        refine CM.mono ?_
        clear CM
        rintro e w1 ⟨rfl, hb1⟩
        have HQ1 : Hid (Qh w W H C D L w1) := HB0.out.old hb1
        clear hb1 HB0
        go_wp2
        go_ret2
        exact ttPost_nil HQ1.out.1
  · have ho : ¬ ttOk W H C D b := fun k => hm k.1
    rw [ttN, ttL, ttE, if_neg ho, if_neg ho, if_neg hm]
    have HB0 : Hid (Qh w W H C D L _) := Qh.box w W H C D L
    have CM := may_any W H C D L _ (ht.old HB0.out.1)
    rw [decide_eq_false hm] at CM
    clear ht hn hb hr hm ho
    unfold HdV at *
    go_enter Tryd.func19, Tryd.ntmps19
    go_wp2_with fail
    refine CM.mono ?_
    clear CM
    rintro e w1 ⟨rfl, hb1⟩
    have HQ1 : Hid (Qh w W H C D L w1) := HB0.out.old hb1
    clear hb1 HB0
    go_wp2
    go_ret2
    exact ttPost_nil HQ1.out.1
end Go.Proofs.YticdpibaojhpiaaDoor
