/- The document's Read. -/
import Derived.Test.YtinmkhdangknbaaTkS
import Derived.Test.YtinmkhdangknbaaTkQ
namespace Go.Proofs.Ytinmkhdangknbaa
open Go.RowKit
theorem cut_take (b : List Int) (m j k : Nat) (h : j + k ≤ m) : ((b.take m).drop j).take k = (b.drop j).take k := by
  rw [List.drop_take, List.take_take, Nat.min_eq_left (by omega)]
theorem row_cut {w : World} {bb off : Nat} {b : List Int} (hr : Row w (some ⟨bb, off, none⟩) b) (j k : Nat) (h : j + k ≤ b.length) : Row w (some ⟨bb, off + j, none⟩) ((b.drop j).take k) := by
  have hlen : ((b.drop j).take k).length = k := by rw [List.length_take, List.length_drop]; omega
  rcases hr with e | ⟨b2, o2, e, hcell⟩
  · subst e
    left
    simp
  · simp at e
    obtain ⟨rfl, rfl⟩ := e
    refine .inr ⟨_, _, rfl, fun i hi => ?_⟩
    rw [hlen] at hi
    have hc := hcell (j + i) (by omega)
    rw [show off + j + i = off + (j + i) by omega]
    rw [hc]
    have e : ((b.drop j).take k)[i]? = b[j + i]? := by rw [List.getElem?_take, if_pos hi, List.getElem?_drop]
    rw [e]
/-- What stands behind the document's Read of the parts: the token in its block. -/
def RtI (w : World) (F S : Int) (D : List Int) (v : Value) (wx : World) : Prop :=
  ∃ B a c, v = .pointer (some ⟨B, 0, none⟩) ∧ wx.heap[B]? = some (.cells #[.int .i64 F, .int .u32 S, .slice a D.length c] 25 (0, 0)) ∧ BOk wx a D.length c D ∧ (∀ x, a = some x → w.heap.size + 1 ≤ x.block) ∧ (wx.heap[w.heap.size]? = some (.cells #[.int .i64 0, .int .u32 0, .slice none 0 0] 25 (0, 0))) ∧ Below w.heap.size w wx
/-- What stands behind the append of the data. -/
structure RtP (w : World) (D : List Int) (a : Option Addr) (c : Nat) (g : Option Nat) (x : World) : Prop where
  sl : Sl x 5 (.slice a D.length c) g (vals D)
  fr : ∀ k, g = some k → w.heap.size + 1 ≤ k
  hz : (x.heap[w.heap.size]? = some (.cells #[.int .i64 0, .int .u32 0, .slice none 0 0] 25 (0, 0)))
  be : Below w.heap.size w x
theorem RtP.old {w x y : World} {D : List Int} {a : Option Addr} {c : Nat} {g : Option Nat} (h : RtP w D a c g x) (b : Below x.heap.size x y) : RtP w D a c g y := ⟨h.sl.same fun k hk => b.block k (h.sl.lt hk), h.fr, (b.block _ (lt_of_block h.hz)).trans h.hz, h.be.trans (b.mono h.be.size)⟩
theorem rt_more {w w2 u x : World} {D : List Int} {a : Option Addr} {c q : Nat} {g' : Option Nat} (hw : Below w.heap.size w w2) (hz : (w2.heap[w.heap.size]? = some (.cells #[.int .i64 0, .int .u32 0, .slice none 0 0] 25 (0, 0)))) (hu : Below w2.heap.size w2 u) (hq : w2.heap.size ≤ q) (s : Sl x 5 (.slice a D.length c) g' (vals D)) (hg : g' = some q ∨ ∃ k, g' = some k ∧ u.heap.size ≤ k) (gr : u.grownBy x (some q)) : RtP w D a c g' x ∧ Below w2.heap.size w2 x := by
  have hl := lt_of_block hz
  refine ⟨⟨s, ?_, ?_, ?_⟩, ?_⟩
  · intro k hk
    rcases hg with e | ⟨j, e, hj⟩
    · rw [e] at hk; cases hk; omega
    · rw [e] at hk; cases hk; have := hu.size; omega
  · exact (gr.block _ (Nat.lt_of_lt_of_le hl hu.size) (by simp; omega)).trans ((hu.block _ hl).trans hz)
  · exact (hw.trans (hu.mono hw.size)).grown gr (hw.trans (hu.mono hw.size)).size (fun k hk => by cases hk; omega)
  · exact hu.grown gr hu.size (fun k hk => by cases hk; omega)
theorem rt_fin {w w2 x : World} {F S : Int} {D : List Int} {a : Option Addr} {c tb n : Nat} {g : Option Nat} {zs : Array Value} (hnn : D.length = n) (h : RtP w D a c g x) (h2 : Below w2.heap.size w2 x) (hd : Bytes D) (hl : n ≤ 100000) (ht : x.heap[tb]? = some (.cells zs 25 (0, 0))) (hzs : zs.size = 3) (hn : ∀ k, g = some k → k ≠ tb) (hw : w.heap.size + 1 ≤ tb) (hw2 : w2.heap.size ≤ tb) : RtI w F S D (.pointer (some ⟨tb, 0, none⟩)) (x.setCells tb 0 (Array.toList #[.int .i64 F, .int .u32 S, .slice a n c])) ∧ Below w2.heap.size w2 (x.setCells tb 0 (Array.toList #[.int .i64 F, .int .u32 S, .slice a n c])) := by
  subst hnn
  have gs := grownBy_setCells tb (Array.toList #[Value.int .i64 F, .int .u32 S, .slice a D.length c]) 0 x
  obtain ⟨v0, v1, v2, rfl⟩ : ∃ v0 v1 v2, zs = #[v0, v1, v2] := by
    obtain ⟨l⟩ := zs
    match l, hzs with
    | [v0, v1, v2], _ => exact ⟨v0, v1, v2, rfl⟩
  have hb : BOk x a D.length c D := h.sl.bok rfl hd (by omega)
  refine ⟨⟨tb, a, c, rfl, set_three _ _ _ ht, hb.same fun y hy hne => gs.block _ (hb.2.2.2.2.2.lt y hy hne) ?_, ?_, (gs.block _ (lt_of_block h.hz) (by simp; omega)).trans h.hz, h.be.grown gs h.be.size (fun k hk => by cases hk; omega)⟩, h2.grown gs h2.size (fun k hk => by cases hk; exact hw2)⟩
  · intro e
    rcases h.sl with ⟨e1, _, _⟩ | ⟨b', off, cap, cur, e1, eg, _⟩
    · rw [hy] at e1; cases e1
    · rw [hy] at e1
      simp only [Value.slice.injEq, Option.some.injEq] at e1
      rw [e1.1] at e
      exact hn b' eg (by simpa using e)
  · intro y hy
    rcases h.sl with ⟨e1, _, _⟩ | ⟨b', off, cap, cur, e1, eg, _⟩
    · rw [hy] at e1; cases e1
    · rw [hy] at e1
      simp only [Value.slice.injEq, Option.some.injEq] at e1
      rw [e1.1]
      exact h.fr b' eg
theorem ne_of_grown {g5 : Option Nat} {q n tb : Nat} (h : g5 = some q ∨ ∃ k, g5 = some k ∧ n ≤ k) (h1 : q ≠ tb) (h2 : tb < n) : ∀ k, g5 = some k → k ≠ tb := by
  intro k hk
  rcases h with e | ⟨j, e, hj⟩
  · rw [e] at hk; cases hk; exact h1
  · rw [e] at hk; cases hk; omega
theorem keep_st {x : World} {tb bb off : Nat} {v : Value} (cs : List Value) (h : x.cell? ⟨bb, off, none⟩ = some v) (hn : bb ≠ tb) : (x.setCells tb 0 cs).cell? ⟨bb, off, none⟩ = some v :=
  (World.cell?_of_block (a := ⟨bb, off, none⟩) ((grownBy_setCells tb cs 0 x).block bb (cell_lt h) (by simpa using hn))).trans h
theorem keep3 {x : World} {tb bb off : Nat} {v : Value} (a b c : Value) (h : x.cell? ⟨bb, off, none⟩ = some v) (hn : bb ≠ tb) : (((x.setCell ⟨tb, 0, none⟩ a).setCell ⟨tb, 1, none⟩ b).setCell ⟨tb, 2, none⟩ c).cell? ⟨bb, off, none⟩ = some v := keep_st [a, b, c] h hn
theorem rt_new {w w2 x : World} {F S : Int} {D : List Int} {a : Option Addr} {c n : Nat} {g : Option Nat} (hnn : D.length = n) (h : RtP w D a c g x) (h2 : Below w2.heap.size w2 x) (hd : Bytes D) (hl : n ≤ 100000) : RtI w F S D (.pointer (some ⟨x.heap.size, 0, none⟩)) (x.alloc (.cells #[.int .i64 F, .int .u32 S, .slice a n c] 25)) ∧ Below w2.heap.size w2 (x.alloc (.cells #[.int .i64 F, .int .u32 S, .slice a n c] 25)) := by
  subst hnn
  have hA := below_allocQ x (.cells #[.int .i64 F, .int .u32 S, .slice a D.length c] 25)
  have hb : BOk x a D.length c D := h.sl.bok rfl hd (by omega)
  have hp := h.old hA
  refine ⟨⟨x.heap.size, a, c, rfl, heap_alloc_newT x _, hb.old hA, ?_, hp.hz, hp.be⟩, h2.trans (hA.mono h2.size)⟩
  intro y hy
  rcases h.sl with ⟨e1, _, _⟩ | ⟨b', off, cap, cur, e1, eg, _⟩
  · rw [hy] at e1; cases e1
  · rw [hy] at e1
    simp only [Value.slice.injEq, Option.some.injEq] at e1
    rw [e1.1]
    exact h.fr b' eg
set_option maxHeartbeats 12800000 in
theorem rread_any (a0 : Option Addr) (n0 cap0 : Nat) (b : List Int) (w : World) (hn : b.length = n0) (hnil : a0 = none → cap0 = 0) (hl : n0 ≤ 100000) (hc0 : n0 ≤ cap0) (hcm : cap0 ≤ maxLen) (hb : Bytes b) (hr : Row w a0 b) : Calls Try.prog 15 #[.slice a0 n0 cap0] w fun e w' => PaT w (rdOk b) (rdE b) (flT (tbT b)) (suT (tbT b)) (daT (tbT b)) e w' := by
  have hA : Below w.heap.size w (w.alloc (.cells #[.int .i64 0, .int .u32 0, .slice none 0 0] 25)) := (Below.refl _ _).alloc (Nat.le_refl _) _
  have HZ0 : Hid ((w.alloc (.cells #[.int .i64 0, .int .u32 0, .slice none 0 0] 25)).heap[w.heap.size]? = some (.cells #[.int .i64 0, .int .u32 0, .slice none 0 0] 25 (0, 0))) := heap_alloc_newT w _
  have HA : Hid (Below w.heap.size w (w.alloc (.cells #[.int .i64 0, .int .u32 0, .slice none 0 0] 25))) := hA
  by_cases h9 : n0 < 13
  · have h9i : (n0 : Int) - 4 < 9 := by omega
    have HF : Hid (PaT w (rdOk b) (rdE b) (flT (tbT b)) (suT (tbT b)) (daT (tbT b)) (.returned (.tuple #[.agg #[.int .i64 0, .int .u32 0, .slice none 0 0], .int .i64 2])) ((w.alloc (.cells #[.int .i64 0, .int .u32 0, .slice none 0 0] 25)).setCells w.heap.size 0 (Array.toList #[.int .i64 0, .int .u32 0, .slice none 0 0]))) := by
      have e1 : rdOk b = false := by unfold rdOk; rw [hn, decide_eq_false (by omega)]; rfl
      have e2 : rdE b = 2 := by unfold rdE; rw [hn, if_pos h9]
      rw [e1, e2]
      exact fin_bad 2 rfl hA
    obtain ⟨w1, hw1⟩ : ∃ w1, (w.alloc (.cells #[.int .i64 0, .int .u32 0, .slice none 0 0] 25)) = w1 := ⟨_, rfl⟩
    rw [hw1] at HF HZ0
    clear hA HA hn hnil hl hc0 hcm hb hr
    go_enter Try.func15, Try.ntmps15
    go_upto_region 1 with fail
    clear hw1
    have HX : Hid ((w1.setCells w.heap.size 0 (Array.toList #[.int .i64 0, .int .u32 0, .slice none 0 0])).heap[w.heap.size]? = some (.cells #[.int .i64 0, .int .u32 0, .slice none 0 0] 25 (0, 0))) := set_three _ _ _ HZ0.out
    obtain ⟨z0, z1, z2⟩ := three_cells HZ0.out
    obtain ⟨y0, y1, y2⟩ := fz_three HZ0.out
    go_wp2
    refine bodyPost_ret (v := .tuple #[.agg #[.int .i64 0, .int .u32 0, .slice none 0 0], .int .i64 2]) ?_ rfl HF.out
    rw [results_ct rfl]
    simp [asAddr]
    have L0 := load_tok HX.out
    refine (congrArg (fun r => Result.andThen r _) L0).trans ?_
    rfl
  · obtain ⟨bb, off, rfl⟩ : ∃ bb off, a0 = some ⟨bb, off, none⟩ := by
      rcases hr with e | ⟨bb, off, e, _⟩
      · rw [e] at hn; simp at hn; omega
      · exact ⟨bb, off, e⟩
    obtain ⟨m, hm⟩ : ∃ m, n0 = m + 4 := ⟨n0 - 4, by omega⟩
    subst hm
    have hm5 : 9 ≤ m := by omega
    unfold maxLen at hcm
    obtain ⟨w1, hw1⟩ : ∃ w1, (w.alloc (.cells #[.int .i64 0, .int .u32 0, .slice none 0 0] 25)) = w1 := ⟨_, rfl⟩
    rw [hw1] at HZ0 HA hA
    have etx : tbT b = b.take m := by unfold tbT; rw [hn]; rfl
    have hr1 : Row w1.drew (some ⟨bb, off, none⟩) b := (hr.old hA).old (below_drewQ w1)
    have HT : Hid (tbT b = b.take m ∧ Bytes b ∧ b.length = m + 4 ∧ Row w1.drew (some ⟨bb, off, none⟩) b ∧ Below w.heap.size w w1.drew ∧ (w1.drew.heap[w.heap.size]? = some (.cells #[.int .i64 0, .int .u32 0, .slice none 0 0] 25 (0, 0)))) := ⟨etx, hb, hn, hr1, hA.trans ((below_drewQ w1).mono hA.size), HZ0.out⟩
    have C1 := rof_any (some ⟨bb, off, none⟩) m cap0 (b.take m) w1.drew (by rw [List.length_take]; omega) (by omega) (hb.take m) (hr1.take m)
    have hrd : Row w1.drew (some ⟨bb, off + m, none⟩) (b.drop m) := by
      have := row_cut hr1 m 4 (by omega)
      rwa [List.take_of_length_le (by rw [List.length_drop]; omega)] at this
    have C2 := rturn_any (some ⟨bb, off + m, none⟩) 4 (cap0 - m) (b.drop m) w1.drew (by rw [List.length_drop]; omega) (by omega) hrd
    have esm : smT b = litN (b.drop m) := by unfold smT; rw [hn]; rfl
    have hsb := litN_bound (hb.drop m)
    rw [List.length_drop, hn, show m + 4 - m = 4 by omega] at hsb
    obtain ⟨S4, hS⟩ : ∃ S, litN (b.drop m) = S := ⟨_, rfl⟩
    rw [hS] at esm hsb
    have hS4 : 0 ≤ S4 ∧ S4 < 4294967296 := by simpa using hsb
    obtain ⟨X, hX⟩ : ∃ X, (crcM (BitVec.ofNat 32 0) (b.take m)).toNat = X := ⟨_, rfl⟩
    have hXlt : X < 4294967296 := by rw [← hX]; exact (crcM (BitVec.ofNat 32 0) (b.take m)).isLt
    have ecr : crT b = (X : Int) := by unfold crT; rw [etx, hX]
    rw [hX] at C1
    have HC1 : Hid _ := C1
    have HC2 : Hid _ := C2
    have HNm : Hid (∀ u (a : Option Addr) (c : Nat), Row u a (b.drop m).reverse → Calls Try.prog 37 #[.slice a 4 c] u fun e w' => e = .returned (.int .i64 S4) ∧ w' = u) := fun u a c hu => by
      have := rnum_any a 4 c (b.drop m).reverse u (by rw [List.length_reverse, List.length_drop]; omega) (by omega) (fun z hz => hb.drop m z (by simpa using hz)) hu
      rwa [bigN_reverse, hS] at this
    have HRl : Hid ((b.drop m).reverse.length = 4) := by show _ = _; rw [List.length_reverse, List.length_drop]; omega
    have HE : Hid (rdOk b = (decide (S4 = (X : Int)) && okT (tbT b)) ∧ rdE b = if S4 = (X : Int) then 3 else 4) := by
      refine ⟨?_, ?_⟩
      · unfold rdOk; rw [esm, ecr, hn, decide_eq_true (by omega : 13 ≤ m + 4)]; simp
      · unfold rdE; rw [esm, ecr, hn, if_neg (by omega)]
    have hsw : IntKind.u32.wrap S4 = S4 := by rw [IntKind.wrap_u32]; omega
    have hcp : ¬ cap0 = m := by omega
    have i1 : (0 : Int) ≤ (m : Int) := by omega
    have i2 : (m : Int) ≤ (cap0 : Int) := by omega
    have i3 : (m : Int) ≤ (m : Int) + 4 := by omega
    have i4 : (m : Int) + 4 ≤ (cap0 : Int) := by omega
    have i5 : m ≤ cap0 := by omega
    have i6 : m ≤ m + 4 := by omega
    clear C1 C2 hrd esm hsb hS hX ecr etx hr1 hA HA HZ0 hn hnil hb hr h9
    go_enter Try.func15, Try.ntmps15
    go_upto_region 4 with fail
    clear hw1
    go_region_held3 (fun _ => True) (exact trivial) (first
      | (go_at_call 34; refine Calls.mono HC1.out ?_; rintro e x ⟨rfl, hx⟩; have hx2 := hx.symm; clear hx; subst hx2)
      | (go_at_call 38; refine Calls.mono HC2.out ?_; rintro e w2 ⟨a2, c2, rfl, t1, t2, t3, t4, t5⟩; rw [HRl.out] at t1 ⊢; have HR2 : Hid (Row w2 a2 (b.drop m).reverse) := t4; have HB2 : Hid (Below w1.drew.heap.size w1.drew w2) := t5; clear t1 t2 t3 t4 t5)
      | (go_at_call 37; refine Calls.mono (HNm.out _ _ _ HR2.out) ?_; rintro e x ⟨rfl, hx⟩; have hx2 := hx.symm; clear hx; subst hx2))
    have HW2 : Hid (Row w2 (some ⟨bb, off, none⟩) b ∧ Below w.heap.size w w2 ∧ (w2.heap[w.heap.size]? = some (.cells #[.int .i64 0, .int .u32 0, .slice none 0 0] 25 (0, 0)))) := ⟨HT.out.2.2.2.1.old HB2.out, HT.out.2.2.2.2.1.trans (HB2.out.mono HT.out.2.2.2.2.1.size), (HB2.out.block _ (lt_of_block HT.out.2.2.2.2.2)).trans HT.out.2.2.2.2.2⟩
    have HTb : Hid (tbT b = b.take m ∧ Bytes b ∧ b.length = m + 4) := ⟨HT.out.1, HT.out.2.1, HT.out.2.2.1⟩
    clear HT HB2 HR2 HC1 HC2 HNm HRl
    by_cases hs : S4 = (X : Int)
    · subst hs
      rw [decide_eq_true rfl, if_pos rfl] at HE
      have hne : ((X : Int) != (X : Int)) = false := by simp
      obtain ⟨b0, hb0⟩ : ∃ x, b[0]?.getD 0 = x := ⟨_, rfl⟩
      have HFl : Hid (flT (tbT b) = b0) := by
        show _ = _
        unfold flT
        rw [HTb.out.1, List.take_take, Nat.min_eq_left (by omega), ← hb0]
        have := HTb.out.2.2
        match b, this with
        | x :: r, _ => simp [bigN]
      have hb0b : 0 ≤ b0 ∧ b0 < 256 := by rw [← hb0]; exact HTb.out.2.1.at 0
      have HC0 : Hid (∀ u, Below w2.heap.size w2 u → u.cell? ⟨bb, off, none⟩ = some (.int .u8 b0)) := fun u hu => by
        have hr := HW2.out.1.old hu
        rcases hr with e | ⟨b2, o2, e, hc⟩
        · have := HTb.out.2.2; rw [e] at this; simp at this
        · simp at e
          obtain ⟨rfl, rfl⟩ := e
          have := hc 0 (by have := HTb.out.2.2; omega)
          rwa [hb0] at this
      have hsu : suT (tbT b) = bigN ((b.drop 1).take 4) := by unfold suT; rw [HTb.out.1, cut_take b m 1 4 (by omega)]
      have hnm : nmT (tbT b) = bigN ((b.drop 5).take 4) := by unfold nmT; rw [HTb.out.1, cut_take b m 5 4 (by omega)]
      obtain ⟨SU, hSU⟩ : ∃ x, suT (tbT b) = x := ⟨_, rfl⟩
      obtain ⟨NU, hNU⟩ : ∃ x, nmT (tbT b) = x := ⟨_, rfl⟩
      obtain ⟨D, hD⟩ : ∃ x, daT (tbT b) = x := ⟨_, rfl⟩
      have hDe : D = (b.drop 9).take (m - 9) := by rw [← hD]; unfold daT; rw [HTb.out.1, List.drop_take]
      have hDl : D.length = m - 9 := by rw [hDe, List.length_take, List.length_drop, HTb.out.2.2]; omega
      have HDb : Hid (Bytes D ∧ D.length = m - 9) := ⟨by rw [hDe]; exact (HTb.out.2.1.drop 9).take _, hDl⟩
      have HN1 : Hid (∀ u, Below w2.heap.size w2 u → Calls Try.prog 37 #[.slice (some ⟨bb, off + 1, none⟩) 4 (cap0 - 1)] u fun e w' => e = .returned (.int .i64 SU) ∧ w' = u) := fun u hu => by
        have := rnum_any (some ⟨bb, off + 1, none⟩) 4 (cap0 - 1) ((b.drop 1).take 4) u (by rw [List.length_take, List.length_drop, HTb.out.2.2]; omega) (by omega) ((HTb.out.2.1.drop 1).take 4) (row_cut (HW2.out.1.old hu) 1 4 (by rw [HTb.out.2.2]; omega))
        rwa [← hsu, hSU] at this
      have HN2 : Hid (∀ u, Below w2.heap.size w2 u → Calls Try.prog 37 #[.slice (some ⟨bb, off + 5, none⟩) 4 (cap0 - 5)] u fun e w' => e = .returned (.int .i64 NU) ∧ w' = u) := fun u hu => by
        have := rnum_any (some ⟨bb, off + 5, none⟩) 4 (cap0 - 5) ((b.drop 5).take 4) u (by rw [List.length_take, List.length_drop, HTb.out.2.2]; omega) (by omega) ((HTb.out.2.1.drop 5).take 4) (row_cut (HW2.out.1.old hu) 5 4 (by rw [HTb.out.2.2]; omega))
        rwa [← hnm, hNU] at this
      have HRD : Hid (∀ u, Below w2.heap.size w2 u → Row u (some ⟨bb, off + 9, none⟩) D) := fun u hu => by
        have := row_cut (HW2.out.1.old hu) 9 (m - 9) (by rw [HTb.out.2.2]; omega)
        rwa [← hDe] at this
      have hSb : 0 ≤ SU ∧ SU < 4294967296 := by
        rw [← hSU, hsu]
        have := bigN_bound ((HTb.out.2.1.drop 1).take 4)
        rw [show ((b.drop 1).take 4).length = 4 by rw [List.length_take, List.length_drop, HTb.out.2.2]; omega] at this
        simpa using this
      have HOK : Hid (okT (tbT b) = (mayT b0 (m - 9) && decide (NU = ((m - 9 : Nat) : Int)))) := by
        show _ = _
        unfold okT
        rw [HFl.out, hNU, hD, hDl]
      have HSD : Hid (suT (tbT b) = SU ∧ daT (tbT b) = D) := ⟨hSU, hD⟩
      have hsw2 : IntKind.u32.wrap SU = SU := by rw [IntKind.wrap_u32]; omega
      have i7 : (5 : Int) ≤ (cap0 : Int) := by omega
      have i8 : (9 : Int) ≤ (m : Int) := by omega
      have i9 : (5 : Int) ≤ (m : Int) + 4 := by omega
      have ia : (9 : Int) ≤ (m : Int) + 4 := by omega
      have ib : (9 : Int) ≤ (cap0 : Int) := by omega
      have ic : ¬ cap0 = 1 := by omega
      have id5 : ¬ cap0 = 5 := by omega
      have ie : ¬ cap0 = 9 := by omega
      have hwb : IntKind.i64.wrap b0 = b0 := by rw [IntKind.wrap_i64]; omega
      have i0 : (0 : Int) < (m : Int) + 4 := by omega
      have hbb : bb < w2.heap.size := cell_lt (HC0.out w2 (Below.refl _ _))
      clear hb0 hsu hnm hSU hNU hD hDe hDl hsw hS4 hXlt hcp
      go_upto_region 6 with fail
      go_cut [5] (fun v5 wx => RtI w b0 SU D v5 wx ∧ Below w2.heap.size w2 wx)
      case first =>
        have e0 : Below w2.heap.size w2 w2.drew := below_drewQ w2
        have f1 : Below w2.heap.size w2 (w2.alloc (.cells #[] 5)) := below_allocQ w2 _
        have f2 : Below w2.heap.size w2 (w2.alloc (.cells #[.int .i64 0, .int .u32 0, .slice none 0 0] 25)) := below_allocQ w2 _
        have f3 : Below w2.heap.size w2 ((w2.alloc (.cells #[] 5)).alloc (.cells #[.int .i64 0, .int .u32 0, .slice none 0 0] 25)) := f1.trans ((below_allocQ (w2.alloc (.cells #[] 5)) _).mono f1.size)
        have f4 : Below w2.heap.size w2 ((w2.alloc (.cells #[.int .i64 0, .int .u32 0, .slice none 0 0] 25)).alloc (.cells #[] 5)) := f2.trans ((below_allocQ (w2.alloc (.cells #[.int .i64 0, .int .u32 0, .slice none 0 0] 25)) _).mono f2.size)
        have e1 : Below w2.heap.size w2 ((w2.alloc (.cells #[] 5)).drew) := f1.trans ((below_drewQ _).mono f1.size)
        have e2 : Below w2.heap.size w2 ((w2.alloc (.cells #[.int .i64 0, .int .u32 0, .slice none 0 0] 25)).drew) := f2.trans ((below_drewQ _).mono f2.size)
        have e3 : Below w2.heap.size w2 (((w2.alloc (.cells #[] 5)).alloc (.cells #[.int .i64 0, .int .u32 0, .slice none 0 0] 25)).drew) := f3.trans ((below_drewQ _).mono f3.size)
        have e4 : Below w2.heap.size w2 (((w2.alloc (.cells #[.int .i64 0, .int .u32 0, .slice none 0 0] 25)).alloc (.cells #[] 5)).drew) := f4.trans ((below_drewQ _).mono f4.size)
        have HE5 : Hid (Below w2.heap.size w2 w2.drew ∧ Below w2.heap.size w2 ((w2.alloc (.cells #[] 5)).drew) ∧ Below w2.heap.size w2 ((w2.alloc (.cells #[.int .i64 0, .int .u32 0, .slice none 0 0] 25)).drew) ∧ Below w2.heap.size w2 (((w2.alloc (.cells #[] 5)).alloc (.cells #[.int .i64 0, .int .u32 0, .slice none 0 0] 25)).drew) ∧ Below w2.heap.size w2 (((w2.alloc (.cells #[.int .i64 0, .int .u32 0, .slice none 0 0] 25)).alloc (.cells #[] 5)).drew)) := ⟨e0, e1, e2, e3, e4⟩
        have c0 := HC0.out _ e0
        have c1 := HC0.out _ e1
        have c2 := HC0.out _ e2
        have c3 := HC0.out _ e3
        have c4 := HC0.out _ e4
        have hs1 : ((w2.alloc (.cells #[] 5))).heap.size = w2.heap.size + 1 := by simp
        have hs2 : ((w2.alloc (.cells #[.int .i64 0, .int .u32 0, .slice none 0 0] 25))).heap.size = w2.heap.size + 1 := by simp
        have s1 := Sl.empty w2 5
        have s3 : Sl ((w2.alloc (.cells #[] 5)).alloc (.cells #[.int .i64 0, .int .u32 0, .slice none 0 0] 25)) 5 (.slice (some ⟨w2.heap.size, 0, none⟩) 0 0) (some w2.heap.size) [] := s1.same fun k hk => (below_allocQ (w2.alloc (.cells #[] 5)) _).block k (s1.lt hk)
        have s4 := Sl.empty (w2.alloc (.cells #[.int .i64 0, .int .u32 0, .slice none 0 0] 25)) 5
        rw [hs2] at s4
        have t3 := heap_alloc_newT (w2.alloc (.cells #[] 5)) (.cells #[.int .i64 0, .int .u32 0, .slice none 0 0] 25)
        rw [hs1] at t3
        have t2 := heap_alloc_newT w2 (.cells #[.int .i64 0, .int .u32 0, .slice none 0 0] 25)
        have t4 := ((below_allocQ (w2.alloc (.cells #[.int .i64 0, .int .u32 0, .slice none 0 0] 25)) (.cells #[] 5)).block w2.heap.size (by rw [hs2]; omega)).trans t2
        have HSl : Hid (Sl ((w2.alloc (.cells #[] 5)).drew) 5 (.slice (some ⟨w2.heap.size, 0, none⟩) 0 0) (some w2.heap.size) (vals []) ∧ Sl (((w2.alloc (.cells #[] 5)).alloc (.cells #[.int .i64 0, .int .u32 0, .slice none 0 0] 25)).drew) 5 (.slice (some ⟨w2.heap.size, 0, none⟩) 0 0) (some w2.heap.size) (vals []) ∧ Sl (((w2.alloc (.cells #[.int .i64 0, .int .u32 0, .slice none 0 0] 25)).alloc (.cells #[] 5)).drew) 5 (.slice (some ⟨w2.heap.size + 1, 0, none⟩) 0 0) (some (w2.heap.size + 1)) (vals [])) := ⟨s1.same fun _ _ => rfl, s3.same fun _ _ => rfl, s4.same fun _ _ => rfl⟩
        have HTk : Hid (((((w2.alloc (.cells #[] 5)).alloc (.cells #[.int .i64 0, .int .u32 0, .slice none 0 0] 25)).drew)).heap[w2.heap.size + 1]? = some (.cells #[.int .i64 0, .int .u32 0, .slice none 0 0] 25 (0, 0)) ∧ ((((w2.alloc (.cells #[.int .i64 0, .int .u32 0, .slice none 0 0] 25)).alloc (.cells #[] 5)).drew)).heap[w2.heap.size]? = some (.cells #[.int .i64 0, .int .u32 0, .slice none 0 0] 25 (0, 0))) := ⟨t3, t4⟩
        clear e0 e1 e2 e3 e4 f1 f2 f3 f4 s1 s3 s4 t2 t3 t4 hs1 hs2
        go_region_held3 (fun u => u.cell? ⟨bb, off, none⟩ = some (.int .u8 b0))
          (first | (with_reducible assumption) | ((with_reducible refine keep3 _ _ _ cc ?_); omega) | ((with_reducible refine keep3 _ _ _ cc2 ?_); have := HP5.out.2.size; omega) | go_keep) (first
          | (go_at_call 37; (first | refine Calls.mono (HN1.out w2.drew HE5.out.1) ?_ | refine Calls.mono (HN1.out ((w2.alloc (.cells #[] 5)).drew) HE5.out.2.1) ?_ | refine Calls.mono (HN1.out ((w2.alloc (.cells #[.int .i64 0, .int .u32 0, .slice none 0 0] 25)).drew) HE5.out.2.2.1) ?_ | refine Calls.mono (HN1.out (((w2.alloc (.cells #[] 5)).alloc (.cells #[.int .i64 0, .int .u32 0, .slice none 0 0] 25)).drew) HE5.out.2.2.2.1) ?_ | refine Calls.mono (HN1.out (((w2.alloc (.cells #[.int .i64 0, .int .u32 0, .slice none 0 0] 25)).alloc (.cells #[] 5)).drew) HE5.out.2.2.2.2) ?_); rintro e x ⟨rfl, hx⟩; have hx2 := hx.symm; clear hx; subst hx2)
          | (refine step_more (w := ((w2.alloc (.cells #[] 5)).drew)) rfl _ _ rfl (.slice (some ⟨w2.heap.size, 0, none⟩) 0 0) (some w2.heap.size) [] rfl HSl.out.1 (some ⟨bb, off + 9, none⟩) (m - 9) (cap0 - 9) D rfl (by intro h; cases h) HDb.out.2 (HRD.out _ HE5.out.2.1) (by simp; omega) ?_; intro v5 x5 g5 sl5 hg5 hw5; obtain ⟨a5, c5, hv5, -⟩ := sl5.shape; rw [List.nil_append] at sl5; rw [List.nil_append, vals_len, HDb.out.2] at hv5; subst hv5; have HP5 : Hid (RtP w D a5 c5 g5 x5 ∧ Below w2.heap.size w2 x5) := rt_more HW2.out.2.1 HW2.out.2.2 HE5.out.2.1 (Nat.le_refl _) (by rw [HDb.out.2]; exact sl5) hg5 hw5; have cc := HC0.out x5 HP5.out.2; have cc2 := HC0.out (x5.alloc (.cells #[.int .i64 0, .int .u32 0, .slice none 0 0] 25)) (HP5.out.2.trans ((below_allocQ x5 _).mono HP5.out.2.size)); clear sl5 hg5 hw5)
          | (refine step_more (w := (((w2.alloc (.cells #[] 5)).alloc (.cells #[.int .i64 0, .int .u32 0, .slice none 0 0] 25)).drew)) rfl _ _ rfl (.slice (some ⟨w2.heap.size, 0, none⟩) 0 0) (some w2.heap.size) [] rfl HSl.out.2.1 (some ⟨bb, off + 9, none⟩) (m - 9) (cap0 - 9) D rfl (by intro h; cases h) HDb.out.2 (HRD.out _ HE5.out.2.2.2.1) (by simp; omega) ?_; intro v5 x5 g5 sl5 hg5 hw5; obtain ⟨a5, c5, hv5, -⟩ := sl5.shape; rw [List.nil_append] at sl5; rw [List.nil_append, vals_len, HDb.out.2] at hv5; subst hv5; have HP5 : Hid (RtP w D a5 c5 g5 x5 ∧ Below w2.heap.size w2 x5) := rt_more HW2.out.2.1 HW2.out.2.2 HE5.out.2.2.2.1 (Nat.le_refl _) (by rw [HDb.out.2]; exact sl5) hg5 hw5; have HT5 : Hid (x5.heap[w2.heap.size + 1]? = some (.cells #[.int .i64 0, .int .u32 0, .slice none 0 0] 25 (0, 0)) ∧ ∀ k, g5 = some k → k ≠ w2.heap.size + 1) := ⟨(hw5.block _ (lt_of_block HTk.out.1) (by simp)).trans HTk.out.1, ne_of_grown hg5 (by omega) (lt_of_block HTk.out.1)⟩; have cc := HC0.out x5 HP5.out.2; obtain ⟨z0, z1, z2⟩ := three_cells HT5.out.1; obtain ⟨y0, y1, y2⟩ := fz_three HT5.out.1; clear sl5 hg5 hw5)
          | (refine step_more (w := (((w2.alloc (.cells #[.int .i64 0, .int .u32 0, .slice none 0 0] 25)).alloc (.cells #[] 5)).drew)) rfl _ _ rfl (.slice (some ⟨w2.heap.size + 1, 0, none⟩) 0 0) (some (w2.heap.size + 1)) [] rfl HSl.out.2.2 (some ⟨bb, off + 9, none⟩) (m - 9) (cap0 - 9) D rfl (by intro h; cases h) HDb.out.2 (HRD.out _ HE5.out.2.2.2.2) (by simp; omega) ?_; intro v5 x5 g5 sl5 hg5 hw5; obtain ⟨a5, c5, hv5, -⟩ := sl5.shape; rw [List.nil_append] at sl5; rw [List.nil_append, vals_len, HDb.out.2] at hv5; subst hv5; have HP5 : Hid (RtP w D a5 c5 g5 x5 ∧ Below w2.heap.size w2 x5) := rt_more HW2.out.2.1 HW2.out.2.2 HE5.out.2.2.2.2 (Nat.le_succ _) (by rw [HDb.out.2]; exact sl5) hg5 hw5; have HT5 : Hid (x5.heap[w2.heap.size]? = some (.cells #[.int .i64 0, .int .u32 0, .slice none 0 0] 25 (0, 0)) ∧ ∀ k, g5 = some k → k ≠ w2.heap.size) := ⟨(hw5.block _ (lt_of_block HTk.out.2) (by simp)).trans HTk.out.2, ne_of_grown hg5 (by omega) (lt_of_block HTk.out.2)⟩; have cc := HC0.out x5 HP5.out.2; obtain ⟨z0, z1, z2⟩ := three_cells HT5.out.1; obtain ⟨y0, y1, y2⟩ := fz_three HT5.out.1; clear sl5 hg5 hw5)
          )
        all_goals go_wp2
        all_goals go_meet
        all_goals (first
          | exact rt_new HDb.out.2 HP5.out.1 HP5.out.2 HDb.out.1 (by omega)
          | exact rt_fin (zs := #[.int .i64 0, .int .u32 0, .slice none 0 0]) HDb.out.2 HP5.out.1 HP5.out.2 HDb.out.1 (by omega) HT5.out.1 rfl HT5.out.2 (by have := lt_of_block HW2.out.2.2; omega) (by omega))
      case rest =>
        obtain ⟨⟨B, a, c, rfl, hB, hok, hfr, hz, hbe⟩, hb2⟩ := hcut
        rw [HDb.out.2] at hB
        have HTc : Hid (wc.heap[B]? = some (.cells #[.int .i64 b0, .int .u32 SU, .slice a (m - 9) c] 25 (0, 0))) := hB
        have HBc : Hid (Below w2.heap.size w2 wc ∧ wc.heap[w.heap.size]? = some (.cells #[.int .i64 0, .int .u32 0, .slice none 0 0] 25 (0, 0)) ∧ BOk wc a D.length c D ∧ (∀ x, a = some x → w.heap.size + 1 ≤ x.block) ∧ Below w.heap.size w wc) := ⟨hb2, hz, hok, hfr, hbe⟩
        obtain ⟨d0, d1, d2⟩ := three_cells HTc.out
        have r0 : wc.drew.cell? ⟨B, 0, none⟩ = some (.int .i64 b0) := d0
        have r1 : wc.drew.cell? ⟨B, 1, none⟩ = some (.int .u32 SU) := d1
        have r2 : wc.drew.cell? ⟨B, 2, none⟩ = some (.slice a (m - 9) c) := d2
        have HM : Hid (∀ u, Calls Try.prog 31 #[.agg #[.int .i64 b0, .int .u32 SU, .slice a (m - 9) c]] u fun e w' => e = .returned (.bool (mayT b0 (m - 9))) ∧ Below u.heap.size u w') := fun u => rmay_any b0 SU a (m - 9) c u
        clear hB hok hfr hz hbe hb2 HRD HW2 HC0
        go_upto_region 7 with fail
        obtain ⟨Y, hY⟩ : ∃ Y, mayT b0 (m - 9) = Y := ⟨_, rfl⟩
        rw [hY] at HM HOK
        clear hY
        cases Y
        · have HNo : Hid (rdOk b = false ∧ rdE b = 3) := ⟨by rw [HE.out.1, HOK.out]; rfl, HE.out.2⟩
          refine wp_region_held_drew (S := fun u => u.cell? ⟨B, 0, none⟩ = some (.int .i64 b0) ∧ u.cell? ⟨B, 1, none⟩ = some (.int .u32 SU) ∧ u.cell? ⟨B, 2, none⟩ = some (.slice a (m - 9) c)) (by kernel_rfl) ⟨d0, d1, d2⟩ (fun hHeld => ?_)
          refine wpAnyH_take (i := 0) (v := .agg #[.int .i64 b0, .int .u32 SU, .slice a (m - 9) c]) rfl (by kernel_rfl) (by kernel_rfl) (by kernel_rfl) (fun _ _ _ h => h) (Or.inl ⟨by kernel_rfl, ?_⟩) hHeld ?_
          · intro wq hSw
            try dsimp only at hSw
            go_simp
          try simp only [Act.put, List.getElem_toArray, List.getElem_cons_zero]
          try simp only [List.setIfInBounds_toArray]
          try simp only [List.set_cons_succ]
          try simp only [List.set_cons_zero]
          refine wpAnyH_ready (rs := [1]) (by kernel_rfl) (by simp) (AllReadyH.cons (o := _) rfl (fun K hK => ?_) AllReadyH.nil)
          go_simp
          (go_at_call 31; refine Calls.mono (HM.out wc.drew) ?_; rintro e w8 ⟨rfl, b8⟩; have HB8 : Hid (Below w2.heap.size w2 w8) := (HBc.out.1.trans ((below_drewQ wc).mono HBc.out.1.size)).trans (b8.mono (HBc.out.1.trans ((below_drewQ wc).mono HBc.out.1.size)).size); have HT8 : Hid (w8.heap[B]? = some (.cells #[.int .i64 b0, .int .u32 SU, .slice a (m - 9) c] 25 (0, 0)) ∧ w8.heap[w.heap.size]? = some (.cells #[.int .i64 0, .int .u32 0, .slice none 0 0] 25 (0, 0)) ∧ BOk w8 a D.length c D ∧ Below w.heap.size w w8) := ⟨(b8.block _ (lt_of_block HTc.out)).trans HTc.out, (b8.block _ (lt_of_block HBc.out.2.1)).trans HBc.out.2.1, (HBc.out.2.2.1.old (below_drewQ wc)).old b8, (HBc.out.2.2.2.2.trans ((below_drewQ wc).mono HBc.out.2.2.2.2.size)).trans (b8.mono (HBc.out.2.2.2.2.trans ((below_drewQ wc).mono HBc.out.2.2.2.2.size)).size)⟩; obtain ⟨t0, t1, t2⟩ := three_cells HT8.out.1; clear b8)
          go_wp2_with fail
          refine hK.out _ _ ⟨t0, t1, t2⟩ (fun hHeld => ?_)
          clear hK K
          try simp only [Act.put, List.getElem_toArray, List.getElem_cons_succ, List.getElem_cons_zero]
          try simp only [List.setIfInBounds_toArray]
          try simp only [List.set_cons_succ]
          try simp only [List.set_cons_zero]
          refine wpAnyH_take (i := 2) (v := .bool true) rfl (by kernel_rfl) (by kernel_rfl) (by kernel_rfl) (fun _ _ _ h => h) (Or.inl ⟨by kernel_rfl, ?_⟩) hHeld ?_
          · intro wq hSw
            try dsimp only at hSw
            go_simp
          try simp only [Act.put, List.getElem_toArray, List.getElem_cons_succ, List.getElem_cons_zero]
          try simp only [List.setIfInBounds_toArray]
          try simp only [List.set_cons_succ]
          try simp only [List.set_cons_zero]
          refine wpAnyH_take (i := 3) (v := .bool true) rfl (by kernel_rfl) (by kernel_rfl) (by kernel_rfl) (fun _ _ _ h => h) (Or.inl ⟨by kernel_rfl, ?_⟩) hHeld ?_
          · intro wq hSw
            try dsimp only at hSw
            go_simp
          try simp only [Act.put, List.getElem_toArray, List.getElem_cons_succ, List.getElem_cons_zero]
          try simp only [List.setIfInBounds_toArray]
          try simp only [List.set_cons_succ]
          try simp only [List.set_cons_zero]
          refine wpAnyH_take (i := 4) (v := undef) rfl (by kernel_rfl) (by kernel_rfl) (by kernel_rfl) (fun _ _ _ h => h) (Or.inr ⟨by kernel_rfl, rfl⟩) hHeld ?_
          try simp only [Act.put, List.getElem_toArray, List.getElem_cons_succ, List.getElem_cons_zero]
          try simp only [List.setIfInBounds_toArray]
          try simp only [List.set_cons_succ]
          try simp only [List.set_cons_zero]
          refine wpAnyH_take (i := 5) (v := undef) rfl (by kernel_rfl) (by kernel_rfl) (by kernel_rfl) (fun _ _ _ h => h) (Or.inr ⟨by kernel_rfl, rfl⟩) hHeld ?_
          try simp only [Act.put, List.getElem_toArray, List.getElem_cons_succ, List.getElem_cons_zero]
          try simp only [List.setIfInBounds_toArray]
          try simp only [List.set_cons_succ]
          try simp only [List.set_cons_zero]
          refine wpAnyH_take (i := 6) (v := undef) rfl (by kernel_rfl) (by kernel_rfl) (by kernel_rfl) (fun _ _ _ h => h) (Or.inr ⟨by kernel_rfl, rfl⟩) hHeld ?_
          try simp only [Act.put, List.getElem_toArray, List.getElem_cons_succ, List.getElem_cons_zero]
          try simp only [List.setIfInBounds_toArray]
          try simp only [List.set_cons_succ]
          try simp only [List.set_cons_zero]
          refine wpAnyH_take (i := 7) (v := undef) rfl (by kernel_rfl) (by kernel_rfl) (by kernel_rfl) (fun _ _ _ h => h) (Or.inr ⟨by kernel_rfl, rfl⟩) hHeld ?_
          try simp only [Act.put, List.getElem_toArray, List.getElem_cons_succ, List.getElem_cons_zero]
          try simp only [List.setIfInBounds_toArray]
          try simp only [List.set_cons_succ]
          try simp only [List.set_cons_zero]
          refine wpAnyH_take (i := 8) (v := undef) rfl (by kernel_rfl) (by kernel_rfl) (by kernel_rfl) (fun _ _ _ h => h) (Or.inr ⟨by kernel_rfl, rfl⟩) hHeld ?_
          try simp only [Act.put, List.getElem_toArray, List.getElem_cons_succ, List.getElem_cons_zero]
          try simp only [List.setIfInBounds_toArray]
          try simp only [List.set_cons_succ]
          try simp only [List.set_cons_zero]
          refine wpAnyH_take (i := 9) (v := undef) rfl (by kernel_rfl) (by kernel_rfl) (by kernel_rfl) (fun _ _ _ h => h) (Or.inr ⟨by kernel_rfl, rfl⟩) hHeld ?_
          try simp only [Act.put, List.getElem_toArray, List.getElem_cons_succ, List.getElem_cons_zero]
          try simp only [List.setIfInBounds_toArray]
          try simp only [List.set_cons_succ]
          try simp only [List.set_cons_zero]
          refine wpAnyH_take (i := 10) (v := undef) rfl (by kernel_rfl) (by kernel_rfl) (by kernel_rfl) (fun _ _ _ h => h) (Or.inr ⟨by kernel_rfl, rfl⟩) hHeld ?_
          try simp only [Act.put, List.getElem_toArray, List.getElem_cons_succ, List.getElem_cons_zero]
          try simp only [List.setIfInBounds_toArray]
          try simp only [List.set_cons_succ]
          try simp only [List.set_cons_zero]
          refine wpAnyH_take (i := 11) (v := .bool true) rfl (by kernel_rfl) (by kernel_rfl) (by kernel_rfl) (fun _ _ _ h => h) (Or.inl ⟨by kernel_rfl, ?_⟩) hHeld ?_
          · intro wq hSw
            try dsimp only at hSw
            go_simp
          try simp only [Act.put, List.getElem_toArray, List.getElem_cons_succ, List.getElem_cons_zero]
          try simp only [List.setIfInBounds_toArray]
          try simp only [List.set_cons_succ]
          try simp only [List.set_cons_zero]
          refine wpAnyH_done (by kernel_rfl) ?_ _
          go_upto_region 8 with fail
          have HF : Hid (PaT w (rdOk b) (rdE b) (flT (tbT b)) (suT (tbT b)) (daT (tbT b)) (.returned (.tuple #[.agg #[.int .i64 0, .int .u32 0, .slice none 0 0], .int .i64 3])) (w8.setCells w.heap.size 0 (Array.toList #[.int .i64 0, .int .u32 0, .slice none 0 0]))) := by
            rw [HNo.out.1, HNo.out.2]
            exact fin_bad 3 rfl HT8.out.2.2.2
          have HZ8 : Hid (w8.heap[w.heap.size]? = some (.cells #[.int .i64 0, .int .u32 0, .slice none 0 0] 25 (0, 0))) := HT8.out.2.1
          have HX : Hid ((w8.setCells w.heap.size 0 (Array.toList #[.int .i64 0, .int .u32 0, .slice none 0 0])).heap[w.heap.size]? = some (.cells #[.int .i64 0, .int .u32 0, .slice none 0 0] 25 (0, 0))) := set_three _ _ _ HZ8.out
          obtain ⟨z0, z1, z2⟩ := three_cells HZ8.out
          obtain ⟨y0, y1, y2⟩ := fz_three HZ8.out
          go_wp2
          refine bodyPost_ret (v := .tuple #[.agg #[.int .i64 0, .int .u32 0, .slice none 0 0], .int .i64 3]) ?_ rfl HF.out
          rw [results_ct rfl]
          simp [asAddr]
          have L0 := load_tok HX.out
          refine (congrArg (fun r => Result.andThen r _) L0).trans ?_
          rfl
        · by_cases hN : NU = ((m - 9 : Nat) : Int)
          · have HYe : Hid (rdOk b = true ∧ rdE b = 3) := ⟨by rw [HE.out.1, HOK.out, decide_eq_true hN]; rfl, HE.out.2⟩
            subst hN
            have hcn : ((((m - 9 : Nat) : Int)) != (((m - 9 : Nat) : Int))) = false := by simp
            go_region_held3 (fun u => u.cell? ⟨B, 0, none⟩ = some (.int .i64 b0) ∧ u.cell? ⟨B, 1, none⟩ = some (.int .u32 SU) ∧ u.cell? ⟨B, 2, none⟩ = some (.slice a (m - 9) c))
              (first | (with_reducible exact ⟨by with_reducible assumption, by with_reducible assumption, by with_reducible assumption⟩) | go_keep) (first
              | (go_at_call 31; refine Calls.mono (HM.out wc.drew) ?_; rintro e w8 ⟨rfl, b8⟩; have HB8 : Hid (Below w2.heap.size w2 w8) := (HBc.out.1.trans ((below_drewQ wc).mono HBc.out.1.size)).trans (b8.mono (HBc.out.1.trans ((below_drewQ wc).mono HBc.out.1.size)).size); have HT8 : Hid (w8.heap[B]? = some (.cells #[.int .i64 b0, .int .u32 SU, .slice a (m - 9) c] 25 (0, 0)) ∧ w8.heap[w.heap.size]? = some (.cells #[.int .i64 0, .int .u32 0, .slice none 0 0] 25 (0, 0)) ∧ BOk w8 a D.length c D ∧ Below w.heap.size w w8) := ⟨(b8.block _ (lt_of_block HTc.out)).trans HTc.out, (b8.block _ (lt_of_block HBc.out.2.1)).trans HBc.out.2.1, (HBc.out.2.2.1.old (below_drewQ wc)).old b8, (HBc.out.2.2.2.2.trans ((below_drewQ wc).mono HBc.out.2.2.2.2.size)).trans (b8.mono (HBc.out.2.2.2.2.trans ((below_drewQ wc).mono HBc.out.2.2.2.2.size)).size)⟩; obtain ⟨t0, t1, t2⟩ := three_cells HT8.out.1; clear b8)
              | (go_at_call 37; refine Calls.mono (HN2.out w8 HB8.out) ?_; rintro e x ⟨rfl, hx⟩; have hx2 := hx.symm; clear hx; subst hx2))
            go_upto_region 9 with fail
            have HF : Hid (PaT w (rdOk b) (rdE b) (flT (tbT b)) (suT (tbT b)) (daT (tbT b)) (.returned (.tuple #[.agg #[.int .i64 b0, .int .u32 SU, .slice a (m - 9) c], .int .i64 0])) (w8.setCells w.heap.size 0 (Array.toList #[.int .i64 b0, .int .u32 SU, .slice a (m - 9) c]))) := by
              rw [HYe.out.1, HYe.out.2, HFl.out, HSD.out.1, HSD.out.2, ← HDb.out.2]
              exact fin_ok (U0 := w.heap.size + 1) 3 rfl HT8.out.2.2.2 HT8.out.2.2.1 HBc.out.2.2.2.1 (Nat.lt_succ_self _)
            have HX : Hid ((w8.setCells w.heap.size 0 (Array.toList #[.int .i64 b0, .int .u32 SU, .slice a (m - 9) c])).heap[w.heap.size]? = some (.cells #[.int .i64 b0, .int .u32 SU, .slice a (m - 9) c] 25 (0, 0))) := set_three _ _ _ HT8.out.2.1
            obtain ⟨z0, z1, z2⟩ := three_cells HT8.out.2.1
            obtain ⟨y0, y1, y2⟩ := fz_three HT8.out.2.1
            go_wp2
            refine bodyPost_ret (v := .tuple #[.agg #[.int .i64 b0, .int .u32 SU, .slice a (m - 9) c], .int .i64 0]) ?_ rfl HF.out
            rw [results_ct rfl]
            simp [asAddr]
            have L0 := load_tok HX.out
            refine (congrArg (fun r => Result.andThen r _) L0).trans ?_
            rfl
          · have HNo : Hid (rdOk b = false ∧ rdE b = 3) := ⟨by rw [HE.out.1, HOK.out, decide_eq_false hN]; rfl, HE.out.2⟩
            have hcn : (NU != (((m - 9 : Nat) : Int))) = true := by simpa using hN
            go_region_held3 (fun u => u.cell? ⟨B, 0, none⟩ = some (.int .i64 b0) ∧ u.cell? ⟨B, 1, none⟩ = some (.int .u32 SU) ∧ u.cell? ⟨B, 2, none⟩ = some (.slice a (m - 9) c))
              (first | (with_reducible exact ⟨by with_reducible assumption, by with_reducible assumption, by with_reducible assumption⟩) | go_keep) (first
              | (go_at_call 31; refine Calls.mono (HM.out wc.drew) ?_; rintro e w8 ⟨rfl, b8⟩; have HB8 : Hid (Below w2.heap.size w2 w8) := (HBc.out.1.trans ((below_drewQ wc).mono HBc.out.1.size)).trans (b8.mono (HBc.out.1.trans ((below_drewQ wc).mono HBc.out.1.size)).size); have HT8 : Hid (w8.heap[B]? = some (.cells #[.int .i64 b0, .int .u32 SU, .slice a (m - 9) c] 25 (0, 0)) ∧ w8.heap[w.heap.size]? = some (.cells #[.int .i64 0, .int .u32 0, .slice none 0 0] 25 (0, 0)) ∧ BOk w8 a D.length c D ∧ Below w.heap.size w w8) := ⟨(b8.block _ (lt_of_block HTc.out)).trans HTc.out, (b8.block _ (lt_of_block HBc.out.2.1)).trans HBc.out.2.1, (HBc.out.2.2.1.old (below_drewQ wc)).old b8, (HBc.out.2.2.2.2.trans ((below_drewQ wc).mono HBc.out.2.2.2.2.size)).trans (b8.mono (HBc.out.2.2.2.2.trans ((below_drewQ wc).mono HBc.out.2.2.2.2.size)).size)⟩; obtain ⟨t0, t1, t2⟩ := three_cells HT8.out.1; clear b8)
              | (go_at_call 37; refine Calls.mono (HN2.out w8 HB8.out) ?_; rintro e x ⟨rfl, hx⟩; have hx2 := hx.symm; clear hx; subst hx2))
            go_upto_region 8 with fail
            have HF : Hid (PaT w (rdOk b) (rdE b) (flT (tbT b)) (suT (tbT b)) (daT (tbT b)) (.returned (.tuple #[.agg #[.int .i64 0, .int .u32 0, .slice none 0 0], .int .i64 3])) (w8.setCells w.heap.size 0 (Array.toList #[.int .i64 0, .int .u32 0, .slice none 0 0]))) := by
              rw [HNo.out.1, HNo.out.2]
              exact fin_bad 3 rfl HT8.out.2.2.2
            have HZ8 : Hid (w8.heap[w.heap.size]? = some (.cells #[.int .i64 0, .int .u32 0, .slice none 0 0] 25 (0, 0))) := HT8.out.2.1
            have HX : Hid ((w8.setCells w.heap.size 0 (Array.toList #[.int .i64 0, .int .u32 0, .slice none 0 0])).heap[w.heap.size]? = some (.cells #[.int .i64 0, .int .u32 0, .slice none 0 0] 25 (0, 0))) := set_three _ _ _ HZ8.out
            obtain ⟨z0, z1, z2⟩ := three_cells HZ8.out
            obtain ⟨y0, y1, y2⟩ := fz_three HZ8.out
            go_wp2
            refine bodyPost_ret (v := .tuple #[.agg #[.int .i64 0, .int .u32 0, .slice none 0 0], .int .i64 3]) ?_ rfl HF.out
            rw [results_ct rfl]
            simp [asAddr]
            have L0 := load_tok HX.out
            refine (congrArg (fun r => Result.andThen r _) L0).trans ?_
            rfl
    · have hne : ((X : Int) != S4) = true := by simpa using (fun h => hs h.symm)
      obtain ⟨s1, s2⟩ := hS4
      rw [decide_eq_false hs, if_neg hs] at HE
      clear hs
      go_upto_region 5 with fail
      have HF : Hid (PaT w (rdOk b) (rdE b) (flT (tbT b)) (suT (tbT b)) (daT (tbT b)) (.returned (.tuple #[.agg #[.int .i64 0, .int .u32 0, .slice none 0 0], .int .i64 4])) (w2.setCells w.heap.size 0 (Array.toList #[.int .i64 0, .int .u32 0, .slice none 0 0]))) := by
        rw [HE.out.1, HE.out.2]
        exact fin_bad 4 rfl HW2.out.2.1
      have HZ2 : Hid (w2.heap[w.heap.size]? = some (.cells #[.int .i64 0, .int .u32 0, .slice none 0 0] 25 (0, 0))) := HW2.out.2.2
      have HX : Hid ((w2.setCells w.heap.size 0 (Array.toList #[.int .i64 0, .int .u32 0, .slice none 0 0])).heap[w.heap.size]? = some (.cells #[.int .i64 0, .int .u32 0, .slice none 0 0] 25 (0, 0))) := set_three _ _ _ HZ2.out
      obtain ⟨z0, z1, z2⟩ := three_cells HZ2.out
      obtain ⟨y0, y1, y2⟩ := fz_three HZ2.out
      go_wp2
      refine bodyPost_ret (v := .tuple #[.agg #[.int .i64 0, .int .u32 0, .slice none 0 0], .int .i64 4]) ?_ rfl HF.out
      rw [results_ct rfl]
      simp [asAddr]
      have L0 := load_tok HX.out
      refine (congrArg (fun r => Result.andThen r _) L0).trans ?_
      rfl
end Go.Proofs.Ytinmkhdangknbaa
