/- Bytes into samples: Unpack, by the program and by the document. -/
import Derived.Test.YtbjoalgglmalnaaDoorPzE
namespace Go.Proofs.YtbjoalgglmalnaaDoor
open Go.RowKit
/-- What both answer. -/
def NewI (w : World) (zs : List Int) (er : Int) (e : Ending) (w' : World) : Prop :=
  ∃ a cap, e = .returned (.tuple #[.slice a zs.length cap, .int .i64 er]) ∧ IRow w' a zs ∧ Below w.heap.size w w'
def unL (d n : Nat) (B : List Int) : List Int := (List.range n).map fun i => getN d i B
theorem unL_len (d n : Nat) (B : List Int) : (unL d n B).length = n := by simp [unL]
theorem unL_snoc (d n : Nat) (B : List Int) : unL d (n + 1) B = unL d n B ++ [getN d n B] := by simp [unL, List.range_succ]
theorem get_any (a : Option Addr) (n c i d : Nat) (B : List Int) (w : World) (hd : isDp d) (hB : B.length = n) (hb : Bytes B) (hr : Row w a B) (hi : i * d + d ≤ 8 * n) (hn : n ≤ 140737488351232) :
    Calls Tryd.prog 28 #[.slice a n c, .int .i64 i, .int .i64 d] w fun e w' => e = .returned (.int .i64 (getN d i B)) ∧ Below w.heap.size w w' := by
  have hd' : d = 1 ∨ d = 2 ∨ d = 4 ∨ d = 8 ∨ d = 16 := by unfold isDp at hd; omega
  by_cases e : d = 16
  · subst e
    exact get16_any a n c i B w hB hb hr (by omega) hn
  · have hd8 : d = 1 ∨ d = 2 ∨ d = 4 ∨ d = 8 := by omega
    have hod : i * d % 8 + d ≤ 8 := by rcases hd8 with rfl | rfl | rfl | rfl <;> omega
    have hii : i ≤ i * d := Nat.le_mul_of_pos_right i (by omega)
    exact get8_any a n c i d (i * d / 8) (i * d % 8) (8 - d - i * d % 8) B w hB hb hr (by omega) (by omega) (by omega) (by omega) (by omega) (by omega) (by omega)
def fillI (f : Nat → Int) (m j : Nat) : List Int := (List.range m).map fun i => if i < j then f i else 0
theorem fillI_zero (f : Nat → Int) (m : Nat) : fillI f m 0 = List.replicate m 0 := by
  apply List.ext_getElem?; intro i; by_cases h : i < m <;> simp [fillI, h]
theorem fillI_step (f : Nat → Int) (m k : Nat) (hk : k < m) : (fillI f m k).set k (f k) = fillI f m (k + 1) := by
  apply List.ext_getElem?; intro i
  rw [List.getElem?_set]
  by_cases h : k = i
  · subst h; simp [fillI, hk]
  · by_cases h1 : i < m
    · by_cases h2 : i < k
      · have h3 : i < k + 1 := by omega
        simp [fillI, h, h1, h2, h3]
      · have h3 : ¬ i < k + 1 := by omega
        simp [fillI, h, h1, h2, h3]
    · simp [fillI, h, h1]
theorem fillI_full (l : List Int) : fillI (fun i => l[i]?.getD 0) l.length l.length = l := by
  apply List.ext_getElem?; intro i
  by_cases h : i < l.length
  · simp [fillI, h]
  · simp [fillI, h]
theorem made_ivals (m : Nat) : (madeCells #[Value.int .i64 0] m).toList = ivals (List.replicate m 0) := by
  rw [toList_madeCells_one]; simp [ivals]
theorem store_stepI {w wr : World} {B g m j : Nat} {l l' : List Int} {x : Int} (hown : wr.ownsRow B 3 1 (.slice (some ⟨g, 0, none⟩) m m) m (ivals l)) (hbel : Below B w wr) (hw : B ≤ w.heap.size) (hl : l.set j x = l') :
    (wr.setCell ⟨g, j, none⟩ (.int .i64 x)).ownsRow B 3 1 (.slice (some ⟨g, 0, none⟩) m m) m (ivals l') ∧ Below B w (wr.setCell ⟨g, j, none⟩ (.int .i64 x)) := by
  have h := hown.stored j (.int .i64 x)
  refine ⟨by rw [← hl, ivals_set]; exact h.1, hbel.grown h.2 (by have := hbel.size; omega) fun k hk => (hown.lt k hk).1⟩
theorem own_cellI {wr : World} {B g m j : Nat} {l : List Int} (hown : wr.ownsRow B 3 1 (.slice (some ⟨g, 0, none⟩) m m) m (ivals l)) (hj : j < m) : wr.cell? ⟨g, j, none⟩ = some (.int .i64 (l[j]?.getD 0)) := by
  rw [hown.cellAt j (by omega)]
  have hl : l.length = m := by have := hown.1; simpa [ivals] using this
  simp [ivals, show j < l.length by omega]
set_option maxHeartbeats 800000 in
theorem unpack_arg (a : Option Addr) (n c : Nat) (d N : Int) (w : World) (h : ¬ isDp d ∨ N < 0) : Calls Tryd.prog 13 #[.slice a n c, .int .i64 d, .int .i64 N] w fun e w' => NewI w [] 1 e w' := by
  have HP : Hid (NewI w [] 1 (.returned (.tuple #[.slice none 0 0, .int .i64 1])) w) := ⟨none, 0, rfl, .inl rfl, Below.refl _ _⟩
  have C1 := isDepth_any d w
  by_cases hd : isDp d
  · have hN : N < 0 := h.resolve_left (fun q => q hd)
    rw [decide_eq_true hd] at C1
    clear h hd
    go_enter Tryd.func13, Tryd.ntmps13
    go_wp2_with fail
    refine C1.mono ?_
    rintro e w1 ⟨rfl, rfl⟩
    go_wp2
    go_ret2
    exact HP.out
  · rw [decide_eq_false hd] at C1
    clear h hd
    go_enter Tryd.func13, Tryd.ntmps13
    go_wp2_with fail
    refine C1.mono ?_
    rintro e w1 ⟨rfl, rfl⟩
    go_wp2
    go_ret2
    exact HP.out
/-- How many samples there are room for. -/
theorem many_q {d n M : Nat} (hd : isDp d) (hM : 8 * n = M) (hn : n ≤ 140737488351232) : ∃ q : Nat, wrap64 ((M : Int) / (d : Int)) = (q : Int) ∧ (∀ N, N ≤ q ↔ N * d ≤ 8 * n) ∧ q ≤ 1125899906809856 := by
  have h1 : 0 < d := by unfold isDp at hd; omega
  refine ⟨M / d, ?_, fun N => by rw [hM]; exact Nat.le_div_iff_mul_le h1, ?_⟩
  · have h2 : M / d ≤ M := Nat.div_le_self _ _
    rw [← Int.natCast_ediv]
    generalize M / d = q at *
    unfold wrap64; omega
  · have h2 : M / d ≤ M := Nat.div_le_self _ _
    omega
set_option maxHeartbeats 800000 in
theorem unpack_short (a : Option Addr) (n c d N : Nat) (w : World) (hd : isDp d) (hn : n ≤ 140737488351232) (h : ¬ N * d ≤ 8 * n) : Calls Tryd.prog 13 #[.slice a n c, .int .i64 d, .int .i64 N] w fun e w' => NewI w [] 2 e w' := by
  have HP : Hid (NewI w [] 2 (.returned (.tuple #[.slice none 0 0, .int .i64 2])) w) := ⟨none, 0, rfl, .inl rfl, Below.refl _ _⟩
  have C1 := isDepth_any d w
  rw [decide_eq_true hd] at C1
  obtain ⟨M, hM⟩ : ∃ M, 8 * n = M := ⟨_, rfl⟩
  obtain ⟨q, hq, hqi, hqb⟩ := many_q hd hM hn
  have hlt : (q : Int) < (N : Int) := by have := hqi N; omega
  have hMi : (n : Int) * 8 = (M : Int) := by omega
  have hMb : M ≤ 1125899906809856 := by omega
  have hd0 : ¬ (d : Int) = 0 := by unfold isDp at hd; omega
  have hd1 : ((d : Int) == 0) = false := by simpa using hd0
  have hN0 : ¬ (N : Int) < 0 := by omega
  clear h hd hM hqi
  go_enter Tryd.func13, Tryd.ntmps13
  go_wp2_with fail
  refine C1.mono ?_
  rintro e w1 ⟨rfl, rfl⟩
  clear C1
  go_wp2
  go_ret2
  exact HP.out
set_option maxHeartbeats 1600000 in
theorem unpack_yes (a : Option Addr) (n c d N : Nat) (x : List Int) (w : World) (hd : isDp d) (hn : n ≤ 4000000) (hx : x.length = n) (hb : Bytes x) (rx : Row w a x) (h : N * d ≤ 8 * n) : Calls Tryd.prog 13 #[.slice a n c, .int .i64 d, .int .i64 N] w fun e w' => NewI w (unL d N x) 0 e w' := by
  have C1 := isDepth_any d w
  rw [decide_eq_true hd] at C1
  obtain ⟨M, hM⟩ : ∃ M, 8 * n = M := ⟨_, rfl⟩
  obtain ⟨q, hq, hqi, hqb⟩ := many_q hd hM (by omega)
  have hlt : ¬ (q : Int) < (N : Int) := by have := hqi N; omega
  have hMi : (n : Int) * 8 = (M : Int) := by omega
  have hMb : M ≤ 32000000 := by omega
  have hd0 : ¬ (d : Int) = 0 := by unfold isDp at hd; omega
  have hd1 : ((d : Int) == 0) = false := by simpa using hd0
  have hN0 : ¬ (N : Int) < 0 := by omega
  have hNb : N ≤ 32000000 := by
    have : N * 1 ≤ N * d := Nat.mul_le_mul_left N (by unfold isDp at hd; omega)
    omega
  obtain ⟨B, hB⟩ : ∃ B, B = w.heap.size := ⟨_, rfl⟩
  have HB : Hid (B = w.heap.size) := hB
  obtain ⟨i0, hi, hz0, hz1, hz2⟩ := info_parts Tryd.info3Z
  have HX : Hid (x.length = n ∧ Bytes x ∧ Row w a x) := ⟨hx, hb, rx⟩
  have HG : Hid (∀ i, i < N → ∀ u, Below B w u → Calls Tryd.prog 28 #[.slice a n c, .int .i64 i, .int .i64 d] u fun e w' => e = .returned (.int .i64 (getN d i x)) ∧ Below u.heap.size u w') := fun i hi u hu => by
    have hii : i * d + d ≤ N * d := by have := Nat.mul_le_mul_right d (show i + 1 ≤ N by omega); rw [Nat.add_mul] at this; omega
    exact get_any a n c i d x u hd hx hb (rx.old (by rw [← hB]; exact hu)) (by omega) (by omega)
  clear h hd hM hqi hx hb rx hB
  go_enter Tryd.func13, Tryd.ntmps13
  go_wp2_with fail
  refine C1.mono ?_
  rintro e w1 ⟨rfl, rfl⟩
  clear C1
  go_wp2_with (at_make; refine wpList_make_full _ rfl _ _ 22 rfl B 3 i0 (.int .i64 0) 1 Tryd.underlying22 hi hz0 hz1 .i64 .i64 _ _ N rfl rfl rfl rfl ?b2 ?b3 ?b4 ?_)
  case b2 => rw [hz2]; omega
  case b3 => unfold maxLen; omega
  case b4 => rw [HB.out]; exact Nat.le_refl _
  intro w2 hown hgrow
  rw [made_ivals] at hown
  have hbel : Below B w1 w2 := (Below.refl _ _).grown hgrow (by rw [HB.out]; exact Nat.le_refl _) (fun k hk => by cases hk)
  obtain ⟨g, hg⟩ : ∃ g, g = w1.heap.size := ⟨_, rfl⟩
  rw [← hg]
  rw [← hg] at hown
  have HI : Hid (w2.ownsRow B 3 1 (.slice (some ⟨g, 0, none⟩) N N) N (ivals (fillI (fun i => getN d i x) N 0)) ∧ Below B w1 w2) := ⟨by rw [fillI_zero]; exact hown, hbel⟩
  clear hg hgrow hown hbel
  go_wp2
  go_loopw [9, 30] (fun _ c wr => ∃ j : Nat, j ≤ N ∧ c = .int .i64 j ∧ Hid (wr.ownsRow B 3 1 (.slice (some ⟨g, 0, none⟩) N N) N (ivals (fillI (fun i => getN d i x) N j)) ∧ Below B w1 wr)) (fun _ c _ => N - (intOf c).toNat)
  case atStart => exact ⟨0, Nat.zero_le _, rfl, HI⟩
  case round =>
    clear HI
    obtain ⟨j, hj, rfl, HR⟩ := hrel
    by_cases hltj : j < N
    · have CG := HG.out j hltj wr HR.out.2
      generalize hZ : getN d j x = z at CG
      have HZ : Hid (getN d j x = z) := hZ
      clear hZ
      go_wp2_with fail
      refine CG.mono ?_
      clear CG
      rintro e w4 ⟨rfl, b4⟩
      have HR4 : Hid (w4.ownsRow B 3 1 (.slice (some ⟨g, 0, none⟩) N N) N (ivals (fillI (fun i => getN d i x) N j)) ∧ Below B w1 w4) := by
        refine ⟨HR.out.1.kept (row := none) ⟨b4.os, b4.tape, b4.output, b4.size, fun k hk _ => b4.block k hk⟩ (.inr (by simp [Value.ownBlock])), HR.out.2.trans (b4.mono ?_)⟩
        have := HR.out.2.size
        rw [HB.out]; exact this
      have hcell := own_cellI HR4.out.1 hltj
      have hfz := HR4.out.1.frozenAt j
      have HS : Hid _ := store_stepI HR4.out.1 HR4.out.2 (by rw [HB.out]; exact Nat.le_refl _) (fillI_step (fun i => getN d i x) N j hltj)
      simp only [HZ.out] at HS
      clear HR HR4 b4
      go_wp2
      go_roundw
      case rel => exact ⟨j + 1, by omega, by go_num, HS.out.1, HS.out.2⟩
      case measure => simp [intOf]; omega
    · obtain rfl : j = N := by omega
      have HF : Hid (NewI w1 (unL d j x) 0 (.returned (.tuple #[.slice (some ⟨g, 0, none⟩) j j, .int .i64 0])) wr) := by
        have e : fillI (fun i => getN d i x) j j = unL d j x := by
          apply List.ext_getElem?; intro i
          by_cases h : i < j <;> simp [fillI, unL, h]
        obtain ⟨_, hs, _⟩ := Sl.of_owns HR.out.1
        rw [e] at hs
        exact ⟨some ⟨g, 0, none⟩, j, by rw [unL_len], hs.irow rfl, by rw [← HB.out]; exact HR.out.2⟩
      clear HR
      go_wp2
      go_ret2
      exact HF.out
set_option maxHeartbeats 800000 in
theorem runpack_arg (a : Option Addr) (n c : Nat) (d N : Int) (w : World) (h : ¬ isDp d ∨ N < 0) : Calls Tryd.prog 14 #[.slice a n c, .int .i64 d, .int .i64 N] w fun e w' => NewI w [] 1 e w' := by
  have HP : Hid (NewI w [] 1 (.returned (.tuple #[.slice none 0 0, .int .i64 1])) w) := ⟨none, 0, rfl, .inl rfl, Below.refl _ _⟩
  have C1 := rDepth_any d w
  by_cases hd : isDp d
  · have hN : N < 0 := h.resolve_left (fun q => q hd)
    rw [decide_eq_true hd] at C1
    clear h hd
    go_enter Tryd.func14, Tryd.ntmps14
    go_wp2_with fail
    refine C1.mono ?_
    rintro e w1 ⟨rfl, rfl⟩
    go_wp2
    go_ret2
    exact HP.out
  · rw [decide_eq_false hd] at C1
    clear h hd
    go_enter Tryd.func14, Tryd.ntmps14
    go_wp2_with fail
    refine C1.mono ?_
    rintro e w1 ⟨rfl, rfl⟩
    go_wp2
    go_ret2
    exact HP.out
set_option maxHeartbeats 800000 in
theorem runpack_short (a : Option Addr) (n c d N : Nat) (w : World) (hd : isDp d) (hn : n ≤ 140737488351232) (h : ¬ N * d ≤ 8 * n) : Calls Tryd.prog 14 #[.slice a n c, .int .i64 d, .int .i64 N] w fun e w' => NewI w [] 2 e w' := by
  have HP : Hid (NewI w [] 2 (.returned (.tuple #[.slice none 0 0, .int .i64 2])) w) := ⟨none, 0, rfl, .inl rfl, Below.refl _ _⟩
  have C1 := rDepth_any d w
  rw [decide_eq_true hd] at C1
  obtain ⟨M, hM⟩ : ∃ M, 8 * n = M := ⟨_, rfl⟩
  obtain ⟨q, hq, hqi, hqb⟩ := many_q hd hM hn
  have hlt : (q : Int) < (N : Int) := by have := hqi N; omega
  have hMi : 8 * (n : Int) = (M : Int) := by omega
  have hMb : M ≤ 1125899906809856 := by omega
  have hd0 : ¬ (d : Int) = 0 := by unfold isDp at hd; omega
  have hd1 : ((d : Int) == 0) = false := by simpa using hd0
  have hN0 : ¬ (N : Int) < 0 := by omega
  clear h hd hM hqi
  go_enter Tryd.func14, Tryd.ntmps14
  go_wp2_with fail
  refine C1.mono ?_
  rintro e w1 ⟨rfl, rfl⟩
  clear C1
  go_wp2
  go_ret2
  exact HP.out
end Go.Proofs.YtbjoalgglmalnaaDoor
