/- A row's places. -/
import Derived.Test.YtjkhldnjciakkaaAmI
import Derived.Test.YtjkhldnjciakkaaHdI
namespace Go.Proofs.Ytjkhldnjciakkaa
open Go.RowKit
def ivalsA (l : List Int) : List Value := l.map (Value.int .i64)
theorem ivalsA_len (l : List Int) : (ivalsA l).length = l.length := by simp [ivalsA]
theorem ivalsA_at (l : List Int) (i : Nat) (hi : i < l.length) : (ivalsA l)[i]? = some (.int .i64 (l[i]?.getD 0)) := by simp [ivalsA, hi]
theorem ivalsA_append (l m : List Int) : ivalsA (l ++ m) = ivalsA l ++ ivalsA m := by simp [ivalsA]
/-- The first n places of a row, from x on by dx, all at Y. -/
def spL (x dx Y : Int) : Nat → List Int
  | 0 => []
  | n + 1 => spL x dx Y n ++ [x + (n : Int) * dx, Y]
theorem spL_len (x dx Y : Int) (n : Nat) : (spL x dx Y n).length = 2 * n := by
  induction n with
  | zero => rfl
  | succ n ih => simp [spL, ih]; omega
/-- The first j places, and noughts. -/
def spF (x dx Y : Int) (m j : Nat) : List Int := spL x dx Y j ++ List.replicate (2 * m - 2 * j) 0
theorem spF_len {x dx Y : Int} {m j : Nat} (hj : j ≤ m) : (spF x dx Y m j).length = 2 * m := by simp [spF, spL_len]; omega
theorem spF_step {x dx Y : Int} {m j : Nat} (hj : j < m) : ((spF x dx Y m j).set (j * 2) (x + (j : Int) * dx)).set (j * 2 + 1) Y = spF x dx Y m (j + 1) := by
  have h2 : List.replicate (2 * m - 2 * j) (0 : Int) = 0 :: 0 :: List.replicate (2 * m - 2 * (j + 1)) 0 := by
    rw [show 2 * m - 2 * j = (2 * m - 2 * (j + 1)) + 1 + 1 by omega, List.replicate_succ, List.replicate_succ]
  have hl := spL_len x dx Y j
  unfold spF
  rw [h2, spL, List.append_assoc]
  generalize spL x dx Y j = l at *
  rw [List.set_append_right _ _ (by omega), show j * 2 - l.length = 0 by omega, List.set_cons_zero, List.set_append_right _ _ (by omega), show j * 2 + 1 - l.length = 0 + 1 by omega, List.set_cons_succ, List.set_cons_zero]
  rfl
theorem Try.infoSp : (Try.prog.info? 45).map (fun i => (i.zero, i.size, i.bytes)) = some (some (.agg #[.int .i64 0, .int .i64 0]), 2, 16) := by kernel_rfl
theorem made_spots (m : Nat) : (madeCells #[Value.int .i64 0, Value.int .i64 0] (m * 2)).toList = ivalsA (List.replicate (2 * m) 0) := by
  apply List.ext_getElem?
  intro i
  by_cases h : i < m * 2
  · have h' : i < 2 * m := by omega
    have hz : ∀ k : Nat, k < 2 → (#[Value.int .i64 0, Value.int .i64 0] : Array Value)[k]! = Value.int .i64 0 := by
      intro k hk
      match k, hk with
      | 0, _ => rfl
      | 1, _ => rfl
    have e : (madeCells #[Value.int .i64 0, Value.int .i64 0] (m * 2)).toList[i]? = some (Value.int .i64 0) := by
      simp only [madeCells, Array.toList_map, List.getElem?_map, Array.toList_range, List.getElem?_range h, Option.map_some]
      exact congrArg some (hz (i % 2) (Nat.mod_lt _ (by omega)))
    rw [e]
    simp [ivalsA, h']
  · rw [List.getElem?_eq_none (by simp [madeCells]; omega), List.getElem?_eq_none (by simp [ivalsA]; omega)]
theorem sp_stored {w wr : World} {B g m j : Nat} {X DX Y : Int} (hj : j < m) (hown : wr.ownsRow B 45 2 (.slice (some ⟨g, 0, none⟩) m m) m (ivalsA (spF X DX Y m j))) (hbel : Below B w wr) (hw : B ≤ w.heap.size) {x y : Int} (hx : x = X + (j : Int) * DX) (hy : y = Y) :
    ((wr.setCell ⟨g, j * 2, none⟩ (.int .i64 x)).setCell ⟨g, j * 2 + 1, none⟩ (.int .i64 y)).ownsRow B 45 2 (.slice (some ⟨g, 0, none⟩) m m) m (ivalsA (spF X DX Y m (j + 1))) ∧ Below B w ((wr.setCell ⟨g, j * 2, none⟩ (.int .i64 x)).setCell ⟨g, j * 2 + 1, none⟩ (.int .i64 y)) := by
  have k1 := hown.stored (j * 2) (.int .i64 x)
  have k2 := k1.1.stored (j * 2 + 1) (.int .i64 y)
  have hs := hbel.size
  have b1 := hbel.grown k1.2 (by omega) fun k hk => (hown.lt k hk).1
  have b2 := b1.grown k2.2 (by have := b1.size; omega) fun k hk => (k1.1.lt k hk).1
  have e : ((ivalsA (spF X DX Y m j)).set (j * 2) (.int .i64 x)).set (j * 2 + 1) (.int .i64 y) = ivalsA (spF X DX Y m (j + 1)) := by
    rw [← spF_step hj, hx, hy]; simp [ivalsA, List.map_set]
  rw [e] at k2
  exact ⟨k2.1, b2⟩
def SpPost (w : World) (n : Nat) (L : List Int) (e : Ending) (w' : World) : Prop := ∃ g cur, e = .returned (.slice (some ⟨g, 0, none⟩) n n) ∧ w'.heap[g]? = some (.cells cur 45 (0, 0)) ∧ (∀ i, i < L.length → cur[i]? = some (.int .i64 (L[i]?.getD 0))) ∧ w.heap.size ≤ g ∧ Below w.heap.size w w'
set_option maxHeartbeats 1600000 in
theorem spots_any (p : Stp) (n : Nat) (B R : Int) (w : World) (hp : p.ok) (hn : n ≤ 2048) (hr0 : 0 ≤ R) (hr1 : R ≤ 2048) : Calls Try.prog 36 #[PsV p n B, .int .i64 R] w fun e w' => SpPost w n (spL p.x p.dx (p.y + R * p.dy) n) e w' := by
  obtain ⟨x, y, dx, dy⟩ := p
  obtain ⟨p0, p1, p2, p3, p4, p5, p6, p7⟩ := hp
  simp only at *
  have hyd : 0 ≤ R * dy ∧ R * dy ≤ 20000 := ⟨Int.mul_nonneg hr0 (by omega), by have : R * dy ≤ 2048 * 8 := Int.mul_le_mul hr1 (by omega) (by omega) (by omega); omega⟩
  have HK : Hid (∀ k : Nat, (k : Int) ≤ 2048 → 0 ≤ (k : Int) * dx ∧ (k : Int) * dx ≤ 20000) := fun k hk => ⟨Int.mul_nonneg (by omega) (by omega), by have : (k : Int) * dx ≤ 2048 * 8 := Int.mul_le_mul hk (by omega) (by omega) (by omega); omega⟩
  obtain ⟨YY, hYY⟩ : ∃ YY, R * dy = YY := ⟨_, rfl⟩
  rw [hYY] at hyd ⊢
  unfold PsV
  simp only
  obtain ⟨i0, hi, hz0, hz1, hz2⟩ := info_parts Try.infoSp
  obtain ⟨B0, hB0⟩ : ∃ B0, B0 = w.heap.size + 1 := ⟨_, rfl⟩
  have HB : Hid (B0 = w.heap.size + 1) := hB0
  have hYi : Hid (R * dy = YY) := hYY
  clear hB0
  go_enter Try.func36, Try.ntmps36
  go_wp2_with (at_make; refine wpList_make_full _ rfl _ _ 41 rfl B0 45 i0 (.agg #[.int .i64 0, .int .i64 0]) 2 Try.underlying41 hi hz0 hz1 .i64 .i64 _ _ n rfl rfl rfl rfl ?b2 ?b3 ?b4 ?_)
  case b2 => rw [hz2]; omega
  case b3 => unfold maxLen; omega
  case b4 => rw [HB.out]; simp
  intro w3 hown hgrow
  obtain ⟨wb, hwb⟩ : ∃ wb, w.alloc (.cells #[.int .i64 x, .int .i64 y, .int .i64 dx, .int .i64 dy, .int .i64 n, .int .i64 B] 24) = wb := ⟨_, rfl⟩
  rw [hwb] at hgrow
  have HBB : Hid (Below w.heap.size w wb ∧ wb.heap[w.heap.size]? = some (.cells #[.int .i64 x, .int .i64 y, .int .i64 dx, .int .i64 dy, .int .i64 n, .int .i64 B] 24 (0, 0)) ∧ wb.heap.size = B0) := by
    rw [← hwb, HB.out]; exact ⟨(Below.refl _ w).alloc (Nat.le_refl _) _, World.alloc_heap_new w _, by simp⟩
  rw [made_spots] at hown
  have hbel : Below B0 wb w3 := by
    rw [← HBB.out.2.2]; exact ⟨hgrow.os, hgrow.tape, hgrow.output, hgrow.size, fun k hk => hgrow.block k hk (by simp)⟩
  obtain ⟨g, hg⟩ : ∃ g, g = w.heap.size + 1 := ⟨_, rfl⟩
  rw [← hg]
  rw [← hg] at hown
  have HG : Hid (w.heap.size < g) := by rw [hg]; exact Nat.lt_succ_self _
  clear hg hgrow hwb
  go_wp2
  go_loopw [6, 12] (fun _ c wr => ∃ j : Nat, j ≤ n ∧ c = .int .i64 j ∧ wr.ownsRow B0 45 2 (.slice (some ⟨g, 0, none⟩) n n) n (ivalsA (spF x dx (y + YY) n j)) ∧ Below B0 wb wr) (fun _ c _ => n - (intOf c).toNat)
  case atStart => exact ⟨0, Nat.zero_le _, rfl, by rw [show spF x dx (y + YY) n 0 = List.replicate (2 * n) 0 from by simp [spF, spL]]; exact hown, hbel⟩
  case round =>
    clear hown hbel
    obtain ⟨j, hj, rfl, hown, hbel⟩ := hrel
    by_cases hlt : j < n
    · have hpb : wr.heap[w.heap.size]? = some (.cells #[.int .i64 x, .int .i64 y, .int .i64 dx, .int .i64 dy, .int .i64 n, .int .i64 B] 24 (0, 0)) := (hbel.block _ (by rw [HB.out]; omega)).trans HBB.out.2.1
      obtain ⟨u0, u1, u2, u3, u4, u5, -⟩ := six_cells hpb
      have hL := spF_len (x := x) (dx := dx) (Y := y + YY) hj
      have cl (q : Nat) (hq : q < 2) : ∃ v, wr.cell? ⟨g, j * 2 + q, none⟩ = some v := by
        rw [hown.cellAt (j * 2 + q) (by omega)]
        exact ⟨_, List.getElem?_eq_getElem (by rw [ivalsA_len, hL]; omega)⟩
      obtain ⟨v0, s0⟩ := cl 0 (by omega)
      obtain ⟨v1, s1⟩ := cl 1 (by omega)
      rw [Nat.add_zero] at s0
      have f0 := hown.frozenAt (j * 2)
      have f1 := hown.frozenAt (j * 2 + 1)
      have HR : Hid _ := sp_stored hlt hown hbel (by rw [HBB.out.2.2]; exact Nat.le_refl _) rfl rfl
      have hm := HK.out j (by omega)
      obtain ⟨M, hM⟩ : ∃ M, (j : Int) * dx = M := ⟨_, rfl⟩
      rw [hM] at hm HR
      clear hown hbel cl hL hpb
      go_wp2
      go_roundw
      case rel => exact ⟨j + 1, by omega, by go_num, HR.out.1, HR.out.2⟩
      case measure => simp [intOf]; omega
    · obtain rfl : j = n := by omega
      have HF : Hid (SpPost w j (spL x dx (y + YY) j) (.returned (.slice (some ⟨g, 0, none⟩) j j)) wr) := by
        have e : spF x dx (y + YY) j j = spL x dx (y + YY) j := by unfold spF; simp
        rw [e] at hown
        have h0 := HBB.out.1
        have hfull : Below w.heap.size w wr := h0.trans (hbel.mono (by rw [HB.out]; omega))
        rcases hown.2 with ⟨h, _⟩ | ⟨b, cap, cur, hv, hb, hh, q1, q2, q3, q4⟩
        · cases h
        · simp only [Value.slice.injEq, Option.some.injEq, Addr.mk.injEq] at hv
          obtain ⟨⟨rfl, -, -⟩, -, rfl⟩ := hv
          refine ⟨g, cur, rfl, hh, fun i hi => ?_, by have := HG.out; omega, hfull⟩
          have := hown.cellAt i (by rw [spL_len] at hi; omega)
          rw [ivalsA_at _ i hi] at this
          simpa [World.cell?, hh] using this
      clear hown hbel
      go_wp2
      go_ret
      exact HF.out
end Go.Proofs.Ytjkhldnjciakkaa
