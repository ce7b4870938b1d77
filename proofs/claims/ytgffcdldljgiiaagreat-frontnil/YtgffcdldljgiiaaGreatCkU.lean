/- Bytes, told piece by piece: slices.Chunk. -/
import Derived.Test.YtgffcdldljgiiaaGreatRfY
import Derived.Test.YtgffcdldljgiiaaGreatRgH
import Derived.Deep.DeepCutAuto
import Derived.Deep.CutBlock
import Derived.Deep.LoopGhost
namespace Go.Proofs.YtgffcdldljgiiaaGreat
open Go.RowKit
attribute [local go_sem] Oper.semAt_some
/-- The closure's two boxes. -/
structure CkB (w : World) (sb nb b off ln lc n : Nat) : Prop where
  s : w.heap[sb]? = some (.cells #[.slice (some ⟨b, off, none⟩) ln lc] 22 (0, 0))
  n : w.heap[nb]? = some (.cells #[.int .i64 n] 3 (0, 0))
theorem CkB.cells {w : World} {sb nb b off ln lc n : Nat} (h : CkB w sb nb b off ln lc n) : w.cell? ⟨sb, 0, none⟩ = some (.slice (some ⟨b, off, none⟩) ln lc) ∧ w.cell? ⟨nb, 0, none⟩ = some (.int .i64 n) := by
  constructor
  · have := h.s; simp [World.cell?, this]
  · have := h.n; simp [World.cell?, this]
theorem CkB.old {w w' : World} {sb nb b off ln lc n : Nat} (h : CkB w sb nb b off ln lc n) (hb : Below w.heap.size w w') : CkB w' sb nb b off ln lc n := ⟨(hb.block _ (lt_of_block h.s)).trans h.s, (hb.block _ (lt_of_block h.n)).trans h.n⟩
set_option maxHeartbeats 1600000 in
set_option maxRecDepth 20000 in
theorem chunk1_any (sb nb b off T lc n N l : Nat) (J : Nat → World → Prop) (Dn : World → Prop) (W0 : World) (hn : 1 ≤ n ∧ n ≤ 4) (hT : N * n = T) (hTb : T ≤ 1000000) (hlc : T ≤ lc) (hlcb : lc ≤ maxLen)
    (hJ : ∀ k W1, J k W1 → CkB W1 sb nb b off T lc n) (hJb : ∀ k W1 W2, J k W1 → Below W1.heap.size W1 W2 → J k W2) (h0 : J 0 W0)
    (hY : ∀ (i : Nat) W1, i < N → J i W1 → YieldAt Fence.wide 3 Tryz.prog l #[.slice (some ⟨b, off + i * n, none⟩) n n] W1 fun e W2 => ∃ b : Bool, e = .returned (.bool b) ∧ (b = true → J (i + 1) W2) ∧ (b = false → Dn W2)) :
    Calls Tryz.prog 277 #[.func (.yield l) #[] #[], .pointer (some ⟨sb, 0, none⟩), .pointer (some ⟨nb, 0, none⟩)] W0 fun e W' => (∃ v, e = .returned v) ∧ (J N W' ∨ Dn W') := by
  obtain ⟨k0, k1⟩ := (hJ 0 W0 h0).cells
  have HJ : Hid ((∀ k W1, J k W1 → CkB W1 sb nb b off T lc n) ∧ (∀ k W1 W2, J k W1 → Below W1.heap.size W1 W2 → J k W2)) := ⟨hJ, hJb⟩
  have H0 : Hid (J 0 W0) := h0
  have HY : Hid (∀ (i : Nat) W1, i < N → J i W1 → YieldAt Fence.wide 3 Tryz.prog l #[.slice (some ⟨b, off + i * n, none⟩) n n] W1 fun e W2 => ∃ b : Bool, e = .returned (.bool b) ∧ (b = true → J (i + 1) W2) ∧ (b = false → Dn W2)) := hY
  have HM : Hid (∀ i, i < N → i * n + n ≤ T ∧ (i + 1) * n = i * n + n) := fun i hi => by
    have h1 : (i + 1) * n = i * n + n := by rw [Nat.add_mul]; omega
    have := Nat.mul_le_mul_right n (show i + 1 ≤ N by omega)
    exact ⟨by omega, h1⟩
  have HT : Hid (N * n = T) := hT
  unfold maxLen at hlcb
  obtain ⟨hn1, hn4⟩ := hn
  clear hJ hJb h0 hY hT
  go_enter Tryz.func277, Tryz.ntmps277
  go_wp2
  go_loopw [4, 5] (fun v _ wr => ∃ i M : Nat, i ≤ N ∧ M = i * n ∧ v = .int .i64 (M : Int) ∧ Hid (J i wr)) (fun v _ _ => T + 1 - (intOf v).toNat)
  case atStart => exact ⟨0, 0, Nat.zero_le _, by simp, rfl, H0⟩
  case round =>
    clear H0 k0 k1
    obtain ⟨i, M, hi, hM, rfl, HJr⟩ := hrel
    obtain ⟨k0, k1⟩ := (HJ.out.1 _ _ HJr.out).cells
    by_cases hlt : i < N
    · obtain ⟨h1, h2⟩ := HM.out i hlt
      rw [← hM] at h1 h2
      have HYi : Hid (∀ w1, Below wr.heap.size wr w1 → YieldAt Fence.wide 3 Tryz.prog l #[.slice (some ⟨b, off + M, none⟩) n n] w1 fun e W2 => ∃ b : Bool, e = .returned (.bool b) ∧ (b = true → J (i + 1) W2) ∧ (b = false → Dn W2)) := fun w1 hb => by
        have := HY.out i w1 hlt (HJ.out.2 _ _ _ HJr.out hb); rwa [← hM] at this
      have HM2 : Hid (M + n = (i + 1) * n) := by show _ = _; rw [hM]; omega
      clear hM h2
      have hlt2 : (M : Int) < (T : Int) := by omega
      have hw1 : IntKind.i64.wrap ((M : Int) + (n : Int)) = (M : Int) + (n : Int) := by rw [IntKind.wrap_i64]; omega
      have d0 : wr.drew.cell? ⟨sb, 0, none⟩ = _ := k0
      have d1 : wr.drew.cell? ⟨nb, 0, none⟩ = _ := k1
      have hmin : n < T - M ∨ n = T - M := by omega
      have hcast : ((T : Int) - (M : Int)) = ((T - M : Nat) : Int) := by omega
      go_upto_region 3 with fail
      have hM0 : (0 : Int) ≤ (M : Int) := by omega
      have hMT : (M : Int) ≤ (T : Int) := by omega
      have hMc : (M : Int) ≤ (lc : Int) := by omega
      have hMl : ¬ lc = M := by omega
      have hsub : ((T - M : Nat) : Int) = (T : Int) - (M : Int) := by omega
      clear hcast
      have hmn : ¬ (T : Int) - (M : Int) < (n : Int) := by omega
      clear hmin
      go_region_held3 (fun u => u.cell? ⟨sb, 0, none⟩ = some (.slice (some ⟨b, off, none⟩) T lc) ∧ u.cell? ⟨nb, 0, none⟩ = some (.int .i64 n))
        (first | (with_reducible exact ⟨by with_reducible assumption, by with_reducible assumption⟩) | go_keep) (fail)
      have hi1 : (M : Int) ≤ (M : Int) + (n : Int) := by omega
      have hi2 : (M : Int) + (n : Int) ≤ (lc : Int) := by omega
      obtain ⟨w2, hw2⟩ : ∃ w2, wr.drew = w2 := ⟨_, rfl⟩
      have hb2 : Below wr.heap.size wr w2 := by rw [← hw2]; exact ⟨rfl, rfl, rfl, Nat.le_refl _, fun _ _ => rfl⟩
      rw [hw2] at d0 d1 ⊢
      obtain ⟨fn, tmps, assign, body, hy, hR⟩ := HYi.out w2 hb2
      have HRd : Hid (RoundIn Fence.wide 3 Tryz.prog l fn tmps assign body w2 fun e W2 => ∃ b : Bool, e = .returned (.bool b) ∧ (b = true → J (i + 1) W2) ∧ (b = false → Dn W2)) := hR
      clear hR HYi HJr hb2 hw2
      go_upto_region 4 with fail
      refine wp_region_yield ?_
      gi_wp2_with fail
      refine HRd.out.mono ?_
      rintro e w4 ⟨bb, rfl, hb1, hb3⟩
      clear HRd hy d0 d1 k0 k1
      cases bb with
      | false =>
        have HD : Hid (Dn w4) := hb3 rfl
        clear hb1 hb3
        gi_wp2
        go_wp2
        exact bodyPost_ret (results_none rfl _ _ _) rfl ⟨⟨_, rfl⟩, .inr HD.out⟩
      | true =>
        have HJ4 : Hid (J (i + 1) w4) := hb1 rfl
        clear hb1 hb3
        obtain ⟨k0, k1⟩ := (HJ.out.1 _ _ HJ4.out).cells
        gi_wp2
        go_wp2
        go_roundw
        case rel => exact ⟨i + 1, M + n, hlt, HM2.out, by go_num, HJ4⟩
        case measure => simp [intOf]; omega
    · obtain rfl : i = N := by omega
      have hMT : M = T := by rw [hM, HT.out]
      have HMT : Hid (M = T) := hMT
      have hge : ¬ (M : Int) < (T : Int) := by omega
      clear hM hMT
      go_wp2
      go_end0
      exact ⟨⟨_, rfl⟩, .inl HJr.out⟩
/-- The closure's two boxes, wherever the bytes lie. -/
structure CkO (w : World) (sb nb : Nat) (a : Option Addr) (ln lc n : Nat) : Prop where
  s : w.heap[sb]? = some (.cells #[.slice a ln lc] 22 (0, 0))
  n : w.heap[nb]? = some (.cells #[.int .i64 n] 3 (0, 0))
theorem CkO.old {w w' : World} {sb nb : Nat} {a : Option Addr} {ln lc n : Nat} (h : CkO w sb nb a ln lc n) (hb : Below w.heap.size w w') : CkO w' sb nb a ln lc n := ⟨(hb.block _ (lt_of_block h.s)).trans h.s, (hb.block _ (lt_of_block h.n)).trans h.n⟩
def ckE (a : Option Addr) (n i : Nat) : Array Value := #[.slice (a.map fun x => ⟨x.block, x.off + i * n, none⟩) n n]
set_option maxHeartbeats 400000 in
theorem chunk0_any (sb nb : Nat) (a : Option Addr) (lc n l : Nat) (W0 : World) (h : CkO W0 sb nb a 0 lc n) :
    Calls Tryz.prog 277 #[.func (.yield l) #[] #[], .pointer (some ⟨sb, 0, none⟩), .pointer (some ⟨nb, 0, none⟩)] W0 fun e W' => (∃ v, e = .returned v) ∧ W' = W0 := by
  have k0 : W0.cell? ⟨sb, 0, none⟩ = some (.slice a 0 lc) := by have := h.s; simp [World.cell?, this]
  clear h
  go_enter Tryz.func277, Tryz.ntmps277
  go_wp2
  go_loopw [4, 5] (fun v _ wr => v = .int .i64 0 ∧ wr = W0) (fun _ _ _ => 0)
  case atStart => exact ⟨rfl, rfl⟩
  case round =>
    obtain ⟨rfl, rfl⟩ := hrel
    go_wp2
    go_end0
    exact ⟨⟨_, rfl⟩, rfl⟩
theorem chunkO_iter (sb nb : Nat) (a : Option Addr) (T lc n N : Nat) (hn : 1 ≤ n ∧ n ≤ 4) (hT : N * n = T) (hTb : T ≤ 1000000) (hlc : T ≤ lc) (hlcb : lc ≤ maxLen) (ha : T ≠ 0 → ∃ b off, a = some ⟨b, off, none⟩) :
    IxIter Tryz.prog 277 #[.pointer (some ⟨sb, 0, none⟩), .pointer (some ⟨nb, 0, none⟩)] (ckE a n) (fun w => CkO w sb nb a T lc n) N := by
  by_cases h0 : T = 0
  · subst h0
    have hN : N = 0 := by
      rcases Nat.mul_eq_zero.1 hT with h | h
      · exact h
      · omega
    subst hN
    intro l J Dn W0 hJ hJb h0 hY
    exact (chunk0_any sb nb a lc n l W0 (hJ 0 W0 h0)).mono fun e W' ⟨h1, h2⟩ => ⟨h1, .inl (by rw [h2]; exact h0)⟩
  · obtain ⟨b, off, rfl⟩ := ha h0
    intro l J Dn W0 hJ hJb h0 hY
    exact chunk1_any sb nb b off T lc n N l J Dn W0 hn hT hTb hlc hlcb (fun k W1 h => ⟨(hJ k W1 h).s, (hJ k W1 h).n⟩) hJb h0 hY
set_option maxHeartbeats 400000 in
theorem chunkO_any (a : Option Addr) (T lc n : Nat) (w : World) (hn : 1 ≤ n) : Calls Tryz.prog 272 #[.slice a T lc, .int .i64 n] w fun e w' => e = .returned (.func (.func 277) #[] #[.pointer (some ⟨w.heap.size, 0, none⟩), .pointer (some ⟨w.heap.size + 1, 0, none⟩)]) ∧ CkO w' w.heap.size (w.heap.size + 1) a T lc n ∧ Below w.heap.size w w' := by
  have HW : Hid (CkO ((w.alloc (.cells #[.slice a T lc] 22)).alloc (.cells #[.int .i64 n] 3)) w.heap.size (w.heap.size + 1) a T lc n ∧ Below w.heap.size w ((w.alloc (.cells #[.slice a T lc] 22)).alloc (.cells #[.int .i64 n] 3))) := by
    refine ⟨⟨?_, ?_⟩, ((Below.refl _ w).alloc (Nat.le_refl _) _).alloc (by simp) _⟩
    · rw [Below.heap_alloc _ _ _ (by simp)]; exact World.alloc_heap_new w _
    · have := World.alloc_heap_new (w.alloc (.cells #[.slice a T lc] 22)) (.cells #[.int .i64 n] 3); rwa [World.size_alloc] at this
  have h1 : ¬ (n : Int) < 1 := by omega
  go_enter Tryz.func272, Tryz.ntmps272
  go_wp2
  go_ret
  exact ⟨rfl, HW.out⟩
end Go.Proofs.YtgffcdldljgiiaaGreat
