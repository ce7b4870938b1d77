/- How many are known; images that are the same. -/
import Derived.Test.YtjheipfcehddhaaCvP
import Derived.Test.YtjheipfcehddhaaCvG
namespace Go.Proofs.Ytjheipfcehddhaa
open Go.RowKit
def cntM (M : Nat → Bool) : Nat → Nat
  | 0 => 0
  | n + 1 => cntM M n + (if M n then 1 else 0)
theorem cntM_le (M : Nat → Bool) : ∀ n, cntM M n ≤ n
  | 0 => Nat.le_refl _
  | n + 1 => by have := cntM_le M n; unfold cntM; split <;> omega
theorem cntM_congr {M G : Nat → Bool} : ∀ n, (∀ i, i < n → M i = G i) → cntM M n = cntM G n
  | 0, _ => rfl
  | n + 1, h => by unfold cntM; rw [cntM_congr n fun i hi => h i (by omega), h n (by omega)]
theorem cntM_upd {M : Nat → Bool} {k : Nat} (h : M k = false) : ∀ n, k < n → cntM (upd M k true) n = cntM M n + 1
  | 0, hk => absurd hk (by omega)
  | n + 1, hk => by
    unfold cntM
    by_cases e : k = n
    · subst e
      rw [cntM_congr (G := M) k (fun i hi => by unfold upd; rw [if_neg (by omega)]), h]
      unfold upd
      simp
    · rw [cntM_upd h n (by omega)]
      have : upd M k true n = M n := by unfold upd; rw [if_neg (by omega)]
      rw [this]; omega
theorem cntM_none : ∀ n, cntM (fun _ => false) n = 0
  | 0 => rfl
  | n + 1 => by unfold cntM; rw [cntM_none n]; rfl
/-- What holds of a canvas between two calls: its number is how many are known; what isn't known is zero. -/
structure Iv (N : Nat) (F : Nat → Col) (M : Nat → Bool) (n : Int) : Prop where
  n : n = cntM M N
  z : ∀ i, i < N → M i = false → F i = z4
theorem Iv.new (N : Nat) : Iv N (fun _ => z4) (fun _ => false) 0 := ⟨by rw [cntM_none]; rfl, fun _ _ _ => rfl⟩
theorem cnt_mk {W H : Int} {N : Nat} {M : Nat → Bool} {S : List (Int × Int)} (hz : Sz W H N) (ha : S.all (onC W H) = true) : ∀ j, j ≤ S.length → frB W M S j = true → cntM (mkM W M S j) N = cntM M N + j
  | 0, _, _ => rfl
  | j + 1, hj, hf => by
    unfold frB at hf
    simp only [Bool.and_eq_true, Bool.not_eq_true'] at hf
    rw [mkM, cntM_upd hf.2 N (hz.ix (all_at ha (by omega))).2.2.2, cnt_mk hz ha j (by omega) hf.1]; omega
theorem px_mk {W : Int} {F : Nat → Col} {M : Nat → Bool} {S : List (Int × Int)} {C : List Col} {N : Nat} (h : ∀ i, i < N → M i = false → F i = z4) : ∀ j i, i < N → mkM W M S j i = false → pxF W F S C j i = z4
  | 0, i, hi, hm => h i hi hm
  | j + 1, i, hi, hm => by
    unfold mkM upd at hm
    unfold pxF upd
    by_cases e : i = ixC W (spA S j)
    · rw [if_pos e] at hm; cases hm
    · rw [if_neg e] at hm
      rw [if_neg e]
      exact px_mk h j i hi hm
theorem Iv.lay {W H : Int} {N : Nat} {F : Nat → Col} {M : Nat → Bool} {n : Int} (h : Iv N F M n) (hz : Sz W H N) (S : List (Int × Int)) (C : List Col) : Iv N (layF W H F M S C) (layM W H M S C.length) (layN W H M S C.length n) := by
  unfold layF layM layN
  by_cases he : layE W H M S C.length = 0
  · simp only [he, if_true]
    have hcond : C.length = S.length ∧ S.all (onC W H) = true ∧ frB W M S S.length = true := by
      unfold layE at he
      by_cases q : C.length = S.length ∧ S.all (onC W H) = true
      · rw [if_pos q] at he
        refine ⟨q.1, q.2, ?_⟩
        cases hf : frB W M S S.length with
        | true => rfl
        | false => rw [hf] at he; simp at he
      · rw [if_neg q] at he; exact absurd he (by decide)
    refine ⟨?_, fun i hi hm => px_mk h.z _ i hi hm⟩
    rw [cnt_mk hz hcond.2.1 _ (Nat.le_refl _) hcond.2.2, h.n]; omega
  · simp only [he, if_false]
    exact h
theorem Iv.bd {N : Nat} {F : Nat → Col} {M : Nat → Bool} {n : Int} (h : Iv N F M n) (hN : N ≤ 65536) : 0 ≤ n ∧ n ≤ 1000000 := by
  have := h.n
  have := cntM_le M N
  omega
set_option maxHeartbeats 800000 in
theorem rcount_any {w : World} {c p k : Nat} {W H : Int} {N : Nat} {F : Nat → Col} {M : Nat → Bool} (h : Rv w c p k W H N F M) : Calls Try.prog 31 #[.pointer (some ⟨c, 0, none⟩)] w fun e w' => e = .returned (.int .i64 (cntM M N)) ∧ w' = w := by
  obtain ⟨k0, k1, k2, k3⟩ := h.cells
  have HK : Hid (KnM w k N M) := h.kn
  have hN := h.sz.m
  clear h
  go_enter Try.func31, Try.ntmps31
  go_wp2
  go_loopw [3, 11] (fun s v wr => ∃ i : Nat, i ≤ N ∧ s = .int .i64 (cntM M i) ∧ v = .int .i64 i ∧ wr = w) (fun _ v _ => N - (intOf v).toNat)
  case atStart => exact ⟨0, Nat.zero_le _, rfl, rfl, rfl⟩
  case round =>
    obtain ⟨i, hi, rfl, rfl, rfl⟩ := hrel
    have hcl := cntM_le M i
    by_cases hlt : i < N
    · have kk := HK.out.cell hlt
      obtain ⟨ct, hct⟩ : ∃ ct, cntM M i = ct := ⟨_, rfl⟩
      have HCT : Hid (cntM M i = ct) := hct
      rw [hct] at hcl ⊢
      clear hct
      obtain ⟨mb, hmb⟩ : ∃ mb, M i = mb := ⟨_, rfl⟩
      have HMB : Hid (M i = mb) := hmb
      rw [hmb] at kk
      clear hmb
      cases mb with
      | true =>
        go_wp2
        go_roundw
        case rel => exact ⟨i + 1, by omega, by rw [cntM, HCT.out, HMB.out]; rfl, by go_num, trivial⟩
        case measure => simp [intOf]; omega
      | false =>
        go_wp2
        go_roundw
        case rel => exact ⟨i + 1, by omega, by rw [cntM, HCT.out, HMB.out]; rfl, by go_num, trivial⟩
        case measure => simp [intOf]; omega
    · obtain rfl : i = N := by omega
      go_wp2
      go_ret
      exact ⟨rfl, rfl⟩
theorem img2_boxC (w : World) (W H : Int) (v1 v2 : Value) : Below w.heap.size w ((w.alloc (.cells #[.int .i64 W, .int .i64 H, v1] 41)).alloc (.cells #[.int .i64 W, .int .i64 H, v2] 41)) := ((Below.refl _ w).alloc (Nat.le_refl _) _).alloc (by simp) _
set_option maxHeartbeats 3200000 in
theorem csame_any (W H : Int) (N : Nat) (F : Nat → Col) (g1 g2 c1 c2 : Nat) (w : World) (hN : N ≤ 65536) (h1 : PxM w g1 N F) (h2 : PxM w g2 N F) :
    Calls Try.prog 15 #[.agg #[.int .i64 W, .int .i64 H, .slice (some ⟨g1, 0, none⟩) N c1], .agg #[.int .i64 W, .int .i64 H, .slice (some ⟨g2, 0, none⟩) N c2]] w fun e w' => e = .returned (.bool true) ∧ Below w.heap.size w w' := by
  obtain ⟨w1, hw1⟩ : ∃ w1, (w.alloc (.cells #[.int .i64 W, .int .i64 H, .slice (some ⟨g1, 0, none⟩) N c1] 41)).alloc (.cells #[.int .i64 W, .int .i64 H, .slice (some ⟨g2, 0, none⟩) N c2] 41) = w1 := ⟨_, rfl⟩
  have hb : Below w.heap.size w w1 := by rw [← hw1]; exact img2_boxC w W H _ _
  have hx : w1.heap[w.heap.size]? = some (.cells #[.int .i64 W, .int .i64 H, .slice (some ⟨g1, 0, none⟩) N c1] 41 (0, 0)) := by rw [← hw1, Below.heap_alloc _ _ _ (by simp)]; exact World.alloc_heap_new w _
  have hy : w1.heap[w.heap.size + 1]? = some (.cells #[.int .i64 W, .int .i64 H, .slice (some ⟨g2, 0, none⟩) N c2] 41 (0, 0)) := by
    rw [← hw1]
    have := World.alloc_heap_new (w.alloc (.cells #[.int .i64 W, .int .i64 H, .slice (some ⟨g1, 0, none⟩) N c1] 41)) (.cells #[.int .i64 W, .int .i64 H, .slice (some ⟨g2, 0, none⟩) N c2] 41); rwa [World.size_alloc] at this
  have HS : Hid (Below w.heap.size w w1 ∧ PxM w1 g1 N F ∧ PxM w1 g2 N F) := ⟨hb, h1.same (hb.block _ h1.lt), h2.same (hb.block _ h2.lt)⟩
  obtain ⟨k0, k1, k2, -⟩ := three_cells hx
  obtain ⟨l0, l1, l2, -⟩ := three_cells hy
  clear hb hx hy h1 h2
  go_enter Try.func15, Try.ntmps15
  go_wp2
  go_loopw [5, 30] (fun _ v wr => ∃ i m : Nat, i ≤ N ∧ v = .int .i64 i ∧ wr = w1.drewN m) (fun _ v _ => N - (intOf v).toNat)
  case atStart => exact ⟨0, 0, Nat.zero_le _, rfl, rfl⟩
  case round =>
    obtain ⟨i, m, hi, rfl, rfl⟩ := hrel
    by_cases hlt : i < N
    · obtain ⟨p0, p1, p2, p3⟩ := HS.out.2.1.cells hlt
      obtain ⟨q0, q1, q2, q3⟩ := HS.out.2.2.cells hlt
      generalize F i = f at *
      obtain ⟨x, y, z, u⟩ := f
      dsimp only at p0 p1 p2 p3 q0 q1 q2 q3
      go_wp2
      go_quiet (fail)
      go_wp2
      exact ⟨⟨i + 1, _, by omega, by go_num, rfl⟩, by simp [intOf]; omega⟩
    · obtain rfl : i = N := by omega
      go_wp2
      go_ret
      exact ⟨rfl, HS.out.1.trans ⟨rfl, rfl, rfl, Nat.le_refl _, fun _ _ => rfl⟩⟩
/-- The place of the i-th pixel. -/
theorem place_of {W H : Int} {N : Nat} (h : Sz W H N) {i : Nat} (hi : i < N) : onC W H ((i : Int) % W, (i : Int) / W) = true ∧ ixC W ((i : Int) % W, (i : Int) / W) = i := by
  have h1 := h.w1
  have hm := Int.emod_nonneg (i : Int) (show W ≠ 0 by omega)
  have hl := Int.emod_lt_of_pos (i : Int) (show 0 < W by omega)
  have hd := Int.ediv_nonneg (show (0 : Int) ≤ (i : Int) by omega) (show 0 ≤ W by omega)
  have hdl : (i : Int) / W < H := Int.ediv_lt_of_lt_mul (by omega) (by rw [Int.mul_comm, h.n]; omega)
  refine ⟨(onC_iff W H _).2 ⟨hm, hl, hd, hdl⟩, ?_⟩
  unfold ixC
  have e : (i : Int) / W * W + (i : Int) % W = i := by rw [Int.mul_comm]; exact Int.mul_ediv_add_emod _ _
  simp only
  omega
theorem at_place {W H : Int} {N : Nat} {F : Nat → Col} {M : Nat → Bool} {n : Int} (h : Sz W H N) (hv : Iv N F M n) {i : Nat} (hi : i < N) : atB W H M ((i : Int) % W, (i : Int) / W) = M i ∧ atV W H F M ((i : Int) % W, (i : Int) / W) = F i := by
  obtain ⟨h1, h2⟩ := place_of h hi
  have e : atB W H M ((i : Int) % W, (i : Int) / W) = M i := by unfold atB; rw [h1, h2]; rfl
  refine ⟨e, ?_⟩
  unfold atV
  rw [e, h2]
  cases hM : M i with
  | true => rfl
  | false => rw [hv.z i hi hM]; rfl
end Go.Proofs.Ytjheipfcehddhaa
