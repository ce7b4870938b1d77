/- Joined: PzP PzQ PzR. -/
import Derived.Test.YtbjoalgglmalnaaDoorRfY
import Derived.Test.YtbjoalgglmalnaaDoorRgH
import Derived.Test.YtbjoalgglmalnaaDoorPxD
import Derived.Deep.DeepCutAuto
import Derived.Deep.CutBlock
import Derived.Deep.LoopGhost
import Derived.Test.YtbjoalgglmalnaaDoorPzO
import Derived.Laws.MakeOwn
/- A row of ints, told piece by piece: slices.Chunk. -/
namespace Go.Proofs.YtbjoalgglmalnaaDoor
open Go.RowKit
attribute [local go_sem] Oper.semAt_some
/-- The closure's two boxes. -/
structure CkB (w : World) (sb nb b off ln lc n : Nat) : Prop where
  s : w.heap[sb]? = some (.cells #[.slice (some ⟨b, off, none⟩) ln lc] 22 (0, 0))
  n : w.heap[nb]? = some (.cells #[.int .i64 n] 3 (0, 0))
theorem CkB.cells {w : World} {sb nb b off ln lc n : Nat} (h : CkB w sb nb b off ln lc n) : w.cell? ⟨sb, 0, none⟩ = some (.slice (some ⟨b, off, none⟩) ln lc) ∧ w.cell? ⟨nb, 0, none⟩ = some (.int .i64 n) := by
  constructor
  · have := h.s; simp [World.cell?, this]
  · have := h.n; simp [World.cell?, this]
theorem CkB.old {w w' : World} {sb nb b off ln lc n : Nat} (h : CkB w sb nb b off ln lc n) (hb : Below w.heap.size w w') : CkB w' sb nb b off ln lc n := ⟨(hb.block _ (lt_of_block h.s)).trans h.s, (hb.block _ (lt_of_block h.n)).trans h.n⟩
set_option maxHeartbeats 1600000 in
set_option maxRecDepth 20000 in
theorem chunk1_any (sb nb b off T lc n N l : Nat) (J : Nat → World → Prop) (Dn : World → Prop) (W0 : World) (hn : 1 ≤ n ∧ n ≤ 4) (hT : N * n = T) (hTb : T ≤ 1000000) (hlc : T ≤ lc) (hlcb : lc ≤ maxLen)
    (hJ : ∀ k W1, J k W1 → CkB W1 sb nb b off T lc n) (hJb : ∀ k W1 W2, J k W1 → Below W1.heap.size W1 W2 → J k W2) (h0 : J 0 W0)
    (hY : ∀ (i : Nat) W1, i < N → J i W1 → YieldAt Fence.wide 3 Tryd.prog l #[.slice (some ⟨b, off + i * n, none⟩) n n] W1 fun e W2 => ∃ b : Bool, e = .returned (.bool b) ∧ (b = true → J (i + 1) W2) ∧ (b = false → Dn W2)) :
    Calls Tryd.prog 45 #[.func (.yield l) #[] #[], .pointer (some ⟨sb, 0, none⟩), .pointer (some ⟨nb, 0, none⟩)] W0 fun e W' => (∃ v, e = .returned v) ∧ (J N W' ∨ Dn W') := by
  obtain ⟨k0, k1⟩ := (hJ 0 W0 h0).cells
  have HJ : Hid ((∀ k W1, J k W1 → CkB W1 sb nb b off T lc n) ∧ (∀ k W1 W2, J k W1 → Below W1.heap.size W1 W2 → J k W2)) := ⟨hJ, hJb⟩
  have H0 : Hid (J 0 W0) := h0
  have HY : Hid (∀ (i : Nat) W1, i < N → J i W1 → YieldAt Fence.wide 3 Tryd.prog l #[.slice (some ⟨b, off + i * n, none⟩) n n] W1 fun e W2 => ∃ b : Bool, e = .returned (.bool b) ∧ (b = true → J (i + 1) W2) ∧ (b = false → Dn W2)) := hY
  have HM : Hid (∀ i, i < N → i * n + n ≤ T ∧ (i + 1) * n = i * n + n) := fun i hi => by
    have h1 : (i + 1) * n = i * n + n := by rw [Nat.add_mul]; omega
    have := Nat.mul_le_mul_right n (show i + 1 ≤ N by omega)
    exact ⟨by omega, h1⟩
  have HT : Hid (N * n = T) := hT
  unfold maxLen at hlcb
  obtain ⟨hn1, hn4⟩ := hn
  clear hJ hJb h0 hY hT
  go_enter Tryd.func45, Tryd.ntmps45
  go_wp2
  go_loopw [4, 5] (fun v _ wr => ∃ i M : Nat, i ≤ N ∧ M = i * n ∧ v = .int .i64 (M : Int) ∧ Hid (J i wr)) (fun v _ _ => T + 1 - (intOf v).toNat)
  case atStart => exact ⟨0, 0, Nat.zero_le _, by simp, rfl, H0⟩
  case round =>
    clear H0 k0 k1
    obtain ⟨i, M, hi, hM, rfl, HJr⟩ := hrel
    obtain ⟨k0, k1⟩ := (HJ.out.1 _ _ HJr.out).cells
    by_cases hlt : i < N
    · obtain ⟨h1, h2⟩ := HM.out i hlt
      rw [← hM] at h1 h2
      have HYi : Hid (∀ w1, Below wr.heap.size wr w1 → YieldAt Fence.wide 3 Tryd.prog l #[.slice (some ⟨b, off + M, none⟩) n n] w1 fun e W2 => ∃ b : Bool, e = .returned (.bool b) ∧ (b = true → J (i + 1) W2) ∧ (b = false → Dn W2)) := fun w1 hb => by
        have := HY.out i w1 hlt (HJ.out.2 _ _ _ HJr.out hb); rwa [← hM] at this
      have HM2 : Hid (M + n = (i + 1) * n) := by show _ = _; rw [hM]; omega
      clear hM h2
      have hlt2 : (M : Int) < (T : Int) := by omega
      have hw1 : IntKind.i64.wrap ((M : Int) + (n : Int)) = (M : Int) + (n : Int) := by rw [IntKind.wrap_i64]; omega
      have d0 : wr.drew.cell? ⟨sb, 0, none⟩ = _ := k0
      have d1 : wr.drew.cell? ⟨nb, 0, none⟩ = _ := k1
      have hmin : n < T - M ∨ n = T - M := by omega
      have hcast : ((T : Int) - (M : Int)) = ((T - M : Nat) : Int) := by omega
      go_upto_region 3 with fail
      have hM0 : (0 : Int) ≤ (M : Int) := by omega
      have hMT : (M : Int) ≤ (T : Int) := by omega
      have hMc : (M : Int) ≤ (lc : Int) := by omega
      have hMl : ¬ lc = M := by omega
      have hsub : ((T - M : Nat) : Int) = (T : Int) - (M : Int) := by omega
      clear hcast
      have hmn : ¬ (T : Int) - (M : Int) < (n : Int) := by omega
      clear hmin
      go_region_held3 (fun u => u.cell? ⟨sb, 0, none⟩ = some (.slice (some ⟨b, off, none⟩) T lc) ∧ u.cell? ⟨nb, 0, none⟩ = some (.int .i64 n))
        (first | (with_reducible exact ⟨by with_reducible assumption, by with_reducible assumption⟩) | go_keep) (fail)
      have hi1 : (M : Int) ≤ (M : Int) + (n : Int) := by omega
      have hi2 : (M : Int) + (n : Int) ≤ (lc : Int) := by omega
      obtain ⟨w2, hw2⟩ : ∃ w2, wr.drew = w2 := ⟨_, rfl⟩
      have hb2 : Below wr.heap.size wr w2 := by rw [← hw2]; exact ⟨rfl, rfl, rfl, Nat.le_refl _, fun _ _ => rfl⟩
      rw [hw2] at d0 d1 ⊢
      obtain ⟨fn, tmps, assign, body, hy, hR⟩ := HYi.out w2 hb2
      have HRd : Hid (RoundIn Fence.wide 3 Tryd.prog l fn tmps assign body w2 fun e W2 => ∃ b : Bool, e = .returned (.bool b) ∧ (b = true → J (i + 1) W2) ∧ (b = false → Dn W2)) := hR
      clear hR HYi HJr hb2 hw2
      go_upto_region 4 with fail
      refine wp_region_yield ?_
      gi_wp2_with fail
      refine HRd.out.mono ?_
      rintro e w4 ⟨bb, rfl, hb1, hb3⟩
      clear HRd hy d0 d1 k0 k1
      cases bb with
      | false =>
        have HD : Hid (Dn w4) := hb3 rfl
        clear hb1 hb3
        gi_wp2
        go_wp2
        exact bodyPost_ret (results_none rfl _ _ _) rfl ⟨⟨_, rfl⟩, .inr HD.out⟩
      | true =>
        have HJ4 : Hid (J (i + 1) w4) := hb1 rfl
        clear hb1 hb3
        obtain ⟨k0, k1⟩ := (HJ.out.1 _ _ HJ4.out).cells
        gi_wp2
        go_wp2
        go_roundw
        case rel => exact ⟨i + 1, M + n, hlt, HM2.out, by go_num, HJ4⟩
        case measure => simp [intOf]; omega
    · obtain rfl : i = N := by omega
      have hMT : M = T := by rw [hM, HT.out]
      have HMT : Hid (M = T) := hMT
      have hge : ¬ (M : Int) < (T : Int) := by omega
      clear hM hMT
      go_wp2
      go_end0
      exact ⟨⟨_, rfl⟩, .inl HJr.out⟩
theorem chunk_iter (sb nb b off T lc n N : Nat) (hn : 1 ≤ n ∧ n ≤ 4) (hT : N * n = T) (hTb : T ≤ 1000000) (hlc : T ≤ lc) (hlcb : lc ≤ maxLen) :
    IxIter Tryd.prog 45 #[.pointer (some ⟨sb, 0, none⟩), .pointer (some ⟨nb, 0, none⟩)] (fun i => #[.slice (some ⟨b, off + i * n, none⟩) n n]) (fun w => CkB w sb nb b off T lc n) N := by
  intro l J Dn W0 hJ hJb h0 hY
  exact chunk1_any sb nb b off T lc n N l J Dn W0 hn hT hTb hlc hlcb hJ hJb h0 hY
set_option maxHeartbeats 400000 in
theorem chunk_any (b off T lc n : Nat) (w : World) (hn : 1 ≤ n) : Calls Tryd.prog 36 #[.slice (some ⟨b, off, none⟩) T lc, .int .i64 n] w fun e w' => e = .returned (.func (.func 45) #[] #[.pointer (some ⟨w.heap.size, 0, none⟩), .pointer (some ⟨w.heap.size + 1, 0, none⟩)]) ∧ CkB w' w.heap.size (w.heap.size + 1) b off T lc n ∧ Below w.heap.size w w' := by
  have HW : Hid (CkB ((w.alloc (.cells #[.slice (some ⟨b, off, none⟩) T lc] 22)).alloc (.cells #[.int .i64 n] 3)) w.heap.size (w.heap.size + 1) b off T lc n ∧ Below w.heap.size w ((w.alloc (.cells #[.slice (some ⟨b, off, none⟩) T lc] 22)).alloc (.cells #[.int .i64 n] 3))) := by
    refine ⟨⟨?_, ?_⟩, ((Below.refl _ w).alloc (Nat.le_refl _) _).alloc (by simp) _⟩
    · rw [Below.heap_alloc _ _ _ (by simp)]; exact heap_alloc_newX w _
    · have := heap_alloc_newX (w.alloc (.cells #[.slice (some ⟨b, off, none⟩) T lc] 22)) (.cells #[.int .i64 n] 3); rwa [World.size_alloc] at this
  have h1 : ¬ (n : Int) < 1 := by omega
  go_enter Tryd.func36, Tryd.ntmps36
  go_wp2
  go_ret
  exact ⟨rfl, HW.out⟩
end Go.Proofs.YtbjoalgglmalnaaDoor
/- A pixel's colour within an image: by the program and by the document. -/
namespace Go.Proofs.YtbjoalgglmalnaaDoor
open Go.RowKit
/-- One answer of a call of colour, from any later world. -/
def ColC (w : World) (r : Rs) (la : Option Addr) (ln : Nat) (a b c d : Int) : Prop :=
  ∀ lc u, Below w.heap.size w u → Calls Tryd.prog 34 #[r.V, .slice la ln lc] u fun en w' => en = .returned (.agg #[.int .u16 a, .int .u16 b, .int .u16 c, .int .u16 d]) ∧ Below u.heap.size u w'
theorem both_col (r : Rs) (sa' : Option Addr) (sc' : Nat) (A K S T : List Int) (la la' : Option Addr) (ln : Nat) (l : List Int) (w : World) (hm : RsM w r A K S) (hm' : RsM w { r with sa := sa', sc := sc' } A K S) (hti : TiM w r T) (hl : IRow w la l) (hl' : IRow w la' l) (hln : l.length = ln) (hk : ckE r.W r.H r.C r.D r.tn A K = 0) (hs : smE r.C r.D r.tn l 1 = 0) :
    ∃ a b c d, ColC w { r with sa := sa', sc := sc' } la' ln a b c d ∧ ∀ lc, OfC 20 w r la ln lc a b c d 0 := by
      obtain ⟨_, hdp, hCs⟩ := isPr_d (ckE_may hk).2.2.1
      obtain ⟨s1, s2, s3⟩ := smE_len hs
      have hmh := ckE_mh hk
      obtain ⟨d, hD⟩ : ∃ d : Nat, r.D = d := ⟨r.D.toNat, by unfold isDp at hdp; omega⟩
      rw [hD] at hdp
      rw [Int.one_mul] at s1
      rw [hD, Int.toNat_natCast] at s2
      have hkn := hm.kn
      rcases hCs with hC | hC | hC | hC | hC
      · -- 0
        rw [hC, show spN 0 = 1 from rfl] at s1
        obtain ⟨v0, rfl⟩ := len1 (l := l) (by omega)
        obtain rfl : ln = 1 := hln.symm
        have b0 := s2 v0 (by simp)
        have cv : ∀ lc u, Below w.heap.size w u → _ := fun lc u h => colour_any { r with sa := sa', sc := sc' } A K S la' 1 lc d [v0] u (hm'.old h) (hl'.old h) rfl (.inl hC) hdp hD s2 (by omega)
        have e1 : ∀ cv, coN r.C (arrL d [v0] 1) cv = .agg #[.int .u16 (lvN d v0), .int .u16 (lvN d v0), .int .u16 (lvN d v0), .int .u16 cv] := fun cv => by
          unfold coN; rw [if_pos hC]; rfl
        by_cases hcn : r.cn = 0
        · have hK : K = [] := List.length_eq_zero_iff.1 (by omega)
          refine ⟨_, _, _, 65535, fun lc u h => ?_, fun lc u h => rof_0_none r A K S la lc d v0 u (hm.old h) (hl.old h) hC hD hdp hk hs b0 hcn⟩
          have := cv lc u h
          dsimp only at this
          rw [e1, show cvN K [v0] = 65535 from by unfold cvN; rw [if_neg (by rw [hK]; simp)]] at this
          exact this
        · by_cases hKl : K = [v0]
          · refine ⟨_, _, _, 0, fun lc u h => ?_, fun lc u h => rof_0_same r A K S la lc d v0 u (hm.old h) (hl.old h) hC hD hdp hk hs b0 hcn hKl⟩
            have := cv lc u h
            dsimp only at this
            rw [e1, show cvN K [v0] = 0 from by unfold cvN; rw [if_pos hKl]] at this
            exact this
          · refine ⟨_, _, _, 65535, fun lc u h => ?_, fun lc u h => rof_0_unlike r A K S la lc d v0 u (hm.old h) (hl.old h) hC hD hdp hk hs b0 hcn hKl⟩
            have := cv lc u h
            dsimp only at this
            rw [e1, show cvN K [v0] = 65535 from by unfold cvN; rw [if_neg hKl]] at this
            exact this
      · -- 2
        rw [hC, show spN 2 = 3 from rfl] at s1
        obtain ⟨v0, v1, v2, rfl⟩ := len3 (l := l) (by omega)
        obtain rfl : ln = 3 := hln.symm
        have b0 := s2 v0 (by simp)
        have b1 := s2 v1 (by simp)
        have b2 := s2 v2 (by simp)
        have cv : ∀ lc u, Below w.heap.size w u → _ := fun lc u h => colour_any { r with sa := sa', sc := sc' } A K S la' 3 lc d [v0, v1, v2] u (hm'.old h) (hl'.old h) rfl (.inr (.inl hC)) hdp hD s2 (by omega)
        have e1 : ∀ cv, coN r.C (arrL d [v0, v1, v2] 3) cv = .agg #[.int .u16 (lvN d v0), .int .u16 (lvN d v1), .int .u16 (lvN d v2), .int .u16 cv] := fun cv => by
          unfold coN; rw [if_neg (by omega), if_neg (by omega), if_pos hC]; rfl
        by_cases hcn : r.cn = 0
        · have hK : K = [] := List.length_eq_zero_iff.1 (by omega)
          refine ⟨_, _, _, 65535, fun lc u h => ?_, fun lc u h => rof_2_none r A K S la lc d v0 v1 v2 u (hm.old h) (hl.old h) hC hD hdp hk hs b0 b1 b2 hcn⟩
          have := cv lc u h
          dsimp only at this
          rw [e1, show cvN K [v0, v1, v2] = 65535 from by unfold cvN; rw [if_neg (by rw [hK]; simp)]] at this
          exact this
        · by_cases hKl : K = [v0, v1, v2]
          · refine ⟨_, _, _, 0, fun lc u h => ?_, fun lc u h => rof_2_same r A K S la lc d v0 v1 v2 u (hm.old h) (hl.old h) hC hD hdp hk hs b0 b1 b2 hcn hKl⟩
            have := cv lc u h
            dsimp only at this
            rw [e1, show cvN K [v0, v1, v2] = 0 from by unfold cvN; rw [if_pos hKl]] at this
            exact this
          · refine ⟨_, _, _, 65535, fun lc u h => ?_, fun lc u h => rof_2_unlike r A K S la lc d v0 v1 v2 u (hm.old h) (hl.old h) hC hD hdp hk hs b0 b1 b2 hcn hKl⟩
            have := cv lc u h
            dsimp only at this
            rw [e1, show cvN K [v0, v1, v2] = 65535 from by unfold cvN; rw [if_neg hKl]] at this
            exact this
      · -- 3
        rw [hC, show spN 3 = 1 from rfl] at s1
        have s3' := s3 hC
        obtain ⟨v0, rfl⟩ := len1 (l := l) (by omega)
        obtain rfl : ln = 1 := hln.symm
        have b0 := s3' v0 (by simp)
        obtain ⟨i, rfl⟩ := Int.eq_ofNat_of_zero_le b0.1
        unfold mhN at hmh
        rw [if_pos hC] at hmh
        have hcn : r.cn = 0 := by have := hmh.2.2.2.2; omega
        refine ⟨_, _, _, _, fun lc u h => ?_, fun lc u h => rof_3 r A K S la lc d i T u (hti.old h) (by omega) hmh.2.2.2.1 (hm.old h) (hl.old h) hC hD hdp hk hs hcn⟩
        exact colour3_any { r with sa := sa', sc := sc' } A K S T la' lc i u (hm'.old h) (hti.old h) (hl'.old h) hC (show i < r.tn by omega) hmh.2.2.2.1
      · -- 4
        rw [hC, show spN 4 = 2 from rfl] at s1
        obtain ⟨v0, v1, rfl⟩ := len2 (l := l) (by omega)
        obtain rfl : ln = 2 := hln.symm
        have b0 := s2 v0 (by simp)
        have b1 := s2 v1 (by simp)
        unfold mhN at hmh
        rw [if_neg (by omega), if_neg (by omega)] at hmh
        have hcn : r.cn = 0 := by have := hmh.2.2; omega
        have e1 : ∀ cv, coN r.C (arrL d [v0, v1] 2) cv = .agg #[.int .u16 (lvN d v0), .int .u16 (lvN d v0), .int .u16 (lvN d v0), .int .u16 (lvN d v1)] := fun cv => by
          unfold coN; rw [if_neg (by omega), if_pos hC]; rfl
        refine ⟨_, _, _, _, fun lc u h => ?_, fun lc u h => rof_4_none r A K S la lc d v0 v1 u (hm.old h) (hl.old h) hC hD hdp hk hs b0 b1 hcn⟩
        have := colour_any { r with sa := sa', sc := sc' } A K S la' 2 lc d [v0, v1] u (hm'.old h) (hl'.old h) rfl (.inr (.inr (.inl hC))) hdp hD s2 (by omega)
        dsimp only at this
        rw [e1] at this
        exact this
      · -- 6
        rw [hC, show spN 6 = 4 from rfl] at s1
        obtain ⟨v0, v1, v2, v3, rfl⟩ := len4 (l := l) (by omega)
        obtain rfl : ln = 4 := hln.symm
        have b0 := s2 v0 (by simp)
        have b1 := s2 v1 (by simp)
        have b2 := s2 v2 (by simp)
        have b3 := s2 v3 (by simp)
        unfold mhN at hmh
        rw [if_neg (by omega), if_neg (by omega)] at hmh
        have hcn : r.cn = 0 := by have := hmh.2.2; omega
        have e1 : ∀ cv, coN r.C (arrL d [v0, v1, v2, v3] 4) cv = .agg #[.int .u16 (lvN d v0), .int .u16 (lvN d v1), .int .u16 (lvN d v2), .int .u16 (lvN d v3)] := fun cv => by
          unfold coN; rw [if_neg (by omega), if_neg (by omega), if_neg (by omega)]; rfl
        refine ⟨_, _, _, _, fun lc u h => ?_, fun lc u h => rof_6_none r A K S la lc d v0 v1 v2 v3 u (hm.old h) (hl.old h) hC hD hdp hk hs b0 b1 b2 b3 hcn⟩
        have := colour_any { r with sa := sa', sc := sc' } A K S la' 4 lc d [v0, v1, v2, v3] u (hm'.old h) (hl'.old h) rfl (.inr (.inr (.inr hC))) hdp hD s2 (by omega)
        dsimp only at this
        rw [e1] at this
        exact this
end Go.Proofs.YtbjoalgglmalnaaDoor
/- All colours: the program's Image. -/
namespace Go.Proofs.YtbjoalgglmalnaaDoor
open Go.RowKit
attribute [local go_sem] Oper.semAt_some
/-- Colours, four numbers each. -/
def c4 (F : Nat → Int × Int × Int × Int) (i : Nat) : List Value := [.int .u16 (F i).1, .int .u16 (F i).2.1, .int .u16 (F i).2.2.1, .int .u16 (F i).2.2.2]
def colL (F : Nat → Int × Int × Int × Int) (k : Nat) : List Value := (List.range k).flatMap (c4 F)
theorem colL_snoc (F : Nat → Int × Int × Int × Int) (k : Nat) : colL F (k + 1) = colL F k ++ c4 F k := by simp [colL, List.range_succ]
theorem colL_len (F : Nat → Int × Int × Int × Int) (k : Nat) : (colL F k).length = 4 * k := by
  induction k with
  | zero => simp [colL]
  | succ k ih => rw [colL_snoc, List.length_append, ih]; simp [c4]; omega
theorem colL_at (F : Nat → Int × Int × Int × Int) (k i j : Nat) (hi : i < k) (hj : j < 4) : (colL F k)[4 * i + j]? = (c4 F i)[j]? := by
  induction k with
  | zero => omega
  | succ k ih =>
    rw [colL_snoc]
    by_cases h : i < k
    · rw [List.getElem?_append_left (by rw [colL_len]; omega), ih h]
    · obtain rfl : i = k := by omega
      rw [List.getElem?_append_right (by rw [colL_len]; omega), colL_len]
      congr 1; omega
theorem owns_cells {w w' : World} {base : Nat} {e : TypeId} {size : Nat} {v : Value} {n : Nat} {xs : List Value} (h : w.ownsRow base e size v n xs) (hs : ∀ (k : Nat) c, v.ownBlock = some k → w.heap[k]? = some (.cells c e (0, 0)) → w'.heap[k]? = some (.cells c e (0, 0))) : w'.ownsRow base e size v n xs := by
  rcases h.2 with ⟨rfl, h0⟩ | ⟨g, cap, cur, rfl, hb, hh, h1, h2, h3, h4⟩
  · exact ⟨h.1, .inl ⟨rfl, h0⟩⟩
  · exact ⟨h.1, .inr ⟨g, cap, cur, rfl, hb, hs g cur rfl hh, h1, h2, h3, h4⟩⟩
theorem owns_tag {w : World} {base : Nat} {e : TypeId} {size : Nat} {v : Value} {n : Nat} {xs : List Value} (h : w.ownsRow base e size v n xs) {k : Nat} (hk : v.ownBlock = some k) : base ≤ k ∧ ∃ c, w.heap[k]? = some (.cells c e (0, 0)) := by
  rcases h.2 with ⟨rfl, h0⟩ | ⟨g, cap, cur, rfl, hb, hh, _⟩
  · cases hk
  · cases hk; exact ⟨hb, cur, hh⟩
theorem Tryd.infoCo : (Tryd.prog.info? 45).map (fun i => (i.zero, i.size, i.bytes)) = some (some (.agg #[.int .u16 0, .int .u16 0, .int .u16 0, .int .u16 0]), 4, 8) := by kernel_rfl
/-- Between two rounds. -/
structure ImI (w : World) (r : Rs) (mb sb nb b off T lc n : Nat) (F : Nat → Int × Int × Int × Int) (k : Nat) (wr : World) : Prop where
  qr : QR w r.c9 wr
  rs : wr.heap[w.heap.size + 1]? = some (.cells #[.int .i64 0, .int .i64 0, .slice none 0 0] 51 (0, 0))
  ob : ∃ v, wr.heap[mb]? = some (.cells #[.int .i64 r.W, .int .i64 r.H, v] 51 (0, 0)) ∧ wr.ownsRow w.heap.size 45 4 v k (colL F k)
  ck : CkB wr sb nb b off T lc n
  mbl : w.heap.size + 1 < mb
theorem ImI.cells {w : World} {r : Rs} {mb sb nb b off T lc n : Nat} {F : Nat → Int × Int × Int × Int} {k : Nat} {wr w' : World} (h : ImI w r mb sb nb b off T lc n F k wr) (hb : Below w.heap.size wr w') (hs : ∀ (k : Nat) c t f, wr.heap[k]? = some (.cells c t f) → w'.heap[k]? = some (.cells c t f)) : ImI w r mb sb nb b off T lc n F k w' := by
  obtain ⟨v, h1, h2⟩ := h.ob
  exact ⟨⟨h.qr.1.trans (hb.mono (Nat.le_refl _)), hs _ _ _ _ h.qr.2⟩, hs _ _ _ _ h.rs, ⟨v, hs _ _ _ _ h1, owns_cells h2 fun k c _ hk => hs k c _ _ hk⟩, ⟨hs _ _ _ _ h.ck.s, hs _ _ _ _ h.ck.n⟩, h.mbl⟩
theorem ImI.old {w : World} {r : Rs} {mb sb nb b off T lc n : Nat} {F : Nat → Int × Int × Int × Int} {k : Nat} {wr w' : World} (h : ImI w r mb sb nb b off T lc n F k wr) (hb : Below wr.heap.size wr w') : ImI w r mb sb nb b off T lc n F k w' :=
  h.cells (hb.mono h.qr.1.size) fun _ _ _ _ hk => (hb.block _ (lt_of_block hk)).trans hk
theorem ImI.ig {w : World} {r : Rs} {mb sb nb b off T lc n : Nat} {F : Nat → Int × Int × Int × Int} {k l D : Nat} {wr w' : World} (h : ImI w r mb sb nb b off T lc n F k wr) (hi : Ig l D wr w') (hl : w.heap.size ≤ l) (hD : w.heap.size ≤ D) : ImI w r mb sb nb b off T lc n F k w' :=
  h.cells ⟨hi.os, hi.tape, hi.output, hi.size, fun j hj => hi.block j (by have := h.qr.1.size; omega) (by omega) (by omega)⟩ fun _ _ _ _ hk => hi.cells hk
/-- A colour more. -/
theorem ImI.push {w : World} {r : Rs} {mb sb nb b off T lc n : Nat} {F : Nat → Int × Int × Int × Int} {k l D : Nat} {wr w7 : World} {v v7 : Value} {va : Array Value} {r1 : Loop} {r2 : Option (List Deferred)} (h : ImI w r mb sb nb b off T lc n F k wr)
    (h1 : wr.heap[mb]? = some (.cells #[.int .i64 r.W, .int .i64 r.H, v] 51 (0, 0))) (h2 : wr.ownsRow w.heap.size 45 4 v k (colL F k)) (h7 : w7.ownsRow w.heap.size 45 4 v7 (k + 1) (colL F k ++ c4 F k)) (hg : (wr.alloc (.cells va 45)).grownBy w7 v.ownBlock) (hl : wr.heap[l]? = some (.loop r1)) (hD : wr.heap[D]? = some (.deferred r2)) :
    w7.cell? ⟨mb, 2, none⟩ = some v ∧ w7.frozen? ⟨mb, 2, none⟩ = false ∧ QR w r.c9 w7 ∧ QR w r.c9 (w7.setCell ⟨mb, 2, none⟩ v7) ∧ ImI w r mb sb nb b off T lc n F (k + 1) (w7.setCell ⟨mb, 2, none⟩ v7) ∧ (w7.setCell ⟨mb, 2, none⟩ v7).heap[l]? = wr.heap[l]? ∧ (w7.setCell ⟨mb, 2, none⟩ v7).heap[D]? = wr.heap[D]? := by
  have hba : Below wr.heap.size wr (wr.alloc (.cells va 45)) := (Below.refl _ wr).alloc (Nat.le_refl _) _
  have kk : ∀ (j : Nat) (o : Obj), wr.heap[j]? = some o → (∀ c f, o ≠ .cells c 45 f) → w7.heap[j]? = some o := fun j o hj ho => by
    have ha := (hba.block j (lt_of_block hj)).trans hj
    refine (hg.block j (lt_of_block ha) (fun hb => ?_)).trans ha
    obtain ⟨_, c2, e2⟩ := owns_tag h2 hb.symm
    rw [hj] at e2
    simp only [Option.some.injEq] at e2
    exact ho _ _ e2
  have k1 := kk _ _ h1 (fun c f h => by cases h)
  have oth : ∀ j, j ≠ mb → (w7.setCell ⟨mb, 2, none⟩ v7).heap[j]? = w7.heap[j]? := fun j hj => Below.heap_setCell _ _ _ _ hj
  have o2 : ∀ (j : Nat) (o : Obj), wr.heap[j]? = some o → (∀ c f, o ≠ .cells c 45 f) → j ≠ mb → (w7.setCell ⟨mb, 2, none⟩ v7).heap[j]? = some o := fun j o hj ho hne => (oth j hne).trans (kk j o hj ho)
  have hmb := h.mbl
  have nm : ∀ (j : Nat) (o : Obj), wr.heap[j]? = some o → (∀ c f, o ≠ .cells c 51 f) → j ≠ mb := fun j o hj ho e => by subst e; rw [h1] at hj; simp only [Option.some.injEq] at hj; exact ho _ _ hj.symm
  have b7 : Below w.heap.size w w7 := by
    have b1 := h.qr.1.trans (hba.mono h.qr.1.size)
    exact b1.grown hg b1.size (fun j hj => (owns_tag h2 hj).1)
  have b8 : Below w.heap.size w (w7.setCell ⟨mb, 2, none⟩ v7) := b7.setCell (p := ⟨mb, 2, none⟩) (by show w.heap.size ≤ mb; omega) _
  refine ⟨by simp [World.cell?, k1], by simp [World.frozen?, k1], ⟨b7, kk _ _ h.qr.2 (fun c f h => by cases h)⟩, ⟨b8, o2 _ _ h.qr.2 (fun c f h => by cases h) (by omega)⟩, ⟨⟨b8, o2 _ _ h.qr.2 (fun c f h => by cases h) (by omega)⟩, o2 _ _ h.rs (fun c f h => by cases h) (by omega), ⟨v7, ?_, ?_⟩, ?_, h.mbl⟩, ?_, ?_⟩
  · rw [heap_setCell_same w7 mb 2 _ _ _ k1]; rfl
  · rw [colL_snoc]
    exact owns_cells h7 fun j c _ hj => (oth j (fun e => by subst e; rw [k1] at hj; cases hj)).trans hj
  · exact ⟨o2 _ _ h.ck.s (fun c f h => by cases h) (nm _ _ h.ck.s (fun c f h => by cases h)), o2 _ _ h.ck.n (fun c f h => by cases h) (nm _ _ h.ck.n (fun c f h => by cases h))⟩
  · rw [hl]; exact o2 _ _ hl (fun c f h => by cases h) (nm _ _ hl (fun c f h => by cases h))
  · rw [hD]; exact o2 _ _ hD (fun c f h => by cases h) (nm _ _ hD (fun c f h => by cases h))
end Go.Proofs.YtbjoalgglmalnaaDoor
