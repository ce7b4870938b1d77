/- The law ScreenCuts, walked. -/
import Derived.Test.YtaodhifkbfninaaDoorScR
namespace Go.Proofs.YtaodhifkbfninaaDoor
open Go.RowKit
set_option maxHeartbeats 3200000 in
set_option maxRecDepth 100000 in
theorem scuts_walk (W H : Int) (ta : Option Addr) (tn tc : Nat) (Lo : Bool) (C : Int) (La : Bool) (B : Int) (at' : Int) (w : World) (ht : TabD w) (hs : ScIn w ta tn tc) (ha : (Lit.int .u16 at').wf = true) :
    Calls Tryd.prog 7 #[ScV W H (.slice ta tn tc) Lo C La B, .int .u16 at'] w fun e w' => e = .returned (.bool true) ∧ Below w.heap.size w w' := by
  obtain ⟨T, hTb, hTl, hTc, hTr⟩ := hs
  have hat := bounds_u16 ha
  obtain ⟨A, rfl⟩ := Int.eq_ofNat_of_zero_le hat.1
  have HX : Hid (TabD w ∧ Bytes T ∧ T.length = 3 * tn ∧ tn ≤ tc ∧ Row w ta T) := ⟨ht, hTb, hTl, hTc, hTr⟩
  have HQ0 : Hid (Qs w W H (.slice ta tn tc) Lo C La B _) := Qs.box w W H (.slice ta tn tc) Lo C La B
  have CF := sfixed_any _ (ht.old HQ0.out.1)
  have hA : A ≤ 65535 := by omega
  clear ht hTb hTl hTc hTr ha hat
  unfold ScV
  go_enter Tryd.func7, Tryd.ntmps7
  go_wp2_with fail
  refine CF.mono ?_
  clear CF
  rintro e w1 ⟨rfl, hb1⟩
  have HQ1 : Hid (Qs w W H (.slice ta tn tc) Lo C La B w1) := HQ0.out.old hb1
  clear hb1 HQ0
  obtain ⟨z0, z1, z2, z3, z4, z5, z6, -⟩ := HQ1.out.2.cells
  by_cases he : wrE W H tn C B = 0
  · obtain ⟨hp, ⟨k, hk, hkn⟩, hC, hB⟩ := wrE_ok he
    have htn2 : tn ≤ 256 := (tbOk_bd ⟨k, hk, hkn⟩).2
    have CW := write_yes W H ta tn tc Lo C La B T k w1 (HX.out.1.old HQ1.out.1) hk hkn he HX.out.2.2.1 HX.out.2.2.2.1 (HX.out.2.2.2.2.old HQ1.out.1)
    have hTk : T.length = 3 * 2 ^ (k + 1) := by rw [HX.out.2.2.1, hkn]
    have HG : Hid (gAll (wrL W H T Lo C La B k) = .ok (⟨W, H, T, Lo, C, La, B⟩, []) ∧ Bytes (wrL W H T Lo C La B k) ∧ (wrL W H T Lo C La B k).length ≤ 2000 ∧ 1 ≤ (wrL W H T Lo C La B k).length) := ⟨by have := back_any (C := C) (more := []) (Lo := Lo) (La := La) hp hk hTk hB; rwa [List.append_nil] at this, wrL_bytes hk HX.out.2.1 hC hB, (wrL_len (by have := HX.out.2.2.1; omega)).1, (wrL_len (by have := HX.out.2.2.1; omega)).2⟩
    generalize wrL W H T Lo C La B k = L at *
    unfold ScV at CW
    clear hp hk hkn hC hB htn2 hTk he
    go_wp2_with fail
    refine CW.mono ?_
    clear CW z0 z1 z2 z3 z4 z5 z6
    rintro e w2 ⟨a2, c2, g2, rfl, hs2, hg2, hb2⟩
    have HQ2 : Hid (Qs w W H (.slice ta tn tc) Lo C La B w2) := HQ1.out.old hb2
    obtain ⟨a', c', hv, hl2, hm2, -⟩ := hs2.shape
    simp only [Value.slice.injEq, vals_len] at hv
    obtain ⟨rfl, -, rfl⟩ := hv
    rw [vals_len] at hl2
    have HR2 : Hid (Row w2 a2 L) := hs2.row rfl
    obtain ⟨b, off, rfl⟩ : ∃ b off, a2 = some ⟨b, off, none⟩ := by
      rcases HR2.out with e | ⟨b, off, e, _⟩
      · have := HG.out.2.2.2; rw [e] at this; simp at this
      · exact ⟨b, off, e⟩
    obtain ⟨LL, hLL⟩ : ∃ LL, L.length = LL := ⟨_, rfl⟩
    obtain ⟨K, hK⟩ : ∃ K, A % LL = K := ⟨_, rfl⟩
    have hL1 : 1 ≤ LL := by rw [← hLL]; exact HG.out.2.2.2
    have hKl : K < LL := by rw [← hK]; exact Nat.mod_lt _ (by omega)
    have HLL : Hid (L.length = LL ∧ LL ≤ 2000) := ⟨hLL, by rw [← hLL]; exact HG.out.2.2.1⟩
    have htm : (A : Int).tmod (LL : Int) = (K : Int) := by rw [Int.tmod_eq_emod_of_nonneg (by omega), ← hK]; omega
    have hem : (A : Int) % (LL : Int) = (K : Int) := by rw [← hK]; omega
    have CR := sRead_any (some ⟨b, off, none⟩) K c2 (L.take K) w2 (by rw [List.length_take, hLL]; omega) (by intro h; cases h) (by have := HLL.out; omega) (HG.out.2.1.take K) (HR2.out.take K)
    have HE : Hid (gAll (L.take K) = .error 2) := cut_short HG.out.1 (by rw [hLL]; exact hKl)
    rw [hLL] at hl2 ⊢
    have hz : ((LL : Int) == 0) = false := by simp; omega
    have hz2 : ¬ (LL : Int) = 0 := by omega
    unfold maxLen at hm2
    have hL2 : LL ≤ 2000 := HLL.out.2
    have hKc : K ≤ c2 := by omega
    clear hs2 hg2 hb2 hLL hK HQ1
    go_wp2_with fail
    refine CR.mono ?_
    clear CR
    rintro e w6 (⟨s, r, tv, hg, -⟩ | ⟨E, hE, -, rfl, hb6⟩)
    · rw [HE.out] at hg; cases hg
    rw [HE.out] at hE
    obtain rfl : 2 = E := by cases hE; rfl
    have HQ6 : Hid (Qs w W H (.slice ta tn tc) Lo C La B w6) := HQ2.out.old hb6
    clear hb6 hE
    unfold ScV
    go_wp2
    go_ret
    exact ⟨rfl, HQ6.out.1.alloc HQ6.out.1.size _⟩
  · have CW := write_no W H ta tn tc Lo C La B w1 he
    have q1 : (wrE W H tn C B != 0) = true := by simpa using he
    have q2 : (wrE W H tn C B == 0) = false := by simpa using he
    generalize wrE W H tn C B = E at *
    unfold ScV at CW
    clear he
    go_wp2_with fail
    refine CW.mono ?_
    clear CW
    rintro e w2 ⟨rfl, hb2⟩
    have HQ2 : Hid (Qs w W H (.slice ta tn tc) Lo C La B w2) := HQ1.out.old hb2
    clear hb2
    go_wp2
    go_ret
    exact ⟨rfl, HQ2.out.1⟩
end Go.Proofs.YtaodhifkbfninaaDoor
