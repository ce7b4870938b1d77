/- What a raster must be: the program's Check. -/
import Derived.Test.YtbjoalgglmalnaaDoorPxE
namespace Go.Proofs.YtbjoalgglmalnaaDoor
open Go.RowKit
set_option maxHeartbeats 3200000 in
theorem mayHaveX (r : Rs) (A K S : List Int) (w : World) (hm : RsM w r A K S) (h0 : r.C ≠ 0) (h2 : r.C ≠ 2) (h3 : r.C ≠ 3) (hD : 1 ≤ r.D ∧ r.D ≤ 16) : Calls Tryd.prog 40 #[r.V] w fun e w' => e = .returned (.bool (decide (mhN r.C r.D r.tn A K))) ∧ Below w.heap.size w w' := by
  have HQ : Hid (QR w r.c9 _) := QR.box w r.c9
  have e : mhN r.C r.D r.tn A K ↔ (r.tn = 0 ∧ r.an = 0 ∧ r.cn = 0) := by
    unfold mhN; rw [if_neg h3, if_neg (by omega), hm.an, hm.kn]
  have e2 : decide (mhN r.C r.D r.tn A K) = decide (r.tn = 0 ∧ r.an = 0 ∧ r.cn = 0) := decide_eq_decide.2 e
  rw [e2]
  have hsh : wrap64 (2 ^ r.D.toNat) = 2 ^ r.D.toNat := shl_DX hD
  have bd := hm.bd
  clear hm e e2
  obtain ⟨W, H, C, D, L, ta, tn, tc, aa, an, ac, ca, cn, cc, sa, sn, sc⟩ := r
  unfold Rs.V
  unfold Rs.c9 at *
  simp only at *
  obtain ⟨D1, D2⟩ := hD
  have q0 : (C == 0) = false := by simpa using h0
  have q2 : (C == 2) = false := by simpa using h2
  have q3 : (C == 3) = false := by simpa using h3
  by_cases ht : tn = 0
  · subst ht
    by_cases ha : an = 0
    · subst ha
      have e : decide (0 = 0 ∧ 0 = 0 ∧ cn = 0) = ((cn : Int) == 0) := by
        by_cases q : cn = 0
        · subst q; rfl
        · rw [decide_eq_false (fun h => q h.2.2)]; symm; simp; omega
      rw [e]
      clear e
      go_enter Tryd.func40, Tryd.ntmps40
      go_wp2
      go_ret
      exact ⟨rfl, HQ.out.1⟩
    · rw [decide_eq_false (fun h => ha h.2.1)]
      have hq0 : ((an : Int) == 0) = false := by simp; omega
      go_enter Tryd.func40, Tryd.ntmps40
      go_wp2
      go_ret
      exact ⟨rfl, HQ.out.1⟩
  · rw [decide_eq_false (fun h => ht h.1)]
    have hq0 : ((tn : Int) == 0) = false := by simp; omega
    go_enter Tryd.func40, Tryd.ntmps40
    go_wp2
    go_ret
    exact ⟨rfl, HQ.out.1⟩
theorem mayHave_any (r : Rs) (A K S : List Int) (w : World) (ht : Tab w) (hm : RsM w r A K S) (hD : 1 ≤ r.D ∧ r.D ≤ 16) : Calls Tryd.prog 40 #[r.V] w fun e w' => e = .returned (.bool (decide (mhN r.C r.D r.tn A K))) ∧ Below w.heap.size w w' := by
  by_cases h3 : r.C = 3
  · exact mayHave3 r A K S w hm h3 hD
  · by_cases h : r.C = 0 ∨ r.C = 2
    · exact mayHave02 r A K S w ht hm h hD
    · exact mayHaveX r A K S w hm (by omega) (by omega) h3 hD
theorem isPr_d {C D : Int} (h : isPr C D = true) : (1 ≤ D ∧ D ≤ 16) ∧ isDp D ∧ (C = 0 ∨ C = 2 ∨ C = 3 ∨ C = 4 ∨ C = 6) := by
  unfold isPr at h
  rw [List.contains_iff_mem] at h
  simp only [prL, List.mem_cons, Prod.mk.injEq, List.not_mem_nil, or_false] at h
  unfold isDp
  omega
def ckE (W H C D : Int) (tn : Nat) (A K : List Int) : Int := if mayN W H C D then (if mhN C D tn A K then 0 else 12) else 11
set_option maxHeartbeats 1600000 in
theorem checkKind_any (r : Rs) (A K S : List Int) (w : World) (ht : Tab w) (hm : RsM w r A K S) : Calls Tryd.prog 29 #[r.V] w fun e w' => e = .returned (.int .i64 (ckE r.W r.H r.C r.D r.tn A K)) ∧ Below w.heap.size w w' := by
  have HQ : Hid (QR w r.c9 _) := QR.box w r.c9
  have CM := may_any r.W r.H r.C r.D r.L _ (ht.old HQ.out.1)
  have HM : Hid (RsM w r A K S ∧ Tab w) := ⟨hm, ht⟩
  unfold ckE
  by_cases hmay : mayN r.W r.H r.C r.D
  · rw [if_pos hmay]
    rw [decide_eq_true hmay] at CM
    have hD := (isPr_d hmay.2.2.1).1
    have HH : Hid (∀ w1, QR w r.c9 w1 → Calls Tryd.prog 40 #[r.V] w1 fun e w' => e = .returned (.bool (decide (mhN r.C r.D r.tn A K))) ∧ Below w1.heap.size w1 w') := fun w1 h => mayHave_any r A K S w1 (HM.out.2.old h.1) (HM.out.1.old h.1) hD
    obtain ⟨R, hR⟩ : ∃ R, (if mhN r.C r.D r.tn A K then (0 : Int) else 12) = R := ⟨_, rfl⟩
    rw [hR]
    have HR : Hid ((decide (mhN r.C r.D r.tn A K) = true → R = 0) ∧ (decide (mhN r.C r.D r.tn A K) = false → R = 12)) := by
      rw [← hR]
      exact ⟨fun h => if_pos (of_decide_eq_true h), fun h => if_neg (of_decide_eq_false h)⟩
    generalize decide (mhN r.C r.D r.tn A K) = B at *
    clear hm ht hmay hR hD
    unfold HdV at CM
    obtain ⟨W, H, C, D, L, ta, tn, tc, aa, an, ac, ca, cn, cc, sa, sn, sc⟩ := r
    unfold Rs.V at *
    unfold Rs.c9 at *
    simp only at *
    go_enter Tryd.func29, Tryd.ntmps29
    go_wp2_with fail
    refine CM.mono ?_
    clear CM
    rintro e w1 ⟨rfl, hb1⟩
    have HQ1 : Hid (QR w _ w1) := HQ.out.old hb1
    obtain ⟨c0, c1, c2, c3, c4, c5, c6, c7, c8⟩ := nine_cells HQ1.out.2
    have CH := HH.out w1 HQ1.out
    clear hb1 HQ HH
    go_wp2_with fail
    refine CH.mono ?_
    clear CH
    rintro e w2 ⟨rfl, hb2⟩
    have HF : Hid (Below w.heap.size w w2) := HQ1.out.1.trans (hb2.mono HQ1.out.1.size)
    clear hb2 HQ1 c0 c1 c2 c3 c4 c5 c6 c7 c8
    cases B with
    | true =>
      obtain rfl : R = 0 := HR.out.1 rfl
      go_wp2
      go_ret
      exact ⟨rfl, HF.out⟩
    | false =>
      obtain rfl : R = 12 := HR.out.2 rfl
      go_wp2
      go_ret
      exact ⟨rfl, HF.out⟩
  · rw [if_neg hmay]
    rw [decide_eq_false hmay] at CM
    clear hm ht hmay
    unfold HdV at CM
    obtain ⟨W, H, C, D, L, ta, tn, tc, aa, an, ac, ca, cn, cc, sa, sn, sc⟩ := r
    unfold Rs.V at *
    unfold Rs.c9 at *
    simp only at *
    go_enter Tryd.func29, Tryd.ntmps29
    go_wp2_with fail
    refine CM.mono ?_
    clear CM
    rintro e w1 ⟨rfl, hb1⟩
    have HF : Hid (Below w.heap.size w w1) := (HQ.out.old hb1).1
    clear hb1
    go_wp2
    go_ret
    exact ⟨rfl, HF.out⟩
def smE (C D : Int) (tn : Nat) (l : List Int) (px : Int) : Int := if (l.length : Int) = px * spN C ∧ allB (2 ^ D.toNat) l then (if C = 3 ∧ ¬ allB tn l then 14 else 0) else 1
set_option maxHeartbeats 3200000 in
theorem checkSamples_any (r : Rs) (la : Option Addr) (ln lc : Nat) (l : List Int) (px : Int) (w : World) (ht : Tab w) (hl : IRow w la l) (hln : l.length = ln) (hlb : ln ≤ 17592186044416) (hD : 1 ≤ r.D ∧ r.D ≤ 16) (hC : 0 ≤ spN r.C ∧ spN r.C ≤ 4) (hp : 0 ≤ px ∧ px ≤ 100000) (htn : r.tn ≤ 140737488351232) : Calls Tryd.prog 30 #[r.V, .slice la ln lc, .int .i64 px] w fun e w' => e = .returned (.int .i64 (smE r.C r.D r.tn l px)) ∧ Below w.heap.size w w' := by
  have HQ : Hid (QR w r.c9 _) := QR.box w r.c9
  have CS := samples_any r.C _ (ht.old HQ.out.1)
  have C1 := allBelow_any (2 ^ r.D.toNat) la ln lc l _ hln (hl.old HQ.out.1) (by omega)
  have C2 := allBelow_any (r.tn : Int) la ln lc l _ hln (hl.old HQ.out.1) (by omega)
  have hsh : wrap64 (2 ^ r.D.toNat) = 2 ^ r.D.toNat := shl_DX hD
  have hmul : 0 ≤ px * spN r.C ∧ px * spN r.C ≤ 400000 := ⟨Int.mul_nonneg hp.1 hC.1, by have : px * spN r.C ≤ 100000 * 4 := Int.mul_le_mul hp.2 hC.2 hC.1 (by omega); omega⟩
  unfold smE
  rw [hln]
  clear ht hl hln
  obtain ⟨W, H, C, D, L, ta, tn, tc, aa, an, ac, ca, cn, cc, sa, sn, sc⟩ := r
  unfold Rs.V
  unfold Rs.c9 at *
  simp only at *
  obtain ⟨P, hP⟩ : ∃ P, (2 : Int) ^ D.toNat = P := ⟨_, rfl⟩
  rw [hP] at hsh C1 ⊢
  obtain ⟨D1, D2⟩ := hD
  obtain ⟨Q, hQ⟩ : ∃ Q, spN C = Q := ⟨_, rfl⟩
  rw [hQ] at hC hmul CS ⊢
  clear hQ
  obtain ⟨M, hM⟩ : ∃ M, px * Q = M := ⟨_, rfl⟩
  rw [hM] at hmul ⊢
  by_cases h1 : (ln : Int) = M
  · by_cases h2 : allB P l
    · rw [if_pos ⟨h1, h2⟩]
      rw [decide_eq_true h2] at C1
      have hne : ((ln : Int) != M) = false := by simp [h1]
      by_cases h3 : C = 3
      · subst h3
        by_cases h4 : allB (tn : Int) l
        · rw [if_neg (fun h => h.2 h4)]
          rw [decide_eq_true h4] at C2
          clear h1 h2 h4
          go_enter Tryd.func30, Tryd.ntmps30
          go_wp2_with fail
          refine CS.mono ?_
          rintro e w1 ⟨rfl, rfl⟩
          go_wp2_with fail
          with_reducible refine C1.mono ?_
          clear C1
          rintro e w1 ⟨rfl, rfl⟩
          go_wp2_with fail
          refine C2.mono ?_
          rintro e w1 ⟨rfl, rfl⟩
          go_wp2
          go_ret
          exact ⟨rfl, HQ.out.1⟩
        · rw [if_pos ⟨rfl, h4⟩]
          rw [decide_eq_false h4] at C2
          clear h1 h2 h4
          go_enter Tryd.func30, Tryd.ntmps30
          go_wp2_with fail
          refine CS.mono ?_
          rintro e w1 ⟨rfl, rfl⟩
          go_wp2_with fail
          with_reducible refine C1.mono ?_
          clear C1
          rintro e w1 ⟨rfl, rfl⟩
          go_wp2_with fail
          refine C2.mono ?_
          rintro e w1 ⟨rfl, rfl⟩
          go_wp2
          go_ret
          exact ⟨rfl, HQ.out.1⟩
      · rw [if_neg (fun h => h3 h.1)]
        have q3 : (C == 3) = false := by simpa using h3
        clear h1 h2 C2
        go_enter Tryd.func30, Tryd.ntmps30
        go_wp2_with fail
        refine CS.mono ?_
        rintro e w1 ⟨rfl, rfl⟩
        go_wp2_with fail
        refine C1.mono ?_
        clear C1
        rintro e w1 ⟨rfl, rfl⟩
        go_wp2
        go_ret
        exact ⟨rfl, HQ.out.1⟩
    · rw [if_neg (fun h => h2 h.2)]
      rw [decide_eq_false h2] at C1
      have hne : ((ln : Int) != M) = false := by simp [h1]
      clear h1 h2 C2
      go_enter Tryd.func30, Tryd.ntmps30
      go_wp2_with fail
      refine CS.mono ?_
      rintro e w1 ⟨rfl, rfl⟩
      go_wp2_with fail
      refine C1.mono ?_
      clear C1
      rintro e w1 ⟨rfl, rfl⟩
      go_wp2
      go_ret
      exact ⟨rfl, HQ.out.1⟩
  · rw [if_neg (fun h => h1 h.1)]
    have hne : ((ln : Int) != M) = true := by simp [h1]
    clear C1 C2
    go_enter Tryd.func30, Tryd.ntmps30
    go_wp2_with fail
    refine CS.mono ?_
    rintro e w1 ⟨rfl, rfl⟩
    go_wp2
    go_ret
    exact ⟨rfl, HQ.out.1⟩
end Go.Proofs.YtbjoalgglmalnaaDoor
