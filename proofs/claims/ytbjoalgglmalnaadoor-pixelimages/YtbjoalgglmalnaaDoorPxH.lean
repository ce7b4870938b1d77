/- What a raster must be: the document's numbers; Check of both sides. -/
import Derived.Test.YtbjoalgglmalnaaDoorPxG
namespace Go.Proofs.YtbjoalgglmalnaaDoor
open Go.RowKit
def nmE (C D : Int) (tn : Nat) (l : List Int) (n : Int) : Int := if (l.length : Int) = n ∧ allB (2 ^ D.toNat) l then (if C = 3 ∧ ¬ allB tn l then 14 else 0) else 1
set_option maxHeartbeats 6400000 in
theorem numbers_any (r : Rs) (la : Option Addr) (ln lc : Nat) (l : List Int) (n : Int) (w : World) (hl : IRow w la l) (hln : l.length = ln) (hlb : ln ≤ 17592186044416) (hD : 1 ≤ r.D ∧ r.D ≤ 16) (htn : r.tn ≤ 140737488351232) : Calls Tryd.prog 32 #[r.V, .slice la ln lc, .int .i64 n] w fun e w' => e = .returned (.int .i64 (nmE r.C r.D r.tn l n)) ∧ Below w.heap.size w w' := by
  have HQ : Hid (QR w r.c9 _) := QR.box w r.c9
  have hsh : wrap64 (2 ^ r.D.toNat) = 2 ^ r.D.toNat := shl_DX hD
  obtain ⟨R, hR⟩ : ∃ R, nmE r.C r.D r.tn l n = R := ⟨_, rfl⟩
  have HR : Hid ((¬ (ln : Int) = n → R = 1) ∧ (¬ allB (2 ^ r.D.toNat) l → R = 1) ∧ ((ln : Int) = n → allB (2 ^ r.D.toNat) l → r.C = 3 → ¬ allB r.tn l → R = 14) ∧ ((ln : Int) = n → allB (2 ^ r.D.toNat) l → (r.C ≠ 3 ∨ allB r.tn l) → R = 0)) := by
    rw [← hR]
    unfold nmE
    rw [hln]
    refine ⟨fun h => if_neg (fun q => h q.1), fun h => if_neg (fun q => h q.2), fun h1 h2 h3 h4 => ?_, fun h1 h2 h3 => ?_⟩
    · rw [if_pos ⟨h1, h2⟩, if_pos ⟨h3, h4⟩]
    · rw [if_pos ⟨h1, h2⟩, if_neg (fun q => by rcases h3 with h | h; exact h q.1; exact q.2 h)]
  rw [hR]
  have HM : Hid (IRow w la l ∧ l.length = ln) := ⟨hl, hln⟩
  clear hl hln hR
  obtain ⟨W, H, C, D, L, ta, tn, tc, aa, an, ac, ca, cn, cc, sa, sn, sc⟩ := r
  unfold Rs.V at *
  unfold Rs.c9 at *
  simp only at *
  obtain ⟨P, hP⟩ : ∃ P, (2 : Int) ^ D.toNat = P := ⟨_, rfl⟩
  rw [hP] at hsh HR
  obtain ⟨D1, D2⟩ := hD
  obtain ⟨c0, c1, c2, c3, c4, c5, c6, c7, c8⟩ := nine_cells HQ.out.2
  have HB : Hid (IRow (w.alloc (.cells #[.int .i64 W, .int .i64 H, .int .i64 C, .int .i64 D, .bool L, .slice ta tn tc, .slice aa an ac, .slice ca cn cc, .slice sa sn sc] 40)) la l) := HM.out.1.old HQ.out.1
  by_cases h1 : (ln : Int) = n
  · subst h1
    have HR2 : Hid ((¬ allB P l → R = 1) ∧ (allB P l → C = 3 → ¬ allB tn l → R = 14) ∧ (allB P l → (C ≠ 3 ∨ allB tn l) → R = 0)) := ⟨HR.out.2.1, HR.out.2.2.1 rfl, HR.out.2.2.2 rfl⟩
    clear HR
    go_enter Tryd.func32, Tryd.ntmps32
    go_wp2
    go_loop [6, 8, 17] (fun v6 _ v => v6 = .int .i64 0 ∧ ∃ j : Nat, j ≤ ln ∧ v = .int .i64 j ∧ Hid (allB P (l.take j))) (fun _ _ v => ln - (intOf v).toNat)
    case atStart => exact ⟨rfl, 0, Nat.zero_le _, rfl, fun z hz => by simp at hz⟩
    case round =>
      obtain ⟨rfl, j, hj, rfl, HA⟩ := hrel
      by_cases hlt : j < ln
      · obtain ⟨b, off, rfl, hc⟩ := HB.out.at j (by rw [HM.out.2]; exact hlt)
        have HN : Hid ((0 ≤ l[j]?.getD 0 ∧ l[j]?.getD 0 < P → allB P (l.take (j + 1))) ∧ (¬ (0 ≤ l[j]?.getD 0 ∧ l[j]?.getD 0 < P) → ¬ allB P l)) := ⟨fun hz => allB_take HA.out (by rw [HM.out.2]; exact hlt) hz, fun hz => allB_not (by rw [HM.out.2]; exact hlt) hz⟩
        clear HA
        generalize l[j]?.getD 0 = z at *
        rcases (show z < 0 ∨ (0 ≤ z ∧ P ≤ z) ∨ (0 ≤ z ∧ z < P) by omega) with hz | hz | hz
        · obtain rfl : R = 1 := HR2.out.1 (HN.out.2 (by omega))
          go_wp2
          go_ret
          exact ⟨rfl, HQ.out.1⟩
        · obtain rfl : R = 1 := HR2.out.1 (HN.out.2 (by omega))
          go_wp2
          go_ret
          exact ⟨rfl, HQ.out.1⟩
        · have HF : Hid (allB P (l.take (j + 1))) := HN.out.1 (by omega)
          go_wp2
          go_round
          case rel => first | exact ⟨_, _, _, ⟨rfl, j + 1, hlt, rfl, HF⟩, rfl, rfl, by go_num⟩ | exact ⟨rfl, j + 1, hlt, by go_num, HF⟩
          case measure => simp [intOf]; omega
      · obtain rfl : j = ln := by omega
        have HAll : Hid (allB P l) := by have := HA.out; rw [← HM.out.2, List.take_length] at this; exact this
        clear HA
        go_wp2
        go_loop [6, 10, 35] (fun v6 _ v => v6 = .int .i64 0 ∧ ∃ i : Nat, i ≤ j ∧ v = .int .i64 i ∧ Hid (C = 3 → allB tn (l.take i))) (fun _ _ v => j - (intOf v).toNat)
        case atStart => exact ⟨rfl, 0, Nat.zero_le _, rfl, fun _ z hz => by simp at hz⟩
        case round =>
          obtain ⟨rfl, i, hi, rfl, HA⟩ := hrel
          by_cases hli : i < j
          · obtain ⟨b, off, rfl, hc⟩ := HB.out.at i (by rw [HM.out.2]; exact hli)
            have hz0 : 0 ≤ l[i]?.getD 0 := by
              have hil : i < l.length := by rw [HM.out.2]; exact hli
              rw [List.getElem?_eq_getElem hil]; exact (HAll.out _ (List.getElem_mem hil)).1
            have HN : Hid ((C = 3 → l[i]?.getD 0 < tn → allB tn (l.take (i + 1))) ∧ (¬ l[i]?.getD 0 < tn → ¬ allB tn l)) := ⟨fun q hz => allB_take (HA.out q) (by rw [HM.out.2]; exact hli) ⟨hz0, hz⟩, fun hz => allB_not (by rw [HM.out.2]; exact hli) (fun q => hz q.2)⟩
            clear HA
            generalize l[i]?.getD 0 = z at *
            by_cases h3 : C = 3
            · subst h3
              by_cases hz : z < (tn : Int)
              · have HF : Hid (allB tn (l.take (i + 1))) := HN.out.1 rfl hz
                go_wp2
                go_round
                case rel => first | exact ⟨_, _, _, ⟨rfl, i + 1, hli, rfl, fun _ => HF.out⟩, rfl, rfl, by go_num⟩ | exact ⟨rfl, i + 1, hli, by go_num, fun _ => HF.out⟩
                case measure => simp [intOf]; omega
              · obtain rfl : R = 14 := HR2.out.2.1 HAll.out rfl (HN.out.2 hz)
                have hzi : (tn : Int) ≤ z := by omega
                go_wp2
                go_ret
                exact ⟨rfl, HQ.out.1⟩
            · have q3 : (C == 3) = false := by simpa using h3
              have HF : Hid (C = 3 → allB tn (l.take (i + 1))) := fun q => absurd q h3
              go_wp2
              go_round
              case rel => first | exact ⟨_, _, _, ⟨rfl, i + 1, hli, rfl, HF⟩, rfl, rfl, by go_num⟩ | exact ⟨rfl, i + 1, hli, by go_num, HF⟩
              case measure => simp [intOf]; omega
          · obtain rfl : i = j := by omega
            obtain rfl : R = 0 := HR2.out.2.2 HAll.out (by
              by_cases h3 : C = 3
              · right; have := HA.out h3; rw [← HM.out.2, List.take_length] at this; exact this
              · exact .inl h3)
            clear HA
            go_wp2
            go_ret
            exact ⟨rfl, HQ.out.1⟩
  · obtain rfl : R = 1 := HR.out.1 h1
    have hne : ((ln : Int) != n) = true := by simp [h1]
    go_enter Tryd.func32, Tryd.ntmps32
    go_wp2
    go_ret
    exact ⟨rfl, HQ.out.1⟩
def chE (W H C D : Int) (tn : Nat) (A K S : List Int) : Int := if ckE W H C D tn A K = 0 then nmE C D tn S (W * H * spN C) else ckE W H C D tn A K
theorem smE_nmE (C D : Int) (tn : Nat) (l : List Int) (px : Int) : smE C D tn l px = nmE C D tn l (px * spN C) := rfl
theorem ckE_may {W H C D : Int} {tn : Nat} {A K : List Int} (h : ckE W H C D tn A K = 0) : mayN W H C D := by
  by_cases q : mayN W H C D
  · exact q
  · unfold ckE at h; rw [if_neg q] at h; omega
theorem may_facts {W H C D : Int} (h : mayN W H C D) : (1 ≤ D ∧ D ≤ 16) ∧ (1 ≤ W * H ∧ W * H ≤ 65536) ∧ (1 ≤ spN C ∧ spN C ≤ 4) := by
  obtain ⟨d1, d2, d3⟩ := isPr_d h.2.2.1
  refine ⟨d1, ⟨?_, h.2.2.2⟩, ?_⟩
  · have h1 : 1 * 1 ≤ W * H := Int.mul_le_mul h.1.1 h.2.1.1 (by omega) (by have := h.1.1; omega)
    omega
  · rcases d3 with q | q | q | q | q <;> rw [q] <;> decide
set_option maxHeartbeats 1600000 in
theorem check_any (r : Rs) (A K S : List Int) (w : World) (ht : Tab w) (hm : RsM w r A K S) : Calls Tryd.prog 17 #[r.V] w fun e w' => e = .returned (.int .i64 (chE r.W r.H r.C r.D r.tn A K S)) ∧ Below w.heap.size w w' := by
  have HQ : Hid (QR w r.c9 _) := QR.box w r.c9
  have CK := checkKind_any r A K S _ (ht.old HQ.out.1) (hm.old HQ.out.1)
  have HM : Hid (RsM w r A K S ∧ Tab w) := ⟨hm, ht⟩
  unfold chE
  by_cases h0 : ckE r.W r.H r.C r.D r.tn A K = 0
  · rw [if_pos h0]
    rw [h0] at CK
    obtain ⟨f1, f2, f3⟩ := may_facts (ckE_may h0)
    have HS : Hid (∀ w1, QR w r.c9 w1 → Calls Tryd.prog 30 #[r.V, .slice r.sa r.sn r.sc, .int .i64 (r.W * r.H)] w1 fun e w' => e = .returned (.int .i64 (nmE r.C r.D r.tn S (r.W * r.H * spN r.C))) ∧ Below w1.heap.size w1 w') := fun w1 h => by
      rw [← smE_nmE]
      exact checkSamples_any r r.sa r.sn r.sc S (r.W * r.H) w1 (HM.out.2.old h.1) (HM.out.1.s.old h.1) HM.out.1.sn HM.out.1.bd.2.2.1 f1 ⟨by omega, f3.2⟩ (by omega) HM.out.1.bd.2.2.2
    generalize nmE r.C r.D r.tn S (r.W * r.H * spN r.C) = R at *
    have hwm : wrap64 (r.W * r.H) = r.W * r.H := by unfold wrap64; omega
    clear hm ht h0 f1 f2 f3
    obtain ⟨W, H, C, D, L, ta, tn, tc, aa, an, ac, ca, cn, cc, sa, sn, sc⟩ := r
    unfold Rs.V at *
    unfold Rs.c9 at *
    simp only at *
    go_enter Tryd.func17, Tryd.ntmps17
    go_wp2_with fail
    refine CK.mono ?_
    clear CK
    rintro e w1 ⟨rfl, hb1⟩
    have HQ1 : Hid (QR w _ w1) := HQ.out.old hb1
    obtain ⟨c0, c1, c2, c3, c4, c5, c6, c7, c8⟩ := nine_cells HQ1.out.2
    have CS := HS.out w1 HQ1.out
    clear hb1 HQ HS
    go_wp2_with fail
    refine CS.mono ?_
    clear CS
    rintro e w2 ⟨rfl, hb2⟩
    have HF : Hid (Below w.heap.size w w2) := HQ1.out.1.trans (hb2.mono HQ1.out.1.size)
    clear hb2 HQ1 c0 c1 c2 c3 c4 c5 c6 c7 c8
    go_wp2
    go_ret
    exact ⟨rfl, HF.out⟩
  · rw [if_neg h0]
    have hne : (ckE r.W r.H r.C r.D r.tn A K != 0) = true := by simpa using h0
    generalize ckE r.W r.H r.C r.D r.tn A K = E at *
    clear hm ht h0
    obtain ⟨W, H, C, D, L, ta, tn, tc, aa, an, ac, ca, cn, cc, sa, sn, sc⟩ := r
    unfold Rs.V at *
    unfold Rs.c9 at *
    simp only at *
    go_enter Tryd.func17, Tryd.ntmps17
    go_wp2_with fail
    refine CK.mono ?_
    clear CK
    rintro e w1 ⟨rfl, hb1⟩
    have HF : Hid (Below w.heap.size w w1) := (HQ.out.old hb1).1
    clear hb1
    go_wp2
    go_ret
    exact ⟨rfl, HF.out⟩
end Go.Proofs.YtbjoalgglmalnaaDoor
