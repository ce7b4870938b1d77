/- What a raster must be: the document's tables. -/
import Derived.Test.YtbjoalgglmalnaaDoorPxF
namespace Go.Proofs.YtbjoalgglmalnaaDoor
open Go.RowKit
theorem allB_cons_not {e : Int} {l : List Int} {j : Nat} (hj : j < l.length) (hz : ¬ (0 ≤ l[j]?.getD 0 ∧ l[j]?.getD 0 < e)) : ¬ allB e l := allB_not hj hz
set_option maxHeartbeats 6400000 in
theorem tables3 (r : Rs) (A K S : List Int) (w : World) (hm : RsM w r A K S) (hmay : mayN r.W r.H r.C r.D) (hC : r.C = 3) : Calls Tryd.prog 31 #[r.V] w fun e w' => e = .returned (.int .i64 (ckE r.W r.H r.C r.D r.tn A K)) ∧ Below w.heap.size w w' := by
  have HQ : Hid (QR w r.c9 _) := QR.box w r.c9
  have CM := rmay_any r.W r.H r.C r.D r.L (w.alloc (.cells r.c9 40))
  rw [decide_eq_true hmay] at CM
  have hD := (isPr_d hmay.2.2.1).1
  have hsh : wrap64 (2 ^ r.D.toNat) = 2 ^ r.D.toNat := shl_DX hD
  obtain ⟨R, hR⟩ : ∃ R, ckE r.W r.H r.C r.D r.tn A K = R := ⟨_, rfl⟩
  have HR : Hid (((1 ≤ r.tn ∧ (r.tn : Int) ≤ 2 ^ r.D.toNat ∧ r.an ≤ r.tn ∧ r.cn = 0) → allB 256 A → R = 0) ∧ (¬ (1 ≤ r.tn ∧ (r.tn : Int) ≤ 2 ^ r.D.toNat ∧ r.an ≤ r.tn ∧ r.cn = 0) → R = 12) ∧ (¬ allB 256 A → R = 12)) := by
    rw [← hR]
    unfold ckE
    rw [if_pos hmay]
    have e : mhN r.C r.D r.tn A K ↔ (1 ≤ r.tn ∧ (r.tn : Int) ≤ 2 ^ r.D.toNat ∧ r.an ≤ r.tn ∧ allB 256 A ∧ r.cn = 0) := by
      unfold mhN; rw [if_pos hC, hm.an, hm.kn]
    exact ⟨fun h1 h2 => if_pos (e.2 ⟨h1.1, h1.2.1, h1.2.2.1, h2, h1.2.2.2⟩), fun h1 => if_neg (fun h => h1 ⟨(e.1 h).1, (e.1 h).2.1, (e.1 h).2.2.1, (e.1 h).2.2.2.2⟩), fun h1 => if_neg (fun h => h1 (e.1 h).2.2.2.1)⟩
  rw [hR]
  have HM : Hid (IRow w r.aa A ∧ A.length = r.an) := ⟨hm.a, hm.an⟩
  have bd := hm.bd
  clear hm hmay hR
  unfold HdV at CM
  obtain ⟨W, H, C, D, L, ta, tn, tc, aa, an, ac, ca, cn, cc, sa, sn, sc⟩ := r
  unfold Rs.V at *
  unfold Rs.c9 at *
  simp only at *
  subst hC
  obtain ⟨P, hP⟩ : ∃ P, (2 : Int) ^ D.toNat = P := ⟨_, rfl⟩
  rw [hP] at hsh HR
  obtain ⟨D1, D2⟩ := hD
  go_enter Tryd.func31, Tryd.ntmps31
  go_wp2_with fail
  refine CM.mono ?_
  clear CM
  rintro e w1 ⟨rfl, hb1⟩
  have HQ1 : Hid (QR w _ w1) := HQ.out.old hb1
  obtain ⟨c0, c1, c2, c3, c4, c5, c6, c7, c8⟩ := nine_cells HQ1.out.2
  clear hb1 HQ
  by_cases h1 : 1 ≤ tn
  · by_cases h2 : (tn : Int) ≤ P
    · by_cases h3 : an ≤ tn
      · have h3i : (an : Int) ≤ (tn : Int) := by omega
        by_cases h4 : cn = 0
        · subst h4
          have HR2 : Hid ((allB 256 A → R = 0) ∧ (¬ allB 256 A → R = 12)) := ⟨HR.out.1 ⟨h1, h2, h3, rfl⟩, HR.out.2.2⟩
          clear HR
          go_wp2
          go_loop [2, 5, 51] (fun v2 _ v => v2 = .int .i64 0 ∧ ∃ j : Nat, j ≤ an ∧ v = .int .i64 j ∧ Hid (allB 256 (A.take j))) (fun _ _ v => an - (intOf v).toNat)
          case atStart => exact ⟨rfl, 0, Nat.zero_le _, rfl, fun z hz => by simp at hz⟩
          case round =>
            obtain ⟨rfl, j, hj, rfl, HA⟩ := hrel
            by_cases hlt : j < an
            · obtain ⟨b, off, rfl, hc⟩ := (HM.out.1.old HQ1.out.1).at j (by rw [HM.out.2]; exact hlt)
              have HN : Hid ((0 ≤ A[j]?.getD 0 ∧ A[j]?.getD 0 < 256 → allB 256 (A.take (j + 1))) ∧ (¬ (0 ≤ A[j]?.getD 0 ∧ A[j]?.getD 0 < 256) → ¬ allB 256 A)) := ⟨fun hz => allB_take HA.out (by rw [HM.out.2]; exact hlt) hz, fun hz => allB_not (by rw [HM.out.2]; exact hlt) hz⟩
              clear HA
              generalize A[j]?.getD 0 = z at *
              rcases (show z < 0 ∨ (0 ≤ z ∧ 255 < z) ∨ (0 ≤ z ∧ z ≤ 255) by omega) with hz | hz | hz
              · obtain rfl : R = 12 := HR2.out.2 (HN.out.2 (by omega))
                go_wp2
                go_ret
                exact ⟨rfl, HQ1.out.1⟩
              · obtain rfl : R = 12 := HR2.out.2 (HN.out.2 (by omega))
                go_wp2
                go_ret
                exact ⟨rfl, HQ1.out.1⟩
              · have HF : Hid (allB 256 (A.take (j + 1))) := HN.out.1 (by omega)
                go_wp2
                go_round
                case rel => exact ⟨_, _, _, ⟨rfl, j + 1, hlt, rfl, HF⟩, rfl, rfl, by go_num⟩
                case measure => simp [intOf]; omega
            · obtain rfl : j = an := by omega
              obtain rfl : R = 0 := HR2.out.1 (by have := HA.out; rw [← HM.out.2, List.take_length] at this; exact this)
              go_wp2
              go_ret
              exact ⟨rfl, HQ1.out.1⟩
        · obtain rfl : R = 12 := HR.out.2.1 (fun h => h4 h.2.2.2)
          have h4i : (0 : Int) < (cn : Int) := by omega
          go_wp2
          go_ret
          exact ⟨rfl, HQ1.out.1⟩
      · obtain rfl : R = 12 := HR.out.2.1 (fun h => h3 h.2.2.1)
        have h3i : (tn : Int) < (an : Int) := by omega
        go_wp2
        go_ret
        exact ⟨rfl, HQ1.out.1⟩
    · obtain rfl : R = 12 := HR.out.2.1 (fun h => h2 h.2.1)
      have h2i : P < (tn : Int) := by omega
      go_wp2
      go_ret
      exact ⟨rfl, HQ1.out.1⟩
  · obtain rfl : R = 12 := HR.out.2.1 (fun h => h1 h.1)
    obtain rfl : tn = 0 := by omega
    go_wp2
    go_ret
    exact ⟨rfl, HQ1.out.1⟩
set_option maxHeartbeats 6400000 in
theorem tablesX (r : Rs) (A K S : List Int) (w : World) (hm : RsM w r A K S) (hmay : mayN r.W r.H r.C r.D) (hC : r.C ≠ 3) : Calls Tryd.prog 31 #[r.V] w fun e w' => e = .returned (.int .i64 (ckE r.W r.H r.C r.D r.tn A K)) ∧ Below w.heap.size w w' := by
  have HQ : Hid (QR w r.c9 _) := QR.box w r.c9
  have CM := rmay_any r.W r.H r.C r.D r.L (w.alloc (.cells r.c9 40))
  rw [decide_eq_true hmay] at CM
  have hD := (isPr_d hmay.2.2.1).1
  have hsh : wrap64 (2 ^ r.D.toNat) = 2 ^ r.D.toNat := shl_DX hD
  obtain ⟨R, hR⟩ : ∃ R, ckE r.W r.H r.C r.D r.tn A K = R := ⟨_, rfl⟩
  have HR : Hid (((r.tn = 0 ∧ r.an = 0 ∧ (r.cn = 0 ∨ (r.C = 0 ∧ r.cn = 1) ∨ (r.C = 2 ∧ r.cn = 3))) → allB (2 ^ r.D.toNat) K → R = 0) ∧ (¬ (r.tn = 0 ∧ r.an = 0 ∧ (r.cn = 0 ∨ (r.C = 0 ∧ r.cn = 1) ∨ (r.C = 2 ∧ r.cn = 3))) → R = 12) ∧ (¬ allB (2 ^ r.D.toNat) K → R = 12)) := by
    rw [← hR]
    unfold ckE
    rw [if_pos hmay]
    have e : mhN r.C r.D r.tn A K ↔ ((r.tn = 0 ∧ r.an = 0 ∧ (r.cn = 0 ∨ (r.C = 0 ∧ r.cn = 1) ∨ (r.C = 2 ∧ r.cn = 3))) ∧ allB (2 ^ r.D.toNat) K) := by
      unfold mhN
      rw [if_neg hC, hm.an, hm.kn]
      by_cases q : r.C = 0 ∨ r.C = 2
      · rw [if_pos q]
        rcases q with q | q
        · have : spN r.C = 1 := by rw [q]; decide
          rw [this]
          constructor
          · rintro ⟨a1, a2, a3, a4⟩; exact ⟨⟨a1, a2, by omega⟩, a4⟩
          · rintro ⟨⟨a1, a2, a3⟩, a4⟩; exact ⟨a1, a2, by omega, a4⟩
        · have : spN r.C = 3 := by rw [q]; decide
          rw [this]
          constructor
          · rintro ⟨a1, a2, a3, a4⟩; exact ⟨⟨a1, a2, by omega⟩, a4⟩
          · rintro ⟨⟨a1, a2, a3⟩, a4⟩; exact ⟨a1, a2, by omega, a4⟩
      · rw [if_neg q]
        constructor
        · rintro ⟨q1, q2, q3⟩
          refine ⟨⟨q1, q2, .inl q3⟩, ?_⟩
          have : K = [] := List.length_eq_zero_iff.1 (by rw [hm.kn]; exact q3)
          rw [this]; intro z hz; simp at hz
        · rintro ⟨⟨q1, q2, q3⟩, _⟩
          exact ⟨q1, q2, by omega⟩
    exact ⟨fun h1 h2 => if_pos (e.2 ⟨h1, h2⟩), fun h1 => if_neg (fun h => h1 (e.1 h).1), fun h1 => if_neg (fun h => h1 (e.1 h).2)⟩
  rw [hR]
  have HM : Hid (IRow w r.ca K ∧ K.length = r.cn) := ⟨hm.k, hm.kn⟩
  have bd := hm.bd
  clear hm hmay hR
  unfold HdV at CM
  obtain ⟨W, H, C, D, L, ta, tn, tc, aa, an, ac, ca, cn, cc, sa, sn, sc⟩ := r
  unfold Rs.V at *
  unfold Rs.c9 at *
  simp only at *
  obtain ⟨P, hP⟩ : ∃ P, (2 : Int) ^ D.toNat = P := ⟨_, rfl⟩
  rw [hP] at hsh HR
  obtain ⟨D1, D2⟩ := hD
  have q3 : (C == 3) = false := by simpa using hC
  go_enter Tryd.func31, Tryd.ntmps31
  go_wp2_with fail
  refine CM.mono ?_
  clear CM
  rintro e w1 ⟨rfl, hb1⟩
  have HQ1 : Hid (QR w _ w1) := HQ.out.old hb1
  obtain ⟨c0, c1, c2, c3, c4, c5, c6, c7, c8⟩ := nine_cells HQ1.out.2
  clear hb1 HQ
  by_cases h1 : tn = 0
  · subst h1
    by_cases h2 : an = 0
    · subst h2
      by_cases h3 : cn = 0 ∨ (C = 0 ∧ cn = 1) ∨ (C = 2 ∧ cn = 3)
      · have HR2 : Hid ((allB P K → R = 0) ∧ (¬ allB P K → R = 12)) := ⟨HR.out.1 ⟨rfl, rfl, h3⟩, HR.out.2.2⟩
        clear HR
        have HLP : Hid (cn ≤ 3) := by show _ ≤ _; omega
        rcases h3 with rfl | ⟨rfl, rfl⟩ | ⟨rfl, rfl⟩
        · obtain rfl : R = 0 := HR2.out.1 (by
            have : K = [] := List.length_eq_zero_iff.1 HM.out.2
            rw [this]; intro z hz; simp at hz)
          go_wp2
          go_loop [2, 8, 102] (fun v2 _ v => v2 = .int .i64 0 ∧ v = .int .i64 0) (fun _ _ _ => 0)
          case atStart => exact ⟨rfl, rfl⟩
          case round =>
            obtain ⟨rfl, rfl⟩ := hrel
            go_wp2
            go_ret
            exact ⟨rfl, HQ1.out.1⟩
        all_goals
          go_wp2
          go_loop [2, 8, 102] (fun v2 _ v => v2 = .int .i64 0 ∧ ∃ j : Nat, j ≤ K.length ∧ v = .int .i64 j ∧ Hid (allB P (K.take j))) (fun _ _ v => K.length - (intOf v).toNat)
          case atStart => exact ⟨rfl, 0, Nat.zero_le _, rfl, fun z hz => by simp at hz⟩
          case round =>
            obtain ⟨rfl, j, hj, rfl, HA⟩ := hrel
            have hKl := HM.out.2
            rw [hKl] at hj
            by_cases hlt : j < K.length
            · obtain ⟨b, off, rfl, hc⟩ := (HM.out.1.old HQ1.out.1).at j hlt
              have HN : Hid ((0 ≤ K[j]?.getD 0 ∧ K[j]?.getD 0 < P → allB P (K.take (j + 1))) ∧ (¬ (0 ≤ K[j]?.getD 0 ∧ K[j]?.getD 0 < P) → ¬ allB P K)) := ⟨fun hz => allB_take HA.out hlt hz, fun hz => allB_not hlt hz⟩
              have HLT : Hid (j < K.length) := hlt
              rw [hKl] at hlt
              have HKL : Hid (K.length = _) := hKl
              clear HA hKl
              generalize K[j]?.getD 0 = z at *
              rcases (show z < 0 ∨ (0 ≤ z ∧ P ≤ z) ∨ (0 ≤ z ∧ z < P) by omega) with hz | hz | hz
              · obtain rfl : R = 12 := HR2.out.2 (HN.out.2 (by omega))
                go_wp2
                go_ret
                exact ⟨rfl, HQ1.out.1⟩
              · obtain rfl : R = 12 := HR2.out.2 (HN.out.2 (by omega))
                go_wp2
                go_ret
                exact ⟨rfl, HQ1.out.1⟩
              · have HF : Hid (allB P (K.take (j + 1))) := HN.out.1 (by omega)
                go_wp2
                go_round
                case rel => first | exact ⟨_, _, _, ⟨rfl, j + 1, HLT.out, rfl, HF⟩, rfl, rfl, by go_num⟩ | exact ⟨rfl, j + 1, HLT.out, by go_num, HF⟩
                case measure => have := HLT.out; simp [intOf]; omega
            · rw [hKl] at hlt
              obtain rfl : R = 0 := HR2.out.1 (by have := HA.out; rw [List.take_of_length_le (by omega)] at this; exact this)
              clear HA hKl
              go_wp2
              go_ret
              exact ⟨rfl, HQ1.out.1⟩
      · obtain rfl : R = 12 := HR.out.2.1 (fun h => h3 h.2.2)
        have h3i : (0 : Int) < (cn : Int) := by omega
        by_cases k0 : C = 0
        · subst k0
          have k1 : ((cn : Int) == 1) = false := by simp; omega
          go_wp2
          go_ret
          exact ⟨rfl, HQ1.out.1⟩
        · have k0' : (C == 0) = false := by simpa using k0
          by_cases k2 : C = 2
          · subst k2
            have k1 : ((cn : Int) == 3) = false := by simp; omega
            go_wp2
            go_ret
            exact ⟨rfl, HQ1.out.1⟩
          · have k2' : (C == 2) = false := by simpa using k2
            go_wp2
            go_ret
            exact ⟨rfl, HQ1.out.1⟩
    · obtain rfl : R = 12 := HR.out.2.1 (fun h => h2 h.2.1)
      have h2i : (0 : Int) < (an : Int) := by omega
      go_wp2
      go_ret
      exact ⟨rfl, HQ1.out.1⟩
  · obtain rfl : R = 12 := HR.out.2.1 (fun h => h1 h.1)
    have h1i : (0 : Int) < (tn : Int) := by omega
    go_wp2
    go_ret
    exact ⟨rfl, HQ1.out.1⟩
set_option maxHeartbeats 1600000 in
theorem tables_any (r : Rs) (A K S : List Int) (w : World) (hm : RsM w r A K S) : Calls Tryd.prog 31 #[r.V] w fun e w' => e = .returned (.int .i64 (ckE r.W r.H r.C r.D r.tn A K)) ∧ Below w.heap.size w w' := by
  by_cases hmay : mayN r.W r.H r.C r.D
  · by_cases h3 : r.C = 3
    · exact tables3 r A K S w hm hmay h3
    · exact tablesX r A K S w hm hmay h3
  · have HQ : Hid (QR w r.c9 _) := QR.box w r.c9
    have CM := rmay_any r.W r.H r.C r.D r.L (w.alloc (.cells r.c9 40))
    rw [decide_eq_false hmay] at CM
    unfold ckE
    rw [if_neg hmay]
    clear hm hmay
    unfold HdV at CM
    obtain ⟨W, H, C, D, L, ta, tn, tc, aa, an, ac, ca, cn, cc, sa, sn, sc⟩ := r
    unfold Rs.V at *
    unfold Rs.c9 at *
    simp only at *
    go_enter Tryd.func31, Tryd.ntmps31
    go_wp2_with fail
    refine CM.mono ?_
    clear CM
    rintro e w1 ⟨rfl, hb1⟩
    have HF : Hid (Below w.heap.size w w1) := (HQ.out.old hb1).1
    clear hb1
    go_wp2
    go_ret
    exact ⟨rfl, HF.out⟩
end Go.Proofs.YtbjoalgglmalnaaDoor
