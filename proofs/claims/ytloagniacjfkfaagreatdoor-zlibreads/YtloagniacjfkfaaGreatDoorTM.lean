/- zlib: what wrapped bytes tell by the document. -/
import Derived.Test.YtloagniacjfkfaaGreatDoorTL
namespace Go.Proofs.YtloagniacjfkfaaGreatDoor
open Go.RowKit
theorem heap_newZ (w : World) (o : Obj) : (w.alloc o).heap[w.heap.size]? = some o := by
  have : (w.alloc o).heap = w.heap.push o := rfl
  rw [this]
  simp
set_option maxHeartbeats 3200000 in
set_option maxRecDepth 20000 in
theorem zof_any (a : Option Addr) (n cap : Nat) (bs : List Int) (lim : Int) (w : World) (hn : bs.length = n) (hnc : n ≤ cap) (hcm : cap ≤ 9223372036854775807) (hs : n ≤ 6002) (hby : Bytes bs) (hr : Row w a bs) (hlim : lim ≤ 1000000) :
    Calls Tryz.prog 12 #[.slice a n cap, .int .i64 lim] w fun e w' => ZofP w lim.toNat bs e w' := by
  have HN : Hid (bs.length = n ∧ Bytes bs ∧ Row w a bs) := ⟨hn, hby, hr⟩
  clear hn hby hr
  go_enter Tryz.func12, Tryz.ntmps12
  go_upto_region 1 with fail
  obtain ⟨W1, hW1⟩ : ∃ W1, w.alloc (.cells #[.slice none 0 0, .slice none 0 0, .int .i64 0, .bool false] 30) = W1 := ⟨_, rfl⟩
  have hz1 : RZ W1 w.heap.size (.slice none 0 0) (.slice none 0 0) 0 false := by rw [← hW1]; exact heap_newZ w _
  have hb1 : Below w.heap.size w W1 := by rw [← hW1]; exact (Below.refl _ w).alloc (Nat.le_refl _) _
  rw [hW1]
  obtain ⟨p0, p1, p2, p3, pf⟩ := hz1.cells
  have HZ : Hid (RZ W1 w.heap.size (.slice none 0 0) (.slice none 0 0) 0 false ∧ Below w.heap.size w W1) := ⟨hz1, hb1⟩
  clear hW1 hz1 hb1
  by_cases h2 : (n : Int) < 2
  · have HP : Hid _ := zof_end (lim := lim.toNat) (bs := bs) (out := []) (rest := []) (ar := none) (cr := 0) HZ.out.1 HZ.out.2 (Sl.nil W1 5) (.inl rfl) (zcmp_short (by have := HN.out.1; omega))
    go_wp2
    obtain ⟨z0, z1, z2, z3, zf⟩ := HP.out.1.cells
    have HPF := HP.out.2
    clear HP
    simp only [List.length_nil] at z0 z1 z2 z3 zf HPF
    generalize ((((W1.setCell ⟨w.heap.size, 0, none⟩ (.slice none 0 0)).setCell ⟨w.heap.size, 1, none⟩ (.slice none 0 0)).setCell ⟨w.heap.size, 2, none⟩ (.int .i64 2)).setCell ⟨w.heap.size, 3, none⟩ (.bool false)) = wf at *
    refine bodyPost_ret (v := .agg #[.slice none 0 0, .slice none 0 0, .int .i64 2, .bool false]) ?_ rfl HPF
    rw [results_cell1 rfl]
    clear HPF
    go_simp
  · have hrw := HN.out.2.2.old HZ.out.2
    obtain ⟨b, off, rfl, hc⟩ : ∃ b off, a = some ⟨b, off, none⟩ ∧ ∀ i, i < bs.length → W1.cell? ⟨b, off + i, none⟩ = some (.int .u8 (bs[i]?.getD 0)) := by
      rcases hrw with h | h
      · have := HN.out.1; rw [h] at this; simp at this; omega
      · exact h
    obtain ⟨A, hA⟩ : ∃ A : Nat, bs[0]?.getD 0 = (A : Int) := ⟨(bs[0]?.getD 0).toNat, by have := HN.out.2.1.at 0; omega⟩
    obtain ⟨C, hC⟩ : ∃ C : Nat, bs[1]?.getD 0 = (C : Int) := ⟨(bs[1]?.getD 0).toNat, by have := HN.out.2.1.at 1; omega⟩
    have hA1 : A ≤ 255 := by have := HN.out.2.1.at 0; omega
    have hC1 : C ≤ 255 := by have := HN.out.2.1.at 1; omega
    have hi := zh_iff HN.out.2.1 (by have := HN.out.1; omega)
    rw [hA, hC] at hi
    have k0 := hc 0 (by have := HN.out.1; omega)
    have k1 := hc 1 (by have := HN.out.1; omega)
    rw [hA] at k0
    rw [hC] at k1
    have HI : Hid (zh bs = true ↔ ¬ ((A : Int) % 16 ≠ 8 ∨ 7 < (A : Int) / 16 ∨ (C : Int) / 32 % 2 = 1 ∨ (256 * (A : Int) + C) % 31 ≠ 0)) := hi
    clear hi hA hC hc hrw
    rw [Nat.add_zero] at k0
    go_upto_region 3 with fail
    go_cut [5, 6] (fun v5 v6 wx => v5 = .int .i64 A ∧ v6 = .int .i64 C ∧ RZ wx w.heap.size (.slice none 0 0) (.slice none 0 0) 0 false ∧ Below w.heap.size w wx)
    case first =>
      have hn0 : (0 : Int) < (n : Int) := by omega
      have hn1 : (1 : Int) < (n : Int) := by omega
      have hn0' : 0 < n := by omega
      have hn1' : 1 < n := by omega
      have hwA : IntKind.i64.wrap (A : Int) = A := by rw [IntKind.wrap_i64]; omega
      have hwC : IntKind.i64.wrap (C : Int) = C := by rw [IntKind.wrap_i64]; omega
      go_wp2
      go_region_held3 (fun u => u.cell? ⟨b, off, none⟩ = some (.int .u8 A) ∧ u.cell? ⟨b, off + 1, none⟩ = some (.int .u8 C)) (first | go_keep | exact ⟨by assumption, by assumption⟩) (fail)
      go_wp2
      go_meet
      exact ⟨rfl, rfl, HZ.out.1, below_drewN HZ.out.2 1⟩
    case rest =>
      obtain ⟨rfl, rfl, hz4, hb4⟩ := hcut
      clear p0 p1 p2 p3 pf HZ k0 k1
      obtain ⟨p0, p1, p2, p3, pf⟩ := hz4.cells
      have HZ : Hid (RZ wc w.heap.size (.slice none 0 0) (.slice none 0 0) 0 false ∧ Below w.heap.size w wc) := ⟨hz4, hb4⟩
      clear hz4 hb4
      obtain ⟨T, hT⟩ : ∃ T : Nat, A % 16 = T := ⟨_, rfl⟩
      obtain ⟨Q, hQ⟩ : ∃ Q : Nat, A / 16 = Q := ⟨_, rfl⟩
      obtain ⟨D, hD⟩ : ∃ D : Nat, C / 32 = D := ⟨_, rfl⟩
      obtain ⟨U, hU⟩ : ∃ U : Nat, D % 2 = U := ⟨_, rfl⟩
      obtain ⟨V, hV⟩ : ∃ V : Nat, 256 * A + C = V := ⟨_, rfl⟩
      obtain ⟨R, hR⟩ : ∃ R : Nat, V % 31 = R := ⟨_, rfl⟩
      have hAt : ((A : Int)).tmod 16 = (T : Int) := by rw [Int.tmod_eq_emod_of_nonneg (by omega)]; omega
      have hAd : ((A : Int)).tdiv 16 = (Q : Int) := by rw [Int.tdiv_eq_ediv_of_nonneg (by omega)]; omega
      have hCd : ((C : Int)).tdiv 32 = (D : Int) := by rw [Int.tdiv_eq_ediv_of_nonneg (by omega)]; omega
      have hCt : ((D : Int)).tmod 2 = (U : Int) := by rw [Int.tmod_eq_emod_of_nonneg (by omega)]; omega
      have hVv : 256 * (A : Int) + C = (V : Int) := by omega
      have hVt : ((V : Int)).tmod 31 = (R : Int) := by rw [Int.tmod_eq_emod_of_nonneg (by omega)]; omega
      have hi : zh bs = true ↔ ¬ (T ≠ 8 ∨ 7 < Q ∨ U = 1 ∨ R ≠ 0) := by
        rw [HI.out, hVv]
        omega
      have hU1 : U ≤ 1 := by omega
      have hQ1 : Q ≤ 15 := by omega
      have hD1 : D ≤ 7 := by omega
      clear HI hT hQ hD hU hV hR
      by_cases hg : T ≠ 8 ∨ 7 < Q ∨ U = 1 ∨ R ≠ 0
      · have hzf : zh bs = false := by
          cases hz : zh bs with
          | false => rfl
          | true => exact absurd hg (hi.1 hz)
        have HP : Hid _ := zof_end (lim := lim.toNat) (bs := bs) (out := []) (rest := []) (ar := none) (cr := 0) HZ.out.1 HZ.out.2 (Sl.nil wc 5) (.inl rfl) (zcmp_form (by have := HN.out.1; omega) hzf)
        clear hi hzf
        by_cases c1 : T = 8
        · subst c1
          by_cases c2 : 7 < Q
          · have c2i : (7 : Int) < (Q : Int) := by omega
            go_wp2
            obtain ⟨z0, z1, z2, z3, zf⟩ := HP.out.1.cells
            have HPF := HP.out.2
            clear HP
            simp only [List.length_nil] at z0 z1 z2 z3 zf HPF
            generalize ((((wc.setCell ⟨w.heap.size, 0, none⟩ (.slice none 0 0)).setCell ⟨w.heap.size, 1, none⟩ (.slice none 0 0)).setCell ⟨w.heap.size, 2, none⟩ (.int .i64 3)).setCell ⟨w.heap.size, 3, none⟩ (.bool false)) = wf at *
            refine bodyPost_ret (v := .agg #[.slice none 0 0, .slice none 0 0, .int .i64 3, .bool false]) ?_ rfl HPF
            rw [results_cell1 rfl]
            clear HPF
            go_simp
          · have c2i : (Q : Int) ≤ 7 := by omega
            by_cases c3 : U = 1
            · subst c3
              go_wp2
              obtain ⟨z0, z1, z2, z3, zf⟩ := HP.out.1.cells
              have HPF := HP.out.2
              clear HP
              simp only [List.length_nil] at z0 z1 z2 z3 zf HPF
              generalize ((((wc.setCell ⟨w.heap.size, 0, none⟩ (.slice none 0 0)).setCell ⟨w.heap.size, 1, none⟩ (.slice none 0 0)).setCell ⟨w.heap.size, 2, none⟩ (.int .i64 3)).setCell ⟨w.heap.size, 3, none⟩ (.bool false)) = wf at *
              refine bodyPost_ret (v := .agg #[.slice none 0 0, .slice none 0 0, .int .i64 3, .bool false]) ?_ rfl HPF
              rw [results_cell1 rfl]
              clear HPF
              go_simp
            · obtain rfl : U = 0 := by omega
              have c4 : ¬ R = 0 := by omega
              have c4n : ((R : Int) != 0) = true := by simp; omega
              go_wp2
              obtain ⟨z0, z1, z2, z3, zf⟩ := HP.out.1.cells
              have HPF := HP.out.2
              clear HP
              simp only [List.length_nil] at z0 z1 z2 z3 zf HPF
              generalize ((((wc.setCell ⟨w.heap.size, 0, none⟩ (.slice none 0 0)).setCell ⟨w.heap.size, 1, none⟩ (.slice none 0 0)).setCell ⟨w.heap.size, 2, none⟩ (.int .i64 3)).setCell ⟨w.heap.size, 3, none⟩ (.bool false)) = wf at *
              refine bodyPost_ret (v := .agg #[.slice none 0 0, .slice none 0 0, .int .i64 3, .bool false]) ?_ rfl HPF
              rw [results_cell1 rfl]
              clear HPF
              go_simp
        · have c1b : ((T : Int) == 8) = false := by simp; omega
          go_wp2
          obtain ⟨z0, z1, z2, z3, zf⟩ := HP.out.1.cells
          have HPF := HP.out.2
          clear HP
          simp only [List.length_nil] at z0 z1 z2 z3 zf HPF
          generalize ((((wc.setCell ⟨w.heap.size, 0, none⟩ (.slice none 0 0)).setCell ⟨w.heap.size, 1, none⟩ (.slice none 0 0)).setCell ⟨w.heap.size, 2, none⟩ (.int .i64 3)).setCell ⟨w.heap.size, 3, none⟩ (.bool false)) = wf at *
          refine bodyPost_ret (v := .agg #[.slice none 0 0, .slice none 0 0, .int .i64 3, .bool false]) ?_ rfl HPF
          rw [results_cell1 rfl]
          clear HPF
          go_simp
      · have hzt : zh bs = true := hi.2 hg
        obtain ⟨rfl, c2, c3, rfl⟩ : T = 8 ∧ Q ≤ 7 ∧ U = 0 ∧ R = 0 := by omega
        subst c3
        have c2i : (Q : Int) ≤ 7 := by omega
        have HZT : Hid (zh bs = true) := hzt
        go_upto_region 6 with fail
        clear hzt hi hg hAt hAd hCd hCt hVt hVv hU1 hQ1 hD1 hA1 hC1
        go_cut [7] (fun v wx => ∃ r : Nat, v = .pointer (some ⟨r, 0, none⟩) ∧ OfPost wc lim (bitsL (bs.drop 2)) (.returned (.pointer (some ⟨r, 0, none⟩))) wx)
        case first =>
          have h2i : (2 : Int) ≤ (n : Int) := by omega
          have h2c : (2 : Int) ≤ (cap : Int) := by omega
          have hrw := HN.out.2.2.old HZ.out.2
          have hcut := hrw.cut 2 cap (by have := HN.out.1; omega) (by have := HN.out.1; omega)
          have hdl : (bs.drop 2).length = n - 2 := by rw [List.length_drop, HN.out.1]
          by_cases hc2 : cap = 2
          · obtain rfl : n = 2 := by omega
            subst hc2
            rw [if_pos rfl] at hcut
            have HOf := rofI_any (some ⟨b, off, none⟩) 0 0 (bs.drop 2) lim wc hdl (by omega) (HN.out.2.1.drop 2) hcut hlim
            clear hrw hcut hdl
            go_wp2_with (go_at_call 25; refine HOf.mono ?_; rintro e w2 hp; obtain ⟨r, hr⟩ : ∃ r, e = .returned (.pointer (some ⟨r, 0, none⟩)) := (by obtain ⟨r, _, _, _, _, _, _, _, h, _⟩ := hp; exact ⟨r, h⟩); subst hr; have HPo : Hid _ := hp; clear hp)
            go_meet
            exact ⟨r, rfl, HPo.out⟩
          · rw [if_neg hc2, Option.map_some, Addr.add_lit] at hcut
            have hc2i : ¬ (cap : Int) = 2 := by omega
            have HOf := rofI_any (some ⟨b, off + 2, none⟩) (n - 2) (cap - 2) (bs.drop 2) lim wc hdl (by omega) (HN.out.2.1.drop 2) hcut hlim
            clear hrw hcut hdl
            go_wp2_with (go_at_call 25; refine HOf.mono ?_; rintro e w2 hp; obtain ⟨r, hr⟩ : ∃ r, e = .returned (.pointer (some ⟨r, 0, none⟩)) := (by obtain ⟨r, _, _, _, _, _, _, _, h, _⟩ := hp; exact ⟨r, h⟩); subst hr; have HPo : Hid _ := hp; clear hp)
            go_meet
            exact ⟨r, rfl, HPo.out⟩
        case rest =>
          obtain ⟨r, rfl, r', gb, go, gq, BB, out, E, dn, he, hr0, hrun, hol, hB, hBl, hbel, hof, hne⟩ := hcut
          obtain rfl : r = r' := by simpa using he
          obtain ⟨vb, vo, vk, all, ks, h1, h2', h3, h4, h5⟩ := hrun
          obtain ⟨q0, q2, q3, q4, q5, q6, qf⟩ := h1.cells
          obtain ⟨ao, co, hvo, hol1, hol2, hol3⟩ := h3.shape
          rw [vals_len] at hvo hol1
          obtain ⟨ab, cb, hvb, hbl1, hbl2, hbl3⟩ := h2'.shape
          rw [ivals_len] at hvb hbl1
          subst hvo
          subst hvb
          obtain ⟨OL, hOL⟩ : ∃ OL, out.length = OL := ⟨_, rfl⟩
          obtain ⟨BL, hBL⟩ : ∃ BL, BB.length = BL := ⟨_, rfl⟩
          have hz2 := HZ.out.1.same (hbel.block _ HZ.out.1.lt)
          have hb2 := HZ.out.2.trans (hbel.mono HZ.out.2.size)
          rw [hOL] at q2 h3 hol1 hol h1
          rw [hBL] at q0 h2' hbl1 hBl h1
          have hgr : r ≠ w.heap.size := by have := HZ.out.1.lt; omega
          have HY : Hid (RZ wc w.heap.size (.slice none 0 0) (.slice none 0 0) 0 false ∧ Below w.heap.size w wc ∧ RunC wc r (.slice ab BL cb) (.slice ao OL co) vk all lim E dn ∧ Sl wc 3 (.slice ab BL cb) gb (ivals BB) ∧ Sl wc 5 (.slice ao OL co) go (vals out) ∧ Bit BB ∧ OfE lim.toNat (bitsL (bs.drop 2)) out BB E dn ∧ (dn = false → E ≠ 0) ∧ out.length = OL ∧ BB.length = BL ∧ OL ≤ lim.toNat ∧ BL ≤ 1000000) := ⟨hz2, hb2, h1, h2', h3, hB, hof, hne, hOL, hBL, hol, hBl⟩
          clear he hr0 hol hB hBl hbel hof hne h1 h2' h3 h4 h5 hOL hBL hz2 hb2 HZ p0 p1 p2 p3 pf
          obtain ⟨w5, hw5⟩ : ∃ w5, w5 = wc := ⟨_, rfl⟩
          subst hw5
          go_upto_region 7 with fail
          go_cut [8] (fun v wx => v = .pointer (some ⟨w5.heap.size, 0, none⟩) ∧ RZ wx w5.heap.size (.slice ao OL co) (.slice none 0 0) E false ∧ Below w5.heap.size w5 wx)
          case first =>
            go_wp2
            go_region_held3 (fun u => u.cell? ⟨r, 2, none⟩ = some (.slice ao OL co) ∧ u.cell? ⟨r, 4, none⟩ = some (.int .i64 E)) (first | go_keep | exact ⟨by assumption, by assumption⟩) (fail)
            go_wp2
            go_meet
            exact ⟨rfl, heap_newZ w5 _, below_drewN ((Below.refl _ w5).alloc (Nat.le_refl _) _) 1⟩
          case rest =>
            obtain ⟨rfl, hx8, hb8⟩ := hcut
            obtain ⟨X, hX⟩ : ∃ X, w5.heap.size = X := ⟨_, rfl⟩
            have hXw : w.heap.size < X := by rw [← hX]; exact HY.out.1.lt
            have hXr : r < X := by rw [← hX]; exact HY.out.2.2.1.lt
            have hzW := HY.out.1.same (hb8.block _ HY.out.1.lt)
            have hbW := HY.out.2.1.trans (hb8.mono HY.out.2.1.size)
            have hrW := HY.out.2.2.1.same (hb8.block _ HY.out.2.2.1.lt)
            have hsB := HY.out.2.2.2.1.same fun k hk => hb8.block k (HY.out.2.2.2.1.lt hk)
            have hsO := HY.out.2.2.2.2.1.same fun k hk => hb8.block k (HY.out.2.2.2.2.1.lt hk)
            obtain ⟨_, _, _, _, _, hBit, hOf, hne, hOL, hBL, hol, hBl⟩ := HY.out
            rw [hX] at hx8
            rw [hX]
            clear q0 q2 q3 q4 q5 q6 qf HY hb8 hX
            obtain ⟨q0, q2, q3, q4, q5, q6, qf⟩ := hrW.cells
            obtain ⟨p0, p1, p2, p3, pf⟩ := hzW.cells
            obtain ⟨x0, x1, x2, x3, xf⟩ := hx8.cells
            have HA : Hid (RZ wc w.heap.size (.slice none 0 0) (.slice none 0 0) 0 false ∧ Below w.heap.size w wc ∧ RZ wc X (.slice ao OL co) (.slice none 0 0) E false ∧ Sl wc 3 (.slice ab BL cb) gb (ivals BB) ∧ Sl wc 5 (.slice ao OL co) go (vals out) ∧ Bit BB ∧ OfE lim.toNat (bitsL (bs.drop 2)) out BB E dn ∧ (dn = false → E ≠ 0) ∧ out.length = OL ∧ BB.length = BL ∧ 2 ≤ bs.length) := ⟨hzW, hbW, hx8, hsB, hsO, hBit, hOf, hne, hOL, hBL, by have := HN.out.1; omega⟩
            have hll : OL ≤ 1000000 := by omega
            clear hzW hbW hx8 hsB hsO hBit hOf hne hOL hBL hol hrW q2 q3 q4 q6
            cases dn with
            | false =>
              have HP : Hid _ := zof_end (lim := lim.toNat) (bs := bs) (rest := []) (ar := none) (cr := 0) HA.out.1 HA.out.2.1 HA.out.2.2.2.2.1 (.inl rfl) (zcmp_no HA.out.2.2.2.2.2.2.2.2.2.2 HZT.out HA.out.2.2.2.2.2.2.1 (HA.out.2.2.2.2.2.2.2.1 rfl))
              clear HA hol1 hol2 hol3 hbl1 hbl2 hbl3
              go_wp2
              obtain ⟨z0, z1, z2, z3, zf⟩ := HP.out.1.cells
              have HPF := HP.out.2
              clear HP
              simp only [List.length_nil] at z0 z1 z2 z3 zf HPF
              generalize ((((wc.setCell ⟨w.heap.size, 0, none⟩ (.slice ao OL co)).setCell ⟨w.heap.size, 1, none⟩ (.slice none 0 0)).setCell ⟨w.heap.size, 2, none⟩ (.int .i64 E)).setCell ⟨w.heap.size, 3, none⟩ (.bool false)) = wf at *
              refine bodyPost_ret (v := .agg #[.slice ao OL co, .slice none 0 0, .int .i64 E, .bool false]) ?_ rfl HPF
              rw [results_cell1 rfl]
              clear HPF
              go_simp
            | true =>
              obtain rfl : E = 0 := (HA.out.2.2.2.2.2.2.1.1 rfl).1
              go_upto_region 10 with fail
              obtain ⟨w8, hw8⟩ : ∃ w8, w8 = wc := ⟨_, rfl⟩
              subst hw8
              go_cut [9] (fun v wx => ∃ a c rs, v = .slice a rs.length c ∧ rs.length ≤ c ∧ c ≤ maxLen ∧ (a = none → c = 0) ∧ Row wx a rs ∧ Below w8.heap.size w8 wx ∧ Bytes rs ∧ bitsL rs = BB.drop (BB.length % 8))
              case first =>
                obtain ⟨m8, hm8⟩ : ∃ m8, BL % 8 = m8 := ⟨_, rfl⟩
                have hni : ((BL : Int)).tmod 8 = (m8 : Int) := by rw [Int.tmod_eq_emod_of_nonneg (by omega)]; omega
                have hnl : m8 ≤ BL := by omega
                have hc := HA.out.2.2.2.1.cutN m8 (by rw [ivals_len, HA.out.2.2.2.2.2.2.2.2.2.1]; exact hnl)
                rw [ivals_len, HA.out.2.2.2.2.2.2.2.2.2.1, show (ivals BB).drop m8 = ivals (BB.drop m8) by simp [ivals]] at hc
                obtain ⟨a2, ha2⟩ : ∃ a2, (if cb = m8 then ab else Option.map (fun x => x.add m8) ab) = a2 := ⟨_, rfl⟩
                rw [ha2] at hc
                have hlen : (BB.drop m8).length = BL - m8 := by rw [List.length_drop, HA.out.2.2.2.2.2.2.2.2.2.1]
                have HBY : Hid (∀ m, Calls Tryz.prog 26 #[.slice a2 (BL - m8) (cb - m8)] (w8.drewN m) fun e wx => ∃ a c rs, e = .returned (.slice a rs.length c) ∧ rs.length ≤ c ∧ c ≤ maxLen ∧ (a = none → c = 0) ∧ Row wx a rs ∧ Below w8.heap.size w8 wx ∧ Bytes rs ∧ bitsL rs = BB.drop (BB.length % 8)) := by
                  intro m
                  refine (refBytes_any a2 (BL - m8) (cb - m8) (BB.drop m8) (w8.drewN m) hlen (by omega) (by unfold maxLen at *; omega) (by omega) (HA.out.2.2.2.2.2.1.drop m8) (hc.irow rfl)).mono ?_
                  rintro e w' ⟨a, c, rfl, q1, q2, q3, q4, q5⟩
                  refine ⟨a, c, _, rfl, q1, q2, q3, q4, ⟨q5.os, q5.tape, q5.output, q5.size, q5.block⟩, chunkL_bytes (HA.out.2.2.2.2.2.1.drop m8) _, ?_⟩
                  rw [HA.out.2.2.2.2.2.2.2.2.2.1, hm8, show (BL - m8 + 7) / 8 = (BL - m8) / 8 by omega]
                  exact bitsL_chunk (HA.out.2.2.2.2.2.1.drop m8) _ (by rw [hlen]; omega)
                have hn8 : m8 < 8 := by omega
                have hnci : (m8 : Int) ≤ (BL : Int) ∧ (BL : Int) ≤ (cb : Int) := by omega
                clear hc hm8 hlen
                by_cases hcn : cb = m8
                · rw [if_pos hcn] at ha2
                  subst ha2
                  rw [show cb - m8 = 0 by omega] at HBY
                  refine wp_region_still_tail 11 (by kernel_rfl) (by kernel_rfl) ?_
                  simp only [List.take_succ_cons, List.take_zero, List.drop_succ_cons, List.drop_zero]
                  rw [show ({ w8 with drawn := w8.drawn + 1 } : World) = w8.drewN 1 from rfl]
                  iterate 9 still_step
                  with_reducible refine wpStill_step (fun K' hK' => ?_)
                  go_simp
                  refine hK' _ ?_
                  clear hK' K'
                  with_reducible refine wpStill_step (fun K' hK' => ?_)
                  go_simp
                  refine hK' _ ?_
                  clear hK' K'
                  with_reducible refine wpStill_nil ?_
                  go_wp2_with fail
                  refine (HBY.out 1).mono ?_
                  rintro e w4 ⟨a, c, zs, rfl, hz⟩
                  have HP : Hid _ := hz
                  clear hz
                  go_wp2
                  go_meet
                  exact ⟨a, c, zs, rfl, HP.out⟩
                · rw [if_neg hcn] at ha2
                  subst ha2
                  refine wp_region_still_tail 11 (by kernel_rfl) (by kernel_rfl) ?_
                  simp only [List.take_succ_cons, List.take_zero, List.drop_succ_cons, List.drop_zero]
                  rw [show ({ w8 with drawn := w8.drawn + 1 } : World) = w8.drewN 1 from rfl]
                  iterate 9 still_step
                  with_reducible refine wpStill_step (fun K' hK' => ?_)
                  go_simp
                  refine hK' _ ?_
                  clear hK' K'
                  with_reducible refine wpStill_step (fun K' hK' => ?_)
                  go_simp
                  refine hK' _ ?_
                  clear hK' K'
                  with_reducible refine wpStill_nil ?_
                  go_wp2_with fail
                  refine (HBY.out 1).mono ?_
                  rintro e w4 ⟨a, c, zs, rfl, hz⟩
                  have HP : Hid _ := hz
                  clear hz
                  go_wp2
                  go_meet
                  exact ⟨a, c, zs, rfl, HP.out⟩
              case rest =>
                obtain ⟨aR, cR, rs, rfl, hR1, hR2, hR3, hR4, hb9, hrb, hrB⟩ := hcut
                have hzW := HA.out.1.same (hb9.block _ HA.out.1.lt)
                have hbW := HA.out.2.1.trans (hb9.mono HA.out.2.1.size)
                have hx9 := HA.out.2.2.1.same (hb9.block _ HA.out.2.2.1.lt)
                have hsO := HA.out.2.2.2.2.1.same fun k hk => hb9.block k (HA.out.2.2.2.2.1.lt hk)
                have hft := zcmp_foot HA.out.2.2.2.2.2.2.2.2.2.2 HZT.out HA.out.2.2.2.2.2.2.1 hrb hrB
                have hOL := HA.out.2.2.2.2.2.2.2.2.1
                have hby9 : Bytes out := by
                  obtain ⟨_, s1, _, ho, hru⟩ := HA.out.2.2.2.2.2.2.1.1 rfl
                  have := hru.byt (bitsL_bit _) Bytes.nil
                  rw [← ho]; exact this
                clear p0 p1 p2 p3 pf x0 x1 x2 x3 xf q0 q5 qf hb9 hbl1 hbl2 hbl3
                obtain ⟨p0, p1, p2, p3, pf⟩ := hzW.cells
                obtain ⟨x0, x1, x2, x3, xf⟩ := hx9.cells
                obtain ⟨RL, hRL⟩ : ∃ RL, rs.length = RL := ⟨_, rfl⟩
                rw [hRL] at hR1 hft ⊢
                have HB : Hid (RZ wc w.heap.size (.slice none 0 0) (.slice none 0 0) 0 false ∧ Below w.heap.size w wc ∧ RZ wc X (.slice ao OL co) (.slice none 0 0) 0 false ∧ Sl wc 5 (.slice ao OL co) go (vals out) ∧ Row wc aR rs ∧ Bytes rs ∧ rs.length = RL ∧ out.length = OL ∧ Bytes out ∧ ((RL < 4 → ZCmp lim.toNat bs out [] 2 false) ∧ (4 ≤ RL → bigN (rs.take 4) = adlM 1 out → ZCmp lim.toNat bs out (rs.drop 4) 0 true) ∧ (4 ≤ RL → bigN (rs.take 4) ≠ adlM 1 out → ZCmp lim.toNat bs out [] 4 false))) := ⟨hzW, hbW, hx9, hsO, hR4, hrb, hRL, hOL, hby9, hft.1, hft.2.1, hft.2.2.1⟩
                clear hzW hbW hx9 hsO hR4 hrb hrB hRL hft hOL HA
                have hne1 : w.heap.size ≠ X := by omega
                have hneg : ∀ k, go = some k → k ≠ X := fun k hk e => (HB.out.2.2.1.ne HB.out.2.2.2.1 (by decide)) (by rw [hk, e])
                by_cases hR0 : RL < 4
                · have hR0i : (RL : Int) < 4 := by omega
                  have hzS : RZ (wc.setCell ⟨X, 2, none⟩ (.int .i64 2)) w.heap.size (.slice none 0 0) (.slice none 0 0) 0 false := HB.out.1.same (Below.heap_setCell _ _ _ _ hne1)
                  have hxS := HB.out.2.2.1.set2 2
                  have HP : Hid _ := zof_end (lim := lim.toNat) (bs := bs) (rest := []) (ar := none) (cr := 0) hzS (HB.out.2.1.setCell (p := ⟨X, 2, none⟩) (Nat.le_of_lt hXw) _) (HB.out.2.2.2.1.same fun k hk => Below.heap_setCell _ _ _ _ (hneg k hk)) (.inl rfl) (HB.out.2.2.2.2.2.2.2.2.2.1 hR0)
                  obtain ⟨s0, s1, s2, s3, sf⟩ := hzS.cells
                  obtain ⟨y0, y1, y2, y3, yf⟩ := hxS.cells
                  clear hzS hxS HB hR1 hR2 hR3 hol1 hol2 hol3 hneg
                  go_wp2
                  obtain ⟨z0, z1, z2, z3, zf⟩ := HP.out.1.cells
                  have HPF := HP.out.2
                  clear HP
                  simp only [List.length_nil] at z0 z1 z2 z3 zf HPF
                  generalize (((((wc.setCell ⟨X, 2, none⟩ (.int .i64 2)).setCell ⟨w.heap.size, 0, none⟩ (.slice ao OL co)).setCell ⟨w.heap.size, 1, none⟩ (.slice none 0 0)).setCell ⟨w.heap.size, 2, none⟩ (.int .i64 2)).setCell ⟨w.heap.size, 3, none⟩ (.bool false)) = wf at *
                  refine bodyPost_ret (v := .agg #[.slice ao OL co, .slice none 0 0, .int .i64 2, .bool false]) ?_ rfl HPF
                  rw [results_cell1 rfl]
                  clear HPF
                  go_simp
                · have hR0i : (4 : Int) ≤ (RL : Int) := by omega
                  have hRci : (4 : Int) ≤ (cR : Int) := by omega
                  obtain ⟨N, hN⟩ : ∃ N : Nat, bigN (rs.take 4) = (N : Int) := ⟨(bigN (rs.take 4)).toNat, by have := (bigN_le (HB.out.2.2.2.2.2.1.take 4) (by simp; omega)); omega⟩
                  have hN4 : N ≤ 4294967295 := by have := (bigN_le (HB.out.2.2.2.2.2.1.take 4) (by simp; omega)); omega
                  obtain ⟨S, hS⟩ : ∃ S : Int, adlM 1 out = S := ⟨_, rfl⟩
                  have HNm : Hid (∀ m, Calls Tryz.prog 27 #[.slice aR 4 cR] (wc.drewN m) fun e w' => e = .returned (.int .i64 (N : Int)) ∧ w' = wc.drewN m) := by
                    intro m
                    rw [← hN]
                    exact numberZ_any aR 4 cR (rs.take 4) (wc.drewN m) (by rw [List.length_take, HB.out.2.2.2.2.2.2.1]; omega) (by omega) (HB.out.2.2.2.2.2.1.take 4) (HB.out.2.2.2.2.1.takeN 4)
                  have HOa : Hid (∀ m, Calls Tryz.prog 28 #[.slice ao OL co] (wc.drewN m) fun e w' => e = .returned (.int .u32 S) ∧ w' = wc.drewN m) := by
                    intro m
                    rw [← hS]
                    exact rof_any ao OL co out (wc.drewN m) HB.out.2.2.2.2.2.2.2.1 (by omega) HB.out.2.2.2.2.2.2.2.2.1 (HB.out.2.2.2.1.row rfl)
                  have hwN : IntKind.u32.wrap (N : Int) = N := by rw [IntKind.wrap_u32]; omega
                  obtain ⟨w7, hw7⟩ : ∃ w7, w7 = wc := ⟨_, rfl⟩
                  subst hw7
                  go_upto_region 14 with fail
                  go_cut [88] (fun v wx => v = .bool ((N : Int) != S) ∧ ∃ m, wx = w7.drewN m)
                  case first =>
                    go_quiet ((first | (go_at_call 27; exact Calls.quiet_of_same (HNm.out _)) | (go_at_call 28; exact Calls.quiet_of_same (HOa.out _))))
                    go_wp2
                    go_meet
                    exact ⟨rfl, _, rfl⟩
                  case rest =>
                  obtain ⟨rfl, m9, rfl⟩ := hcut
                  obtain ⟨w9, hw9⟩ : ∃ w9, w7.drewN m9 = w9 := ⟨_, rfl⟩
                  have hz9 : RZ w9 w.heap.size (.slice none 0 0) (.slice none 0 0) 0 false := by rw [← hw9]; exact HB.out.1
                  have hx9 : RZ w9 X (.slice ao OL co) (.slice none 0 0) 0 false := by rw [← hw9]; exact HB.out.2.2.1
                  have HB9 : Hid (RZ w9 w.heap.size (.slice none 0 0) (.slice none 0 0) 0 false ∧ Below w.heap.size w w9 ∧ RZ w9 X (.slice ao OL co) (.slice none 0 0) 0 false ∧ Sl w9 5 (.slice ao OL co) go (vals out) ∧ Row w9 aR rs ∧ Bytes rs ∧ rs.length = RL ∧ out.length = OL ∧ Bytes out ∧ ((RL < 4 → ZCmp lim.toNat bs out [] 2 false) ∧ (4 ≤ RL → bigN (rs.take 4) = adlM 1 out → ZCmp lim.toNat bs out (rs.drop 4) 0 true) ∧ (4 ≤ RL → bigN (rs.take 4) ≠ adlM 1 out → ZCmp lim.toNat bs out [] 4 false))) := ⟨hz9, by rw [← hw9]; exact below_drewN HB.out.2.1 m9, hx9, by rw [← hw9]; exact HB.out.2.2.2.1.same fun k hk => rfl, by rw [← hw9]; exact HB.out.2.2.2.2.1, HB.out.2.2.2.2.2⟩
                  rw [hw9]
                  clear HNm HOa hw9 HB p0 p1 p2 p3 pf x0 x1 x2 x3 xf
                  obtain ⟨p0, p1, p2, p3, pf⟩ := hz9.cells
                  obtain ⟨x0, x1, x2, x3, xf⟩ := hx9.cells
                  clear hz9 hx9
                  have HB := HB9
                  clear HB9
                  by_cases hNS : (N : Int) = S
                  · subst hNS
                    obtain ⟨bR, oR, haR⟩ : ∃ bR oR, aR = some ⟨bR, oR, none⟩ := by
                      rcases HB.out.2.2.2.2.1 with h | ⟨bR, oR, h, _⟩
                      · have := HB.out.2.2.2.2.2.2.1; rw [h] at this; simp at this; omega
                      · exact ⟨bR, oR, h⟩
                    subst haR
                    have hcut4 := HB.out.2.2.2.2.1.cut 4 cR (by have := HB.out.2.2.2.2.2.2.1; omega) (by have := HB.out.2.2.2.2.2.2.1; omega)
                    have hNS : True := trivial
                    by_cases hc4 : cR = 4
                    · obtain rfl : RL = 4 := by omega
                      subst hc4
                      rw [if_pos rfl] at hcut4
                      have hcut2 : Row w9 (some ⟨bR, oR, none⟩) (rs.drop 4) := hcut4
                      have hzS : RZ ((w9.setCell ⟨X, 3, none⟩ (.bool true)).setCell ⟨X, 1, none⟩ (.slice (some ⟨bR, oR, none⟩) (0) (0))) w.heap.size (.slice none 0 0) (.slice none 0 0) 0 false := HB.out.1.same (by rw [Below.heap_setCell _ _ _ _ hne1, Below.heap_setCell _ _ _ _ hne1])
                      have hx0 : RZ w9 X (.slice ao OL co) (.slice none 0 0) 0 false := HB.out.2.2.1
                      have hxS := (hx0.set3 true).set1 (.slice (some ⟨bR, oR, none⟩) (0) (0))
                      have hrS := (hx0.set3 true).row (hx0.row (a := some ⟨bR, oR, none⟩) hcut2 3 (.bool true)) 1 (.slice (some ⟨bR, oR, none⟩) (0) (0))
                      have hbS := (((HB.out.2.1).setCell (p := ⟨X, 3, none⟩) (Nat.le_of_lt hXw) (.bool true)).setCell (p := ⟨X, 1, none⟩) (Nat.le_of_lt hXw) (.slice (some ⟨bR, oR, none⟩) (0) (0)))
                      have hdl : (rs.drop 4).length = 0 := by rw [List.length_drop, HB.out.2.2.2.2.2.2.1]
                      have HP : Hid _ := zof_end (lim := lim.toNat) (bs := bs) (rest := rs.drop 4) (ar := some ⟨bR, oR, none⟩) (cr := 0) hzS hbS (HB.out.2.2.2.1.same fun k hk => (by rw [Below.heap_setCell _ _ _ _ (hneg k hk), Below.heap_setCell _ _ _ _ (hneg k hk)])) hrS (HB.out.2.2.2.2.2.2.2.2.2.2.1 (by omega) (by rw [hN, hS]))
                      rw [hdl] at HP
                      obtain ⟨s0, s1, s2, s3, sf⟩ := hzS.cells
                      obtain ⟨y0, y1, y2, y3, yf⟩ := hxS.cells
                      clear hzS hxS HB hR2 hR3 hol2 hol3 hneg hcut2 hcut4 hbS hrS hdl hx0 hN hS
                      go_wp2
                      obtain ⟨z0, z1, z2, z3, zf⟩ := HP.out.1.cells
                      have HPF := HP.out.2
                      clear HP
                      generalize ((((((w9.setCell ⟨X, 3, none⟩ (.bool true)).setCell ⟨X, 1, none⟩ (.slice (some ⟨bR, oR, none⟩) (0) (0))).setCell ⟨w.heap.size, 0, none⟩ (.slice ao OL co)).setCell ⟨w.heap.size, 1, none⟩ (.slice (some ⟨bR, oR, none⟩) (0) (0))).setCell ⟨w.heap.size, 2, none⟩ (.int .i64 0)).setCell ⟨w.heap.size, 3, none⟩ (.bool true)) = wf at *
                      refine bodyPost_ret (v := .agg #[.slice ao OL co, .slice (some ⟨bR, oR, none⟩) (0) (0), .int .i64 0, .bool true]) ?_ rfl HPF
                      rw [results_cell1 rfl]
                      clear HPF
                      go_simp
                    · rw [if_neg hc4, Option.map_some, Addr.add_lit] at hcut4
                      have hc4i : ¬ (cR : Int) = 4 := by omega
                      have hcut2 : Row w9 (some ⟨bR, oR + 4, none⟩) (rs.drop 4) := hcut4
                      have hzS : RZ ((w9.setCell ⟨X, 3, none⟩ (.bool true)).setCell ⟨X, 1, none⟩ (.slice (some ⟨bR, oR + 4, none⟩) (RL - 4) (cR - 4))) w.heap.size (.slice none 0 0) (.slice none 0 0) 0 false := HB.out.1.same (by rw [Below.heap_setCell _ _ _ _ hne1, Below.heap_setCell _ _ _ _ hne1])
                      have hx0 : RZ w9 X (.slice ao OL co) (.slice none 0 0) 0 false := HB.out.2.2.1
                      have hxS := (hx0.set3 true).set1 (.slice (some ⟨bR, oR + 4, none⟩) (RL - 4) (cR - 4))
                      have hrS := (hx0.set3 true).row (hx0.row (a := some ⟨bR, oR + 4, none⟩) hcut2 3 (.bool true)) 1 (.slice (some ⟨bR, oR + 4, none⟩) (RL - 4) (cR - 4))
                      have hbS := (((HB.out.2.1).setCell (p := ⟨X, 3, none⟩) (Nat.le_of_lt hXw) (.bool true)).setCell (p := ⟨X, 1, none⟩) (Nat.le_of_lt hXw) (.slice (some ⟨bR, oR + 4, none⟩) (RL - 4) (cR - 4)))
                      have hdl : (rs.drop 4).length = RL - 4 := by rw [List.length_drop, HB.out.2.2.2.2.2.2.1]
                      have HP : Hid _ := zof_end (lim := lim.toNat) (bs := bs) (rest := rs.drop 4) (ar := some ⟨bR, oR + 4, none⟩) (cr := cR - 4) hzS hbS (HB.out.2.2.2.1.same fun k hk => (by rw [Below.heap_setCell _ _ _ _ (hneg k hk), Below.heap_setCell _ _ _ _ (hneg k hk)])) hrS (HB.out.2.2.2.2.2.2.2.2.2.2.1 (by omega) (by rw [hN, hS]))
                      rw [hdl] at HP
                      obtain ⟨s0, s1, s2, s3, sf⟩ := hzS.cells
                      obtain ⟨y0, y1, y2, y3, yf⟩ := hxS.cells
                      clear hzS hxS HB hR2 hR3 hol2 hol3 hneg hcut2 hcut4 hbS hrS hdl hx0 hN hS
                      go_wp2
                      obtain ⟨z0, z1, z2, z3, zf⟩ := HP.out.1.cells
                      have HPF := HP.out.2
                      clear HP
                      generalize ((((((w9.setCell ⟨X, 3, none⟩ (.bool true)).setCell ⟨X, 1, none⟩ (.slice (some ⟨bR, oR + 4, none⟩) (RL - 4) (cR - 4))).setCell ⟨w.heap.size, 0, none⟩ (.slice ao OL co)).setCell ⟨w.heap.size, 1, none⟩ (.slice (some ⟨bR, oR + 4, none⟩) (RL - 4) (cR - 4))).setCell ⟨w.heap.size, 2, none⟩ (.int .i64 0)).setCell ⟨w.heap.size, 3, none⟩ (.bool true)) = wf at *
                      refine bodyPost_ret (v := .agg #[.slice ao OL co, .slice (some ⟨bR, oR + 4, none⟩) (RL - 4) (cR - 4), .int .i64 0, .bool true]) ?_ rfl HPF
                      rw [results_cell1 rfl]
                      clear HPF
                      go_simp
                  · have hNb : ((N : Int) == S) = false := by simpa using hNS
                    have hNn : ((N : Int) != S) = true := by simpa using hNS
                    have hzS : RZ (w9.setCell ⟨X, 2, none⟩ (.int .i64 4)) w.heap.size (.slice none 0 0) (.slice none 0 0) 0 false := HB.out.1.same (by rw [Below.heap_setCell _ _ _ _ hne1])
                    have hx0 : RZ w9 X (.slice ao OL co) (.slice none 0 0) 0 false := HB.out.2.2.1
                    have hxS := hx0.set2 4
                    have HP : Hid _ := zof_end (lim := lim.toNat) (bs := bs) (rest := []) (ar := none) (cr := 0) hzS ((HB.out.2.1).setCell (p := ⟨X, 2, none⟩) (Nat.le_of_lt hXw) _) (HB.out.2.2.2.1.same fun k hk => (by rw [Below.heap_setCell _ _ _ _ (hneg k hk)])) (.inl rfl) (HB.out.2.2.2.2.2.2.2.2.2.2.2 (by omega) (by rw [hN, hS]; exact hNS))
                    obtain ⟨s0, s1, s2, s3, sf⟩ := hzS.cells
                    obtain ⟨y0, y1, y2, y3, yf⟩ := hxS.cells
                    clear hzS hxS HB hR2 hR3 hol2 hol3 hneg hx0 hN hS
                    go_wp2
                    obtain ⟨z0, z1, z2, z3, zf⟩ := HP.out.1.cells
                    have HPF := HP.out.2
                    clear HP
                    simp only [List.length_nil] at z0 z1 z2 z3 zf HPF
                    generalize (((((w9.setCell ⟨X, 2, none⟩ (.int .i64 4)).setCell ⟨w.heap.size, 0, none⟩ (.slice ao OL co)).setCell ⟨w.heap.size, 1, none⟩ (.slice none 0 0)).setCell ⟨w.heap.size, 2, none⟩ (.int .i64 4)).setCell ⟨w.heap.size, 3, none⟩ (.bool false)) = wf at *
                    refine bodyPost_ret (v := .agg #[.slice ao OL co, .slice none 0 0, .int .i64 4, .bool false]) ?_ rfl HPF
                    rw [results_cell1 rfl]
                    clear HPF
                    go_simp
end Go.Proofs.YtloagniacjfkfaaGreatDoor
