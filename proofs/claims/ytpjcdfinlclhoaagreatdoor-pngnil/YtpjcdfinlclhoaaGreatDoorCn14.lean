/- The reader's loop. -/
import Derived.Test.YtpjcdfinlclhoaaGreatDoorCn13
import Derived.Deep.LoopGhost
import Derived.WalkMore
namespace Go.Proofs.YtpjcdfinlclhoaaGreatDoor
open Go.RowKit
section
variable {p : Nat} {pre : List Int} {G0 : List Sn} {L : List Sn} {now : Nat} {cur : List Int} {D0 : List Int}
set_option maxHeartbeats 6400000 in
set_option maxRecDepth 20000 in
theorem read_any (bs : List Int) (w : World) (av : Option Addr) (m c : Nat) (hm : bs.length = m) (hb1 : bs.length ≤ 1000000) (h : Lv w p pre G0 bs 0 [] L now cur false [] D0 (.slice none 0 0) none av c (.slice none 0 0) w) :
    Calls Tryz.prog 23 #[.pointer (some ⟨p, 0, none⟩), .slice av m c] w fun e w' => RdPost w p pre G0 bs e w' := by
  have HS : Hid (Lv w p pre G0 bs 0 [] L now cur false [] D0 (.slice none 0 0) none av c (.slice none 0 0) w) := h
  have HM : Hid (bs.length = m ∧ m ≤ 1000000) := ⟨hm, by omega⟩
  clear h hm hb1
  go_enter Tryz.func23, Tryz.ntmps23
  go_wp2
  go_step3
  go_wp2
  go_step3
  go_wp2
  go_loopg [1, 4, 5] (2 * bs.length + 1) (fun fu v1 v4 v5 wr => ∃ (t now : Nat) (a' : Option Addr) (c' : Nat), v1 = .slice a' (bs.length - t) c' ∧ v5 = .int .i64 0 ∧ Hid (2 * (bs.length - t) + tk now ≤ fu ∧ ∃ T L cur bg D D0 vd g, Lv w p pre G0 bs t T L now cur bg D D0 vd g a' c' v4 wr))
  case atStart => exact ⟨0, now, av, c, by rw [HM.out.1]; rfl, rfl, by unfold tk; split <;> omega, _, _, _, _, _, _, _, _, HS.out⟩
  case round =>
    clear HS
    obtain ⟨t, now, a', c', rfl, rfl, HL⟩ := hrel
    obtain ⟨hfu, T, L, cur, bg, D, D0, vd, g, HL⟩ := HL.out
    obtain ⟨M, hM⟩ : ∃ M, bs.length - t = M := ⟨_, rfl⟩
    rw [hM]
    have HLv : Hid (Lv w p pre G0 bs t T L now cur bg D D0 vd g a' c' u4 wr) := HL
    have HMt : Hid (bs.length - t = M ∧ 2 * (bs.length - t) + tk now ≤ gk) := ⟨hM, hfu⟩
    clear HL hM hfu
    by_cases hM0 : M = 0
    · subst hM0
      obtain ⟨se, X, sum, hxs⟩ := HLv.out.out HMt.out.1
      obtain ⟨wx, hwx⟩ : ∃ wx, wx = wr := ⟨_, rfl⟩
      rw [← hwx] at hxs
      rw [← hwx]
      have HX : Hid (Xs w p pre G0 bs T L now cur bg D D0 vd g u4 0 now se X sum wx) := hxs
      clear hwx
      obtain ⟨k0, k1, k2, k7, k8, k9, k10, k11, k12, fz⟩ := hxs.cc.cells
      obtain ⟨ap, cp, hv, hle, hle2, hnn⟩ := hxs.sl.shape
      rw [vals_len] at hv hle
      subst hv
      obtain ⟨DL, hDL⟩ : ∃ DL, D.length = DL := ⟨_, rfl⟩
      obtain ⟨kd, hkd⟩ : ∃ kd, strOfNums (kdV now cur) = kd := ⟨_, rfl⟩
      obtain ⟨sz, hsz⟩ : ∃ sz, ((szV now cur : Nat) : Int) = sz := ⟨_, rfl⟩
      have HE : Hid (D.length = DL ∧ strOfNums (kdV now cur) = kd ∧ ((szV now cur : Nat) : Int) = sz) := ⟨hDL, hkd, hsz⟩
      rw [hDL] at k9 hle
      rw [hkd] at k7
      rw [hsz] at k8
      clear hDL hkd hsz hxs HLv hle2 hnn
      cases bg with
      | false =>
        by_cases hd0 : DL = 0
        · subst hd0
          have HPF : Hid (RdPost w p pre G0 bs (.returned (.tuple #[u4, .int .i64 0])) wx) := HX.out.quiet rfl (List.length_eq_zero_iff.1 HE.out.1)
          go_wp2
          try rw [Exit.noGoto_ret]
          go_ret2
          exact HPF.out
        · have HPB0 : false = true ∨ D ≠ [] := .inr (by rintro rfl; exact hd0 HE.out.1.symm)
          have HPB : Hid (false = true ∨ D ≠ []) := HPB0
          have hn3 : 3 ≤ now := by
            by_cases hh : 3 ≤ now
            · exact hh
            · obtain ⟨h1, h2⟩ := HX.out.lo (by omega)
              rcases HPB.out with h | h
              · first
                | (cases h; done)
                | (cases h2; done)
              · exact absurd h1 h
          have HEn : Hid ((⟨⟨cK cur, cN cur, D, false, false⟩, ap, cp⟩ : Pm).enc = [.string kd, .int .i64 sz, .slice ap DL cp, .bool false, .bool false]) := by
            show _ = _
            obtain ⟨e1, e2, e3⟩ := HE.out
            rw [← e1, ← e2, ← e3]
            simp only [kdV, szV, hn3, show 2 ≤ now by omega, if_true]
            rfl
          have HB0 : Hid (w.heap.size ≤ wx.heap.size ∧ T.length ≤ 1000000000) := ⟨HX.out.fr.size, by have := HX.out.tl; have := HM.out; omega⟩
          clear hn3 HPB0
          go_wp2_with (at_builtin; refine wpList_push_piece rfl _ _ rfl w.heap.size u4 T ⟨⟨cK cur, cN cur, D, false, false⟩, ap, cp⟩ rfl (HX.out.row.same fun k hk => ((Below.refl wx.heap.size wx).alloc (Nat.le_refl _) _).block k (HX.out.row.blk k hk).2.1) ⟨wx.heap.size, 0, none⟩ 1 rfl (piece_new wx _ _ (by rw [HEn.out])) HB0.out.2 (by have := HB0.out.1; simp; omega) ?_; intro v7 w7 hp7 hg7; have z7 := HX.out.cell hp7 hg7; rw [HE.out.2.1, HE.out.2.2] at z7; obtain ⟨q0, q1, q2, q7, q8, q9, q10, q11, q12, qf⟩ := z7.cells)
          have HPF : Hid (RdPost w p pre G0 bs (.returned (.tuple #[v7, .int .i64 0])) (((((w7.setCell ⟨p, 7, none⟩ (.string kd)).setCell ⟨p, 8, none⟩ (.int .i64 sz)).setCell ⟨p, 9, none⟩ (.slice none 0 0)).setCell ⟨p, 10, none⟩ (.bool false)).setCell ⟨p, 11, none⟩ (.bool false)).drew) := by
            refine HX.out.told (.inr (by rintro rfl; exact hd0 HE.out.1.symm)) rfl hp7 hg7 ?_ (z7.reset kd sz).2.drew
            rw [HE.out.2.1, HE.out.2.2]
            exact (z7.reset kd sz).1.same rfl
          clear hp7 hg7 z7
          go_region
          go_wp2
          try rw [Exit.noGoto_ret]
          go_ret2
          exact HPF.out
      | true =>
        have HPB0 : true = true ∨ D ≠ [] := .inl rfl
        have HPB : Hid (true = true ∨ D ≠ []) := HPB0
        have hn3 : 3 ≤ now := by
          by_cases hh : 3 ≤ now
          · exact hh
          · obtain ⟨h1, h2⟩ := HX.out.lo (by omega)
            rcases HPB.out with h | h
            · first
              | (cases h; done)
              | (cases h2; done)
            · exact absurd h1 h
        have HEn : Hid ((⟨⟨cK cur, cN cur, D, true, false⟩, ap, cp⟩ : Pm).enc = [.string kd, .int .i64 sz, .slice ap DL cp, .bool true, .bool false]) := by
          show _ = _
          obtain ⟨e1, e2, e3⟩ := HE.out
          rw [← e1, ← e2, ← e3]
          simp only [kdV, szV, hn3, show 2 ≤ now by omega, if_true]
          rfl
        have HB0 : Hid (w.heap.size ≤ wx.heap.size ∧ T.length ≤ 1000000000) := ⟨HX.out.fr.size, by have := HX.out.tl; have := HM.out; omega⟩
        clear hn3 HPB0
        go_wp2_with (at_builtin; refine wpList_push_piece rfl _ _ rfl w.heap.size u4 T ⟨⟨cK cur, cN cur, D, true, false⟩, ap, cp⟩ rfl (HX.out.row.same fun k hk => ((Below.refl wx.heap.size wx).alloc (Nat.le_refl _) _).block k (HX.out.row.blk k hk).2.1) ⟨wx.heap.size, 0, none⟩ 1 rfl (piece_new wx _ _ (by rw [HEn.out])) HB0.out.2 (by have := HB0.out.1; simp; omega) ?_; intro v7 w7 hp7 hg7; have z7 := HX.out.cell hp7 hg7; rw [HE.out.2.1, HE.out.2.2] at z7; obtain ⟨q0, q1, q2, q7, q8, q9, q10, q11, q12, qf⟩ := z7.cells)
        have HPF : Hid (RdPost w p pre G0 bs (.returned (.tuple #[v7, .int .i64 0])) (((((w7.setCell ⟨p, 7, none⟩ (.string kd)).setCell ⟨p, 8, none⟩ (.int .i64 sz)).setCell ⟨p, 9, none⟩ (.slice none 0 0)).setCell ⟨p, 10, none⟩ (.bool false)).setCell ⟨p, 11, none⟩ (.bool false)).drew) := by
          refine HX.out.told (.inl rfl) rfl hp7 hg7 ?_ (z7.reset kd sz).2.drew
          rw [HE.out.2.1, HE.out.2.2]
          exact (z7.reset kd sz).1.same rfl
        clear hp7 hg7 z7
        go_region
        go_wp2
        try rw [Exit.noGoto_ret]
        go_ret2
        exact HPF.out
    · have hMi : (0 : Int) < (M : Int) := by omega
      have hMn : 0 < M := by omega
      have HDl : Hid ((bs.drop t).length = M) := by show _ = _; rw [List.length_drop]; exact HMt.out.1
      obtain ⟨X, sum, h1, h2, hcc, h4, h5, h6, hsl, h8⟩ := id HLv.out.mem
      have k0 := hcc.cells.1
      have fz := hcc.cells.2.2.2.2.2.2.2.2.2
      clear h1 h2 hcc h4 h5 h6 hsl h8
      have hbb : Bytes (bs.drop t) := HLv.out.by'.dropC t
      obtain ⟨_, ⟨hnow, _⟩ | ⟨hnow, _⟩ | ⟨hnow, _⟩ | ⟨hnow, _⟩ | ⟨hnow, _⟩⟩ := id HLv.out.ok
      · subst hnow
        have C := st0 (D0 := D0) HDl.out hMn hbb HLv.out.rst HLv.out.ok HLv.out.pr HLv.out.mem
        clear hbb
        go_wp2_with fail
        refine C.mono ?_
        clear C
        rintro e wx ⟨val, er, rfl, hf, hcase⟩
        rcases hcase with ⟨N, a2, c2, rfl, rfl, hN, hr, hgo | hen⟩ | ⟨rfl, hbad⟩
        · obtain ⟨now', cur', bg', D', D0', vd', g', hlv, hmeas⟩ := HLv.out.go hf hN hr hgo
          have HNx : Hid (Lv w p pre G0 bs (t + N) T L now' cur' bg' D' D0' vd' g' a2 c2 u4 wx ∧ 2 * (bs.length - (t + N)) + tk now' < 2 * (bs.length - t) + tk 0) := ⟨hlv, hmeas⟩
          obtain ⟨X', sum', h1, h2, hcc, h4, h5, h6, hsl, h8⟩ := hlv.mem
          have q11 := hcc.cells.2.2.2.2.2.2.2.1
          clear hlv hmeas h1 h2 hcc h4 h5 h6 hsl h8 hgo hr hf hN
          go_wp2
          go_roundg (2 * (bs.length - (t + N)) + tk now')
          case rel => exact ⟨t + N, now', a2, c2, by rw [Nat.sub_sub], rfl, Nat.le_refl _, T, L, cur', bg', D', D0', vd', g', HNx.out.1⟩
          case measure => have := HNx.out.2; have := HMt.out; omega
        · exact absurd hen.1 (by omega)
        · have her : ¬ er = 0 := by rcases hbad.2.1 with h | h | h <;> omega
          obtain ⟨no, se, X, sum, hxs⟩ := HLv.out.bad hf hbad
          have HX : Hid (Xs w p pre G0 bs T L 0 cur bg D D0 vd g u4 er no se X sum wx) := hxs
          clear hbad hf
          obtain ⟨k0, k1, k2, k7, k8, k9, k10, k11, k12, fz⟩ := hxs.cc.cells
          obtain ⟨ap, cp, hv, hle, hle2, hnn⟩ := hxs.sl.shape
          rw [vals_len] at hv hle
          subst hv
          obtain ⟨DL, hDL⟩ : ∃ DL, D.length = DL := ⟨_, rfl⟩
          obtain ⟨kd, hkd⟩ : ∃ kd, strOfNums (kdV 0 cur) = kd := ⟨_, rfl⟩
          obtain ⟨sz, hsz⟩ : ∃ sz, ((szV 0 cur : Nat) : Int) = sz := ⟨_, rfl⟩
          have HE : Hid (D.length = DL ∧ strOfNums (kdV 0 cur) = kd ∧ ((szV 0 cur : Nat) : Int) = sz) := ⟨hDL, hkd, hsz⟩
          rw [hDL] at k9 hle
          rw [hkd] at k7
          rw [hsz] at k8
          clear hDL hkd hsz hxs HLv hle2 hnn
          obtain ⟨rfl, rfl⟩ := HX.out.lo (by omega)
          have hd0 : DL = 0 := HE.out.1.symm
          subst hd0
          have HPF : Hid (RdPost w p pre G0 bs (.returned (.tuple #[u4, .int .i64 er])) wx) := HX.out.quiet rfl (List.length_eq_zero_iff.1 HE.out.1)
          go_wp2
          try rw [Exit.noGoto_ret]
          go_ret2
          exact HPF.out
      · subst hnow
        have C := st1 (D0 := D0) HDl.out hMn hbb HLv.out.rst HLv.out.ok HLv.out.pr HLv.out.mem
        clear hbb
        go_wp2_with fail
        refine C.mono ?_
        clear C
        rintro e wx ⟨val, er, rfl, hf, hcase⟩
        rcases hcase with ⟨N, a2, c2, rfl, rfl, hN, hr, hgo | hen⟩ | ⟨rfl, hbad⟩
        · obtain ⟨now', cur', bg', D', D0', vd', g', hlv, hmeas⟩ := HLv.out.go hf hN hr hgo
          have HNx : Hid (Lv w p pre G0 bs (t + N) T L now' cur' bg' D' D0' vd' g' a2 c2 u4 wx ∧ 2 * (bs.length - (t + N)) + tk now' < 2 * (bs.length - t) + tk 1) := ⟨hlv, hmeas⟩
          obtain ⟨X', sum', h1, h2, hcc, h4, h5, h6, hsl, h8⟩ := hlv.mem
          have q11 := hcc.cells.2.2.2.2.2.2.2.1
          clear hlv hmeas h1 h2 hcc h4 h5 h6 hsl h8 hgo hr hf hN
          go_wp2
          go_roundg (2 * (bs.length - (t + N)) + tk now')
          case rel => exact ⟨t + N, now', a2, c2, by rw [Nat.sub_sub], rfl, Nat.le_refl _, T, L, cur', bg', D', D0', vd', g', HNx.out.1⟩
          case measure => have := HNx.out.2; have := HMt.out; omega
        · exact absurd hen.1 (by omega)
        · have her : ¬ er = 0 := by rcases hbad.2.1 with h | h | h <;> omega
          obtain ⟨no, se, X, sum, hxs⟩ := HLv.out.bad hf hbad
          have HX : Hid (Xs w p pre G0 bs T L 1 cur bg D D0 vd g u4 er no se X sum wx) := hxs
          clear hbad hf
          obtain ⟨k0, k1, k2, k7, k8, k9, k10, k11, k12, fz⟩ := hxs.cc.cells
          obtain ⟨ap, cp, hv, hle, hle2, hnn⟩ := hxs.sl.shape
          rw [vals_len] at hv hle
          subst hv
          obtain ⟨DL, hDL⟩ : ∃ DL, D.length = DL := ⟨_, rfl⟩
          obtain ⟨kd, hkd⟩ : ∃ kd, strOfNums (kdV 1 cur) = kd := ⟨_, rfl⟩
          obtain ⟨sz, hsz⟩ : ∃ sz, ((szV 1 cur : Nat) : Int) = sz := ⟨_, rfl⟩
          have HE : Hid (D.length = DL ∧ strOfNums (kdV 1 cur) = kd ∧ ((szV 1 cur : Nat) : Int) = sz) := ⟨hDL, hkd, hsz⟩
          rw [hDL] at k9 hle
          rw [hkd] at k7
          rw [hsz] at k8
          clear hDL hkd hsz hxs HLv hle2 hnn
          obtain ⟨rfl, rfl⟩ := HX.out.lo (by omega)
          have hd0 : DL = 0 := HE.out.1.symm
          subst hd0
          have HPF : Hid (RdPost w p pre G0 bs (.returned (.tuple #[u4, .int .i64 er])) wx) := HX.out.quiet rfl (List.length_eq_zero_iff.1 HE.out.1)
          go_wp2
          try rw [Exit.noGoto_ret]
          go_ret2
          exact HPF.out
      · subst hnow
        have C := st2 (D0 := D0) HDl.out hMn hbb HLv.out.rst HLv.out.ok HLv.out.pr HLv.out.mem
        clear hbb
        go_wp2_with fail
        refine C.mono ?_
        clear C
        rintro e wx ⟨val, er, rfl, hf, hcase⟩
        rcases hcase with ⟨N, a2, c2, rfl, rfl, hN, hr, hgo | hen⟩ | ⟨rfl, hbad⟩
        · obtain ⟨now', cur', bg', D', D0', vd', g', hlv, hmeas⟩ := HLv.out.go hf hN hr hgo
          have HNx : Hid (Lv w p pre G0 bs (t + N) T L now' cur' bg' D' D0' vd' g' a2 c2 u4 wx ∧ 2 * (bs.length - (t + N)) + tk now' < 2 * (bs.length - t) + tk 2) := ⟨hlv, hmeas⟩
          obtain ⟨X', sum', h1, h2, hcc, h4, h5, h6, hsl, h8⟩ := hlv.mem
          have q11 := hcc.cells.2.2.2.2.2.2.2.1
          clear hlv hmeas h1 h2 hcc h4 h5 h6 hsl h8 hgo hr hf hN
          go_wp2
          go_roundg (2 * (bs.length - (t + N)) + tk now')
          case rel => exact ⟨t + N, now', a2, c2, by rw [Nat.sub_sub], rfl, Nat.le_refl _, T, L, cur', bg', D', D0', vd', g', HNx.out.1⟩
          case measure => have := HNx.out.2; have := HMt.out; omega
        · exact absurd hen.1 (by omega)
        · have her : ¬ er = 0 := by rcases hbad.2.1 with h | h | h <;> omega
          obtain ⟨no, se, X, sum, hxs⟩ := HLv.out.bad hf hbad
          have HX : Hid (Xs w p pre G0 bs T L 2 cur bg D D0 vd g u4 er no se X sum wx) := hxs
          clear hbad hf
          obtain ⟨k0, k1, k2, k7, k8, k9, k10, k11, k12, fz⟩ := hxs.cc.cells
          obtain ⟨ap, cp, hv, hle, hle2, hnn⟩ := hxs.sl.shape
          rw [vals_len] at hv hle
          subst hv
          obtain ⟨DL, hDL⟩ : ∃ DL, D.length = DL := ⟨_, rfl⟩
          obtain ⟨kd, hkd⟩ : ∃ kd, strOfNums (kdV 2 cur) = kd := ⟨_, rfl⟩
          obtain ⟨sz, hsz⟩ : ∃ sz, ((szV 2 cur : Nat) : Int) = sz := ⟨_, rfl⟩
          have HE : Hid (D.length = DL ∧ strOfNums (kdV 2 cur) = kd ∧ ((szV 2 cur : Nat) : Int) = sz) := ⟨hDL, hkd, hsz⟩
          rw [hDL] at k9 hle
          rw [hkd] at k7
          rw [hsz] at k8
          clear hDL hkd hsz hxs HLv hle2 hnn
          obtain ⟨rfl, rfl⟩ := HX.out.lo (by omega)
          have hd0 : DL = 0 := HE.out.1.symm
          subst hd0
          have HPF : Hid (RdPost w p pre G0 bs (.returned (.tuple #[u4, .int .i64 er])) wx) := HX.out.quiet rfl (List.length_eq_zero_iff.1 HE.out.1)
          go_wp2
          try rw [Exit.noGoto_ret]
          go_ret2
          exact HPF.out
      · subst hnow
        have C := st3 (D0 := D0) HDl.out hMn hbb HLv.out.rst HLv.out.ok HLv.out.pr HLv.out.dv (by have := HLv.out.dl; have := HM.out; have := HMt.out; omega) HLv.out.gn HLv.out.nl HLv.out.mem
        clear hbb
        go_wp2_with fail
        refine C.mono ?_
        clear C
        rintro e wx ⟨val, rfl, hf, hcase⟩
        rcases hcase with ⟨N, a2, c2, rfl, _, hN, hr, hgo | hen⟩ | ⟨_, hbad⟩
        · obtain ⟨now', cur', bg', D', D0', vd', g', hlv, hmeas⟩ := HLv.out.go hf hN hr hgo
          have HNx : Hid (Lv w p pre G0 bs (t + N) T L now' cur' bg' D' D0' vd' g' a2 c2 u4 wx ∧ 2 * (bs.length - (t + N)) + tk now' < 2 * (bs.length - t) + tk 3) := ⟨hlv, hmeas⟩
          obtain ⟨X', sum', h1, h2, hcc, h4, h5, h6, hsl, h8⟩ := hlv.mem
          have q11 := hcc.cells.2.2.2.2.2.2.2.1
          clear hlv hmeas h1 h2 hcc h4 h5 h6 hsl h8 hgo hr hf hN
          go_wp2
          go_roundg (2 * (bs.length - (t + N)) + tk now')
          case rel => exact ⟨t + N, now', a2, c2, by rw [Nat.sub_sub], rfl, Nat.le_refl _, T, L, cur', bg', D', D0', vd', g', HNx.out.1⟩
          case measure => have := HNx.out.2; have := HMt.out; omega
        · exact absurd hen.1 (by omega)
        · rcases hbad.2.1 with h | h | h <;> omega
      · subst hnow
        have C := st4 (D0 := D0) HDl.out hMn hbb HLv.out.rst HLv.out.ok HLv.out.pr HLv.out.dv HLv.out.nl HLv.out.mem
        clear hbb
        go_wp2_with fail
        refine C.mono ?_
        clear C
        rintro e wx ⟨val, er, rfl, hf, hcase⟩
        rcases hcase with ⟨N, a2, c2, rfl, rfl, hN, hr, hgo | hen⟩ | ⟨rfl, hbad⟩
        · obtain ⟨now', cur', bg', D', D0', vd', g', hlv, hmeas⟩ := HLv.out.go hf hN hr hgo
          have HNx : Hid (Lv w p pre G0 bs (t + N) T L now' cur' bg' D' D0' vd' g' a2 c2 u4 wx ∧ 2 * (bs.length - (t + N)) + tk now' < 2 * (bs.length - t) + tk 4) := ⟨hlv, hmeas⟩
          obtain ⟨X', sum', h1, h2, hcc, h4, h5, h6, hsl, h8⟩ := hlv.mem
          have q11 := hcc.cells.2.2.2.2.2.2.2.1
          clear hlv hmeas h1 h2 hcc h4 h5 h6 hsl h8 hgo hr hf hN
          go_wp2
          go_roundg (2 * (bs.length - (t + N)) + tk now')
          case rel => exact ⟨t + N, now', a2, c2, by rw [Nat.sub_sub], rfl, Nat.le_refl _, T, L, cur', bg', D', D0', vd', g', HNx.out.1⟩
          case measure => have := HNx.out.2; have := HMt.out; omega
        · obtain ⟨_, hN0, ⟨X', sum', hX', hXb', hcc⟩, hsl, hpre⟩ := id hen
          obtain ⟨ap, cp, hv, hle, hle2, hnn⟩ := hsl.shape
          rw [vals_len] at hv
          subst hv
          obtain ⟨DL, hDL⟩ : ∃ DL, D.length = DL := ⟨_, rfl⟩
          obtain ⟨kd, hkd⟩ : ∃ kd, strOfNums (cK cur) = kd := ⟨_, rfl⟩
          obtain ⟨sz, hsz⟩ : ∃ sz, ((cN cur : Nat) : Int) = sz := ⟨_, rfl⟩
          rw [hkd, hsz] at hcc
          obtain ⟨q0, q1, q2, q7, q8, q9, q10, q11, q12, qf⟩ := hcc.cells
          rw [hDL] at q9
          have HEn : Hid ((⟨⟨cK cur, cN cur, D, bg, true⟩, ap, cp⟩ : Pm).enc = [.string kd, .int .i64 sz, .slice ap DL cp, .bool bg, .bool true]) := by
            show _ = _
            rw [← hkd, ← hsz, ← hDL]
            rfl
          have hgt : ∀ k, g = some k → ∃ c, wr.heap[k]? = some (.cells c 5 (0, 0)) := by
            obtain ⟨X, sum, _, _, _, _, _, _, hs, _⟩ := HLv.out.mem
            exact hs.tagB
          have HRow : Hid (PmRow wx w.heap.size u4 T ∧ CC wx p 1 0 0 X' kd sz (.slice ap D.length cp) bg true sum' ∧ X'.length = 4 ∧ Bytes X') := ⟨HLv.out.row.after hf HLv.out.pl hgt, hcc, hX', hXb'⟩
          have HB0 : Hid (w.heap.size ≤ wx.heap.size ∧ T.length ≤ 1000000000) := ⟨by have := HLv.out.fr.size; have := hf.size; omega, by have := HLv.out.tl; have := HLv.out.tle; have := HM.out; omega⟩
          have HTB : Hid (∀ w2 arr, (wx.alloc (.cells arr 68)).grownBy w2 u4.ownBlock → CC w2 p 1 0 0 X' kd sz (.slice ap D.length cp) bg true sum') := by
            intro w2 arr hg2
            have := (told_row (q := ⟨cK cur, cN cur, D, bg, true⟩) HRow.out.1 (HLv.out.tok.after hf HLv.out.pl (.inl rfl)) hsl HLv.out.gn HB0.out.1 hg2).2
            exact HRow.out.2.1.same (this.block p HLv.out.pl)
          have HFn : Hid (∀ w2 w3 v2 arr, PmRow w2 w.heap.size v2 (T ++ [⟨⟨cK cur, cN cur, D, bg, true⟩, ap, cp⟩]) → (wx.alloc (.cells arr 68)).grownBy w2 u4.ownBlock → CC w3 p 1 0 0 X' (strOfNums []) 0 (.slice none 0 0) false false sum' → Fr w2 w3 p none → ∃ T L, Lv w p pre G0 bs (t + N) T L 1 [] false [] [] (.slice none 0 0) none a2 c2 v2 w3 ∧ 2 * (bs.length - (t + N)) + tk 1 < 2 * (bs.length - t) + tk 4) := by
            intro w2 w3 v2 arr hp2 hg2 h3 f3
            exact HLv.out.ended hf hN hr hen rfl hp2 hg2 hX' hXb' h3 f3
          clear hDL hkd hsz hsl hpre hle hle2 hnn hcc hen hr hf hN hgt hX' hXb' HLv
          go_wp2_with (at_builtin; refine wpList_push_piece rfl _ _ rfl w.heap.size u4 T ⟨⟨cK cur, cN cur, D, bg, true⟩, ap, cp⟩ rfl (HRow.out.1.same fun k hk => ((Below.refl wx.heap.size wx).alloc (Nat.le_refl _) _).block k (HRow.out.1.blk k hk).2.1) ⟨wx.heap.size, 0, none⟩ 1 rfl (piece_new wx _ _ (by rw [HEn.out])) HB0.out.2 (by have := HB0.out.1; simp; omega) ?_; intro v7 w7 hp7 hg7; have z7 := HTB.out w7 _ hg7; obtain ⟨y0, y1, y2, y7, y8, y9, y10, y11, y12, yf⟩ := z7.cells; have HFf : Hid _ := HFn.out w7 _ v7 _ hp7 hg7 (z7.reset (strOfNums []) 0).1 (z7.reset (strOfNums []) 0).2; clear hp7 hg7 z7)
          obtain ⟨T', L', hlv, hmeas⟩ := HFf.out
          have HNx : Hid (Lv w p pre G0 bs (t + N) T' L' 1 [] false [] [] (.slice none 0 0) none a2 c2 v7 (((((w7.setCell ⟨p, 7, none⟩ (.string (strOfNums []))).setCell ⟨p, 8, none⟩ (.int .i64 0)).setCell ⟨p, 9, none⟩ (.slice none 0 0)).setCell ⟨p, 10, none⟩ (.bool false)).setCell ⟨p, 11, none⟩ (.bool false))) := hlv
          go_roundg (2 * (bs.length - (t + N)) + tk 1)
          case rel => exact ⟨t + N, 1, a2, c2, by rw [Nat.sub_sub], rfl, Nat.le_refl _, T', L', [], false, [], [], .slice none 0 0, none, HNx.out⟩
          case measure => have := HMt.out; omega
        · have her : ¬ er = 0 := by rcases hbad.2.1 with h | h | h <;> omega
          obtain ⟨no, se, X, sum, hxs⟩ := HLv.out.bad hf hbad
          have HX : Hid (Xs w p pre G0 bs T L 4 cur bg D D0 vd g u4 er no se X sum wx) := hxs
          clear hbad hf
          obtain ⟨k0, k1, k2, k7, k8, k9, k10, k11, k12, fz⟩ := hxs.cc.cells
          obtain ⟨ap, cp, hv, hle, hle2, hnn⟩ := hxs.sl.shape
          rw [vals_len] at hv hle
          subst hv
          obtain ⟨DL, hDL⟩ : ∃ DL, D.length = DL := ⟨_, rfl⟩
          obtain ⟨kd, hkd⟩ : ∃ kd, strOfNums (kdV 4 cur) = kd := ⟨_, rfl⟩
          obtain ⟨sz, hsz⟩ : ∃ sz, ((szV 4 cur : Nat) : Int) = sz := ⟨_, rfl⟩
          have HE : Hid (D.length = DL ∧ strOfNums (kdV 4 cur) = kd ∧ ((szV 4 cur : Nat) : Int) = sz) := ⟨hDL, hkd, hsz⟩
          rw [hDL] at k9 hle
          rw [hkd] at k7
          rw [hsz] at k8
          clear hDL hkd hsz hxs HLv hle2 hnn
          cases bg with
          | false =>
            by_cases hd0 : DL = 0
            · subst hd0
              have HPF : Hid (RdPost w p pre G0 bs (.returned (.tuple #[u4, .int .i64 er])) wx) := HX.out.quiet rfl (List.length_eq_zero_iff.1 HE.out.1)
              go_wp2
              try rw [Exit.noGoto_ret]
              go_ret2
              exact HPF.out
            · have HPB0 : false = true ∨ D ≠ [] := .inr (by rintro rfl; exact hd0 HE.out.1.symm)
              have HPB : Hid (false = true ∨ D ≠ []) := HPB0
              have hn3 : 3 ≤ 4 := by omega
              have HEn : Hid ((⟨⟨cK cur, cN cur, D, false, false⟩, ap, cp⟩ : Pm).enc = [.string kd, .int .i64 sz, .slice ap DL cp, .bool false, .bool false]) := by
                show _ = _
                obtain ⟨e1, e2, e3⟩ := HE.out
                rw [← e1, ← e2, ← e3]
                simp only [kdV, szV, hn3, show 2 ≤ 4 by omega, if_true]
                rfl
              have HB0 : Hid (w.heap.size ≤ wx.heap.size ∧ T.length ≤ 1000000000) := ⟨HX.out.fr.size, by have := HX.out.tl; have := HM.out; omega⟩
              clear hn3 HPB0
              go_wp2_with (at_builtin; refine wpList_push_piece rfl _ _ rfl w.heap.size u4 T ⟨⟨cK cur, cN cur, D, false, false⟩, ap, cp⟩ rfl (HX.out.row.same fun k hk => ((Below.refl wx.heap.size wx).alloc (Nat.le_refl _) _).block k (HX.out.row.blk k hk).2.1) ⟨wx.heap.size, 0, none⟩ 1 rfl (piece_new wx _ _ (by rw [HEn.out])) HB0.out.2 (by have := HB0.out.1; simp; omega) ?_; intro v7 w7 hp7 hg7; have z7 := HX.out.cell hp7 hg7; rw [HE.out.2.1, HE.out.2.2] at z7; obtain ⟨q0, q1, q2, q7, q8, q9, q10, q11, q12, qf⟩ := z7.cells)
              have HPF : Hid (RdPost w p pre G0 bs (.returned (.tuple #[v7, .int .i64 er])) (((((w7.setCell ⟨p, 7, none⟩ (.string kd)).setCell ⟨p, 8, none⟩ (.int .i64 sz)).setCell ⟨p, 9, none⟩ (.slice none 0 0)).setCell ⟨p, 10, none⟩ (.bool false)).setCell ⟨p, 11, none⟩ (.bool false)).drew) := by
                refine HX.out.told (.inr (by rintro rfl; exact hd0 HE.out.1.symm)) rfl hp7 hg7 ?_ (z7.reset kd sz).2.drew
                rw [HE.out.2.1, HE.out.2.2]
                exact (z7.reset kd sz).1.same rfl
              clear hp7 hg7 z7
              go_region
              go_wp2
              try rw [Exit.noGoto_ret]
              go_ret2
              exact HPF.out
          | true =>
            have HPB0 : true = true ∨ D ≠ [] := .inl rfl
            have HPB : Hid (true = true ∨ D ≠ []) := HPB0
            have hn3 : 3 ≤ 4 := by omega
            have HEn : Hid ((⟨⟨cK cur, cN cur, D, true, false⟩, ap, cp⟩ : Pm).enc = [.string kd, .int .i64 sz, .slice ap DL cp, .bool true, .bool false]) := by
              show _ = _
              obtain ⟨e1, e2, e3⟩ := HE.out
              rw [← e1, ← e2, ← e3]
              simp only [kdV, szV, hn3, show 2 ≤ 4 by omega, if_true]
              rfl
            have HB0 : Hid (w.heap.size ≤ wx.heap.size ∧ T.length ≤ 1000000000) := ⟨HX.out.fr.size, by have := HX.out.tl; have := HM.out; omega⟩
            clear hn3 HPB0
            go_wp2_with (at_builtin; refine wpList_push_piece rfl _ _ rfl w.heap.size u4 T ⟨⟨cK cur, cN cur, D, true, false⟩, ap, cp⟩ rfl (HX.out.row.same fun k hk => ((Below.refl wx.heap.size wx).alloc (Nat.le_refl _) _).block k (HX.out.row.blk k hk).2.1) ⟨wx.heap.size, 0, none⟩ 1 rfl (piece_new wx _ _ (by rw [HEn.out])) HB0.out.2 (by have := HB0.out.1; simp; omega) ?_; intro v7 w7 hp7 hg7; have z7 := HX.out.cell hp7 hg7; rw [HE.out.2.1, HE.out.2.2] at z7; obtain ⟨q0, q1, q2, q7, q8, q9, q10, q11, q12, qf⟩ := z7.cells)
            have HPF : Hid (RdPost w p pre G0 bs (.returned (.tuple #[v7, .int .i64 er])) (((((w7.setCell ⟨p, 7, none⟩ (.string kd)).setCell ⟨p, 8, none⟩ (.int .i64 sz)).setCell ⟨p, 9, none⟩ (.slice none 0 0)).setCell ⟨p, 10, none⟩ (.bool false)).setCell ⟨p, 11, none⟩ (.bool false)).drew) := by
              refine HX.out.told (.inl rfl) rfl hp7 hg7 ?_ (z7.reset kd sz).2.drew
              rw [HE.out.2.1, HE.out.2.2]
              exact (z7.reset kd sz).1.same rfl
            clear hp7 hg7 z7
            go_region
            go_wp2
            try rw [Exit.noGoto_ret]
            go_ret2
            exact HPF.out
end
end Go.Proofs.YtpjcdfinlclhoaaGreatDoor
