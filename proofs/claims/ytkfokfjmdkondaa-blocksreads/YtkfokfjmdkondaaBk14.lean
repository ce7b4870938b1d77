/- Blocks: the law of what any bytes tell, pushed in any pieces. -/
import Derived.Test.YtkfokfjmdkondaaBk13
import Derived.Test.YtkfokfjmdkondaaPtB
namespace Go.Proofs.Ytkfokfjmdkondaa
open Go.RowKit
def BlAt (w : World) (r : Nat) (k : Nat) (v4 v5 : Value) (wr : World) : Prop :=
  ∃ A ga gt gr, BlR w r (bgo bs0 A).2 A (bgo bs0 A).1 [] v4 v5 (.slice none 0 0) ga gt gr none wr ∧ Bytes A ∧ A.length ≤ 600 * k
set_option maxHeartbeats 6400000 in
set_option maxRecDepth 100000 in
theorem breads_walk (a : Option Addr) (len cap : Nat) (F : Nat → Pt) (w : World) (h : PtArg w a len cap F) :
    Calls Try.prog 3 #[.slice a len cap] w fun e w' => e = .returned (.bool true) ∧ Below w.heap.size w w' := by
  obtain ⟨hl, hm, hF⟩ := h
  unfold maxLen at hm
  have HF : Hid (0 < len → ∃ b off, a = some ⟨b, off, none⟩ ∧ ∀ i, i < len → w.cell? ⟨b, off + i, none⟩ = some (.slice (F i).a (F i).z.length (F i).c) ∧ PtOk w (F i)) := hF
  clear hF
  go_enter Try.func3, Try.ntmps3
  go_wp2_with fail
  refine (bfixed_any _).mono ?_
  rintro e w1 ⟨rfl, hb1⟩
  by_cases h20 : 20 < (len : Int)
  · go_wp2
    go_ret
    exact ⟨rfl, hb1⟩
  have HB1 : Hid (Below w.heap.size w w1) := hb1
  clear hb1
  go_wp2_with fail
  refine (bnew_any w1).mono ?_
  rintro e w2 ⟨rfl, hr2, hb2⟩
  have HS : Hid (BlAt w w1.heap.size 0 (.slice none 0 0) (.slice none 0 0) w2) :=
    ⟨[], none, none, none, ⟨hr2, HB1.out.size, Sl.nil _ _, Sl.nil _ _, Sl.nil _ _, (by intro k hk; cases hk), (by intro k hk; cases hk), (by intro k hk; cases hk), (by intro k hk; cases hk), ApO.none _, ApO.none _, ApO.none _, ApO.none _, ApO.none _, ApO.none _, HB1.out.trans (hb2.mono HB1.out.size)⟩, Bytes.nil, by simp⟩
  obtain ⟨r, hr⟩ : ∃ r, w1.heap.size = r := ⟨_, rfl⟩
  rw [hr] at HS ⊢
  clear hr2 hb2 hr
  go_wp2
  go_loopw [4, 5, 7, 8, 9, 10, 19] (fun v4 v5 _ _ _ _ v wr => ∃ k : Nat, k ≤ len ∧ v = .int .i64 k ∧ Hid (BlAt w r k v4 v5 wr)) (fun _ _ _ _ _ _ v _ => len - (intOf v).toNat)
  case atStart => exact ⟨0, by omega, rfl, HS.out⟩
  case round =>
    clear HS
    obtain ⟨k, hk, rfl, HR⟩ := hrel
    by_cases hlt : k < len
    · obtain ⟨A, ga, gt, gr, hbl, hbA, hAl⟩ := HR.out
      obtain ⟨b, off, rfl, hc⟩ := HF.out (by omega)
      obtain ⟨hck, hq1, hq2, hq3, hq4, hq5⟩ := hc k hlt
      have hck' : wr.cell? ⟨b, off + k, none⟩ = some (.slice (F k).a (F k).z.length (F k).c) := (hbl.be.cell (p := ⟨b, _, none⟩) (cell_lt hck)).trans hck
      clear hc hck
      generalize F k = f at *
      obtain ⟨fa, fc, fz⟩ := f
      simp only at hck' hq1 hq2 hq3 hq4 hq5
      have HBL : Hid (BlR w r (bgo bs0 A).2 A (bgo bs0 A).1 [] u4 u5 (.slice none 0 0) ga gt gr none wr) := hbl
      have HQ : Hid (Bytes fz ∧ (fa = none → fc = 0) ∧ Row w fa fz ∧ Bytes A ∧ A.length ≤ 600 * k) := ⟨hq1, hq4, hq5, hbA, hAl⟩
      obtain ⟨a4, c4, hv4, hl4, hm4, hn4⟩ := hbl.sa.shape
      obtain ⟨a5, c5, hv5, hl5, hm5, hn5⟩ := hbl.st.shape
      rw [vals_len] at hv4 hl4 hv5 hl5
      rw [hv4, hv5] at HBL
      rw [hv4, hv5]
      obtain ⟨FL, hFL⟩ : ∃ FL, fz.length = FL := ⟨_, rfl⟩
      have HFL : Hid (fz.length = FL) := hFL
      rw [hFL] at hck' hq2 hq3
      obtain ⟨AL, hAL⟩ : ∃ AL, A.length = AL := ⟨_, rfl⟩
      have HAL : Hid (A.length = AL ∧ (bgo bs0 A).1.length ≤ A.length) := ⟨hAL, bgo_told A bs0⟩
      obtain ⟨TL, hTL⟩ : ∃ TL, (bgo bs0 A).1.length = TL := ⟨_, rfl⟩
      have HTL : Hid ((bgo bs0 A).1.length = TL) := hTL
      rw [hAL] at HBL hl4 hAl ⊢
      rw [hTL] at HBL hl5 ⊢
      clear hbl hq1 hq4 hq5 hbA hv4 hv5 hFL hAL hTL hn4 hn5 HR
      have hki : (k : Int) < (len : Int) := by omega
      by_cases h600 : 600 < (FL : Int)
      · have HP : Hid (Below w.heap.size w wr) := HBL.out.be
        clear HBL
        go_wp2
        go_ret
        exact ⟨rfl, HP.out⟩
      have hAl2 : AL ≤ 12000 := by omega
      have hTl2 : TL ≤ 12000 := by have := HTL.out; have := HAL.out; omega
      have HRwr : Hid (Row wr fa fz) := HQ.out.2.2.1.old HBL.out.be
      go_upto_region 12 with fail
      go_cut [8] (fun v wx => ∃ ao co, v = .slice ao FL co ∧ Hid (∃ go, BlR w r (bgo bs0 A).2 A (bgo bs0 A).1 fz (.slice a4 AL c4) (.slice a5 TL c5) (.slice ao FL co) ga gt gr go wx))
      case first =>
        go_wp2_with (at_builtin; refine wpList_copy rfl _ _ rfl fa FL fc fz rfl rfl HQ.out.2.1 HFL.out HRwr.out (by omega) ?_; intro a7 c7 w7 g7 hs7 hg7 hb7; have HE : Hid (∃ go, BlR w r (bgo bs0 A).2 A (bgo bs0 A).1 fz (.slice a4 AL c4) (.slice a5 TL c5) (.slice a7 FL c7) ga gt gr go w7) := ⟨g7, HBL.out.copy hs7 hg7 hb7⟩; clear hs7 hg7 hb7)
        go_meet
        exact ⟨a7, c7, rfl, HE.out⟩
      case rest =>
        obtain ⟨ao, co, rfl, HO⟩ := hcut
        clear HBL HRwr hck'
        obtain ⟨go, hbl⟩ := HO.out
        have HBL : Hid (BlR w r (bgo bs0 A).2 A (bgo bs0 A).1 fz (.slice a4 AL c4) (.slice a5 TL c5) (.slice ao FL co) ga gt gr go wc) := hbl
        have HRwc : Hid (Row wc fa fz) := HQ.out.2.2.1.old hbl.be
        clear hbl HO
        obtain ⟨W0, hW0⟩ : ∃ W0, wc = W0 := ⟨_, rfl⟩
        subst hW0
        go_upto_region 13 with fail
        go_cut [4] (fun v wx => ∃ a4 c4, v = .slice a4 (AL + FL) c4 ∧ Hid (∃ ga, BlR w r (bgo bs0 A).2 (A ++ fz) (bgo bs0 A).1 fz (.slice a4 (AL + FL) c4) (.slice a5 TL c5) (.slice ao FL co) ga gt gr go wx))
        case first =>
          go_wp2_with (at_builtin; refine wpList_more rfl _ _ rfl (.slice a4 AL c4) ga A rfl HBL.out.sa fa FL fc fz rfl HQ.out.2.1 HFL.out HRwc.out (by have := HAL.out; omega) ?_; intro v7 w7 g7 hs7 hg7 hgr7; obtain ⟨a7, c7, hv7, -⟩ := hs7.shape; rw [vals_len, List.length_append, HAL.out.1, HFL.out] at hv7; subst hv7; have HE : Hid (∃ ga, BlR w r (bgo bs0 A).2 (A ++ fz) (bgo bs0 A).1 fz (.slice a7 (AL + FL) c7) (.slice a5 TL c5) (.slice ao FL co) ga gt gr go w7) := ⟨g7, HBL.out.all hs7 hg7 hgr7⟩; clear hs7 hg7 hgr7)
          go_meet
          exact ⟨a7, c7, rfl, HE.out⟩
        case rest =>
          obtain ⟨a6, c6, rfl, HO⟩ := hcut
          clear HBL HRwc
          obtain ⟨ga6, hbl⟩ := HO.out
          obtain ⟨B, hB⟩ : ∃ B, A ++ fz = B := ⟨_, rfl⟩
          have hgo : bgo bs0 B = ((bgo bs0 A).1 ++ (bgo (bgo bs0 A).2 fz).1, (bgo (bgo bs0 A).2 fz).2) := by rw [← hB, bgo_append]
          rw [hB] at hbl
          have HB : Hid (Bytes B ∧ B.length = AL + FL ∧ bgo bs0 B = ((bgo bs0 A).1 ++ (bgo (bgo bs0 A).2 fz).1, (bgo (bgo bs0 A).2 fz).2)) := ⟨by rw [← hB]; exact HQ.out.2.2.2.1.append HQ.out.1, by rw [← hB, List.length_append, HAL.out.1, HFL.out], hgo⟩
          have HBL : Hid (BlR w r (bgo bs0 A).2 B (bgo bs0 A).1 fz (.slice a6 (AL + FL) c6) (.slice a5 TL c5) (.slice ao FL co) ga6 gt gr go wc) := hbl
          obtain ⟨xo, yo, hvo, hlo, hmo, hno⟩ := hbl.so.shape
          rw [vals_len, HFL.out] at hvo hlo
          simp only [Value.slice.injEq] at hvo
          obtain ⟨rfl, _, rfl⟩ := hvo
          have HPush : Hid (Calls Try.prog 9 #[.pointer (some ⟨r, 0, none⟩), .slice ao FL co] wc fun e w' => BpPost wc r gr (bgo bs0 A).2 fz e w') :=
            bpush_any r gr (bgo bs0 A).2 fz ao FL co wc hbl.rd HFL.out hlo hmo hno (hbl.so.row rfl) HQ.out.1 (bgo_left A bs0 HQ.out.2.2.2.1 (by decide)) (by have h1 : (bgo bs0 A).2.seen ≤ 0 + A.length := bgo_seen A bs0; have := HAL.out; have := HFL.out; omega) (by have h1 : (bgo bs0 A).2.rest.length ≤ 0 + A.length := bgo_rest A bs0; have := HAL.out; have := HFL.out; omega)
          clear hbl HO hgo hB hmo hno
          go_upto_region 14 with fail
          go_cut [5] (fun v wx => ∃ a5 c5, v = .slice a5 (bgo bs0 B).1.length c5 ∧ Hid (∃ gt gr, BlR w r (bgo bs0 B).2 B (bgo bs0 B).1 fz (.slice a6 (AL + FL) c6) (.slice a5 (bgo bs0 B).1.length c5) (.slice ao FL co) ga6 gt gr go wx))
          case first =>
            go_wp2_with fail
            refine HPush.out.mono ?_
            rintro e wx ⟨tx, gx, g', rfl, hsx, hgx, hrx, hgg, hfx⟩
            obtain ⟨ax, cx, hvx, _, _, hx3⟩ := hsx.shape
            rw [vals_len] at hvx
            subst hvx
            have hbl2 := HBL.out.push hrx hgg hfx
            have HX : Hid (Row wx ax (bgo (bgo bs0 A).2 fz).1 ∧ (ax = none → cx = 0)) := ⟨hsx.row rfl, hx3⟩
            have HBL2 : Hid (BlR w r (bgo (bgo bs0 A).2 fz).2 B (bgo bs0 A).1 fz (.slice a6 (AL + FL) c6) (.slice a5 TL c5) (.slice ao FL co) ga6 gt g' go wx) := hbl2
            obtain ⟨XL, hXL⟩ : ∃ XL, (bgo (bgo bs0 A).2 fz).1.length = XL := ⟨_, rfl⟩
            have HXL : Hid ((bgo (bgo bs0 A).2 fz).1.length = XL ∧ XL ≤ FL) := ⟨hXL, by have := bgo_told fz (bgo bs0 A).2; have := HFL.out; omega⟩
            rw [hXL]
            clear hsx hgx hrx hgg hfx hx3 hbl2 HPush HBL hXL
            go_wp2_with (at_builtin; refine wpList_more rfl _ _ rfl (.slice a5 TL c5) gt (bgo bs0 A).1 rfl HBL2.out.st ax XL cx (bgo (bgo bs0 A).2 fz).1 rfl HX.out.2 HXL.out.1 HX.out.1 (by have := HTL.out; have := HXL.out; omega) ?_; intro v7 w7 g7 hs7 hg7 hgr7; obtain ⟨a7, c7, hv7, -⟩ := hs7.shape; rw [vals_len] at hv7; have HE : Hid (∃ gt gr, BlR w r (bgo bs0 B).2 B (bgo bs0 B).1 fz (.slice a6 (AL + FL) c6) (.slice a7 (bgo bs0 B).1.length c7) (.slice ao FL co) ga6 gt gr go w7) := (by rw [HB.out.2.2]; refine ⟨g7, g', ?_⟩; have := HBL2.out.tell hs7 hg7 hgr7; rw [hv7] at this; exact this); have hvE : v7 = .slice a7 (bgo bs0 B).1.length c7 := (by rw [hv7, HB.out.2.2]); rw [hvE]; clear hs7 hg7 hgr7 hv7 hvE)
            go_meet
            exact ⟨a7, c7, rfl, HE.out⟩
          case rest =>
            obtain ⟨a9, c9, rfl, HO⟩ := hcut
            clear HBL HPush
            have HI0 : Hid (∃ gt gr O, O.length = FL ∧ BlR w r (bgo bs0 B).2 B (bgo bs0 B).1 O (.slice a6 (AL + FL) c6) (.slice a9 (bgo bs0 B).1.length c9) (.slice ao FL co) ga6 gt gr go wc) := by
              obtain ⟨gt, gr, h⟩ := HO.out
              exact ⟨gt, gr, fz, HFL.out, h⟩
            clear HO
            obtain ⟨TB, hTB⟩ : ∃ TB, (bgo bs0 B).1.length = TB := ⟨_, rfl⟩
            have HTB : Hid ((bgo bs0 B).1.length = TB) := hTB
            rw [hTB] at HI0 ⊢
            clear hTB
            go_wp2
            go_loopg [9, 39] FL (fun fu _ i wq => ∃ j : Nat, j ≤ FL ∧ fu = FL - j ∧ i = .int .i64 j ∧ Hid (∃ gt gr O, O.length = FL ∧ BlR w r (bgo bs0 B).2 B (bgo bs0 B).1 O (.slice a6 (AL + FL) c6) (.slice a9 TB c9) (.slice ao FL co) ga6 gt gr go wq))
            case atStart => exact ⟨0, Nat.zero_le _, rfl, rfl, HI0.out⟩
            case round =>
              clear HI0
              obtain ⟨j, hj, hfj, rfl, HZ⟩ := hrel
              by_cases hjN : j < FL
              · have hjNi : (j : Int) < (FL : Int) := by omega
                obtain ⟨gt9, gr9, O, hO, hbl⟩ := HZ.out
                obtain ⟨bq, offq, rfl, hcq⟩ : ∃ b off, ao = some ⟨b, off, none⟩ ∧ wr.cell? ⟨b, off + j, none⟩ = some (.int .u8 (O[j]?.getD 0)) := by
                  rcases hbl.so.row rfl with h | ⟨b, off, rfl, hc⟩
                  · rw [h] at hO; simp at hO; omega
                  · exact ⟨b, off, rfl, hc j (by omega)⟩
                have hgq : go = some bq := by
                  rcases hbl.so with ⟨h, _⟩ | ⟨b', off', cap', cur, h, hg, _⟩
                  · cases h
                  · simp only [Value.slice.injEq, Option.some.injEq, Addr.mk.injEq] at h
                    rw [hg, h.1.1]
                have hfq : wr.frozen? ⟨bq, offq + j, none⟩ = false := by
                  obtain ⟨c, e⟩ := hbl.so.tagB bq hgq
                  simp [World.frozen?, e]
                obtain ⟨z, hz⟩ : ∃ z, O[j]?.getD 0 = z := ⟨_, rfl⟩
                rw [hz] at hcq
                have HN1 : Hid (∀ v : Int, ∃ gt gr O, O.length = FL ∧ BlR w r (bgo bs0 B).2 B (bgo bs0 B).1 O (.slice a6 (AL + FL) c6) (.slice a9 TB c9) (.slice (some ⟨bq, offq, none⟩) FL co) ga6 gt gr go (wr.setCell ⟨bq, offq + j, none⟩ (.int .u8 v))) := by
                  intro v
                  refine ⟨gt9, gr9, O.set j v, by simpa using hO, hbl.over (by rw [vals_set]; exact hbl.so.setAt j _) ?_⟩
                  rw [hgq]
                  exact (OnlyB.refl _ _).set _ _
                have hji : (0 : Int) ≤ (j : Int) := by omega
                clear HZ hO hbl hgq hz
                go_wp2
                go_roundg (FL - (j + 1))
                case rel => exact ⟨j + 1, by omega, rfl, by go_num, HN1.out _⟩
                case measure => omega
              · obtain rfl : FL = j := by omega
                have hkNi : ¬ (FL : Int) < (FL : Int) := by omega
                obtain ⟨gt9, gr9, O, hO, hbl⟩ := HZ.out
                have HBL : Hid (BlR w r (bgo bs0 B).2 B (bgo bs0 B).1 O (.slice a6 (AL + FL) c6) (.slice a9 TB c9) (.slice ao FL co) ga6 gt9 gr9 go wr) := hbl
                obtain ⟨xo, yo, hvo, hlo6, hmo6, hno6⟩ := hbl.sa.shape
                rw [vals_len, HB.out.2.1] at hvo hlo6
                simp only [Value.slice.injEq] at hvo
                obtain ⟨rfl, _, rfl⟩ := hvo
                have HOf : Hid (Calls Try.prog 10 #[.slice a6 (AL + FL) c6] wr fun e w' => OfP wr B e w') := rof10_any B a6 (AL + FL) c6 wr HB.out.2.1 hlo6 hmo6 hno6 HB.out.1 (hbl.sa.row rfl) (by have := HB.out; omega)
                clear HZ hO hbl hmo6 hno6
                go_wp2_with fail
                refine HOf.out.mono ?_
                rintro e wx ⟨vo, vr, go7, gr7, rfl, hs1, hs2, hn1, hn2, hbx⟩
                obtain ⟨o1, o2, hvo, -, -, -⟩ := hs1.shape
                obtain ⟨p1, p2, hvr, -, -, -⟩ := hs2.shape
                rw [vals_len] at hvo hvr
                subst hvo hvr
                obtain ⟨X, hX⟩ : ∃ X, wx.heap.size = X := ⟨_, rfl⟩
                obtain ⟨DN, hDN⟩ : ∃ DN, (bgo bs0 B).2.done = DN := ⟨_, rfl⟩
                obtain ⟨SE, hSE⟩ : ∃ SE, (bgo bs0 B).2.seen = SE := ⟨_, rfl⟩
                obtain ⟨RL, hRL⟩ : ∃ RL, (bgo bs0 B).2.rest.length = RL := ⟨_, rfl⟩
                have htb := HTB.out
                obtain ⟨wy, hwy⟩ : ∃ wy, wx.alloc (.cells #[.slice o1 TB o2, .slice p1 RL p2, .bool DN, .int .i64 SE] 29) = wy := ⟨_, rfl⟩
                have hbxy : Below wx.heap.size wx wy := by rw [← hwy]; exact (Below.refl _ _).alloc (Nat.le_refl _) _
                have hbwy : Below wr.heap.size wr wy := hbx.trans (hbxy.mono hbx.size)
                have hXC : wy.heap[X]? = some (.cells #[.slice o1 TB o2, .slice p1 RL p2, .bool DN, .int .i64 SE] 29 (0, 0)) := by rw [← hX, ← hwy]; exact World.alloc_heap_new _ _
                have hrc : RC wy X (.slice o1 TB o2) (.slice p1 RL p2) DN SE := hXC
                obtain ⟨k0, k1, k2, k3, kf⟩ := hrc.cells
                have hbl2 := HBL.out.old hbwy
                have hSEb : SE ≤ 12600 := by have h1 : (bgo bs0 B).2.seen ≤ 0 + B.length := bgo_seen B bs0; have := HB.out; omega
                have hRLb : RL ≤ 12600 := by have h1 : (bgo bs0 B).2.rest.length ≤ 0 + B.length := bgo_rest B bs0; have := HB.out; omega
                have hdr : Below wy.heap.size wy wy.drew := ⟨rfl, rfl, rfl, Nat.le_refl _, fun _ _ => rfl⟩
                have HS1 : Hid (Calls Try.prog 11 #[.slice a9 TB c9, .slice o1 TB o2] wy.drew fun e w' => e = .returned (.bool true) ∧ w' = wy.drew) :=
                  same_any a9 o1 TB c9 o2 (bgo bs0 B).1 wy.drew htb ((hbl2.st.row rfl).old hdr) ((((hs1.row rfl).old hbxy)).old hdr)
                have HDn : Hid (Calls Try.prog 12 #[.pointer (some ⟨r, 0, none⟩)] wy.drew fun e w' => e = .returned (.bool DN) ∧ w' = wy.drew) := by
                  have := bdone_any (hbl2.rd.old hdr)
                  rw [hDN] at this
                  exact this
                have HRs : Hid (Calls Try.prog 13 #[.pointer (some ⟨r, 0, none⟩)] wy.drew fun e w7 => ∃ au cu, e = .returned (.slice au RL cu) ∧ Hid (Row w7 au (bgo bs0 B).2.rest ∧ Row w7 p1 (bgo bs0 B).2.rest ∧ Below wy.heap.size wy w7) ∧ w7.cell? ⟨X, 0, none⟩ = some (.slice o1 TB o2) ∧ w7.cell? ⟨X, 1, none⟩ = some (.slice p1 RL p2) ∧ w7.cell? ⟨X, 2, none⟩ = some (.bool DN) ∧ w7.cell? ⟨X, 3, none⟩ = some (.int .i64 SE)) := by
                  refine (brest_any (hbl2.rd.old hdr) (by rw [hRL]; omega)).mono ?_
                  rintro e w7 ⟨vq, gq, rfl, hsq, hgq, hbq⟩
                  obtain ⟨aq, cq, hvq, _⟩ := hsq.shape
                  rw [vals_len, hRL] at hvq
                  subst hvq
                  have hb7 : Below wy.heap.size wy w7 := ⟨hbq.os, hbq.tape, hbq.output, hbq.size, hbq.block⟩
                  have hr7 := hrc.same (hb7.block _ hrc.lt)
                  obtain ⟨k0, k1, k2, k3, kf⟩ := hr7.cells
                  exact ⟨aq, cq, rfl, ⟨hsq.row rfl, ((hs2.row rfl).old hbxy).old hb7, hb7⟩, k0, k1, k2, k3⟩
                have HSn : Hid (∀ w7, Below wy.heap.size wy w7 → Calls Try.prog 14 #[.pointer (some ⟨r, 0, none⟩)] w7 fun e w' => e = .returned (.int .i64 SE) ∧ w' = w7) := fun w7 h7 => by
                  have := bseen_any (hbl2.rd.old h7)
                  rw [hSE] at this
                  exact this
                have HRLe : Hid ((bgo bs0 B).2.rest.length = RL) := hRL
                have HNx : Hid (∀ w7, Below wy.heap.size wy w7 → BlAt w r (k + 1) (.slice a6 (AL + FL) c6) (.slice a9 TB c9) w7) := fun w7 h7 =>
                  ⟨B, ga6, gt9, gr9, (hbl2.old h7).drop, HB.out.1, by have := HB.out; omega⟩
                rw [hDN, hSE, hRL, htb]
                clear hs1 hs2 hn1 hn2 hbx hbxy hbwy hXC hrc hbl2 hdr hDN hSE hRL htb HOf HBL HB
                go_wp2
                clear hwy
                go_region_held3 (fun u => u.cell? ⟨X, 0, none⟩ = some (.slice o1 TB o2) ∧ u.cell? ⟨X, 1, none⟩ = some (.slice p1 RL p2) ∧ u.cell? ⟨X, 2, none⟩ = some (.bool DN) ∧ u.cell? ⟨X, 3, none⟩ = some (.int .i64 SE)) (first | go_keep | exact ⟨by assumption, by assumption, by assumption, by assumption⟩) (first
                  | (go_at_call 12; refine Calls.mono HDn.out ?_; rintro e w7 ⟨rfl, hw7⟩; subst hw7)
                  | (go_at_call 13; refine Calls.mono HRs.out ?_; rintro e w7 ⟨au, cu, rfl, hq7, hc7a, hc7b, hc7c, hc7d⟩)
                  | (go_at_call 14; refine Calls.mono (HSn.out _ hq7.out.2.2) ?_; rintro e w9 ⟨rfl, hw9⟩; subst hw9)
                  | (go_at_call 11; refine Calls.mono (same_any au p1 RL cu p2 (bgo bs0 B).2.rest _ HRLe.out hq7.out.1 hq7.out.2.1) ?_; rintro e w9 ⟨rfl, hw9⟩; subst hw9)
                  | (go_at_call 11; refine Calls.mono HS1.out ?_; rintro e w7 ⟨rfl, hw7⟩; subst hw7)
                  | fail)
                have HFF : Hid _ := HNx.out _ hq7.out.2.2
                clear hq7 hc7a hc7b hc7c hc7d HNx HSn HRs HDn HS1
                go_wp2
                go_roundw
                case rel => exact ⟨k + 1, by omega, by go_num, HFF.out⟩
                case measure => simp [intOf]; omega
    · obtain rfl : k = len := by omega
      have HP : Hid (Below w.heap.size w wr) := by obtain ⟨A, ga, gt, gr, hbl, _⟩ := HR.out; exact hbl.be
      clear HR
      go_wp2
      go_ret
      exact ⟨rfl, HP.out⟩
end Go.Proofs.Ytkfokfjmdkondaa
