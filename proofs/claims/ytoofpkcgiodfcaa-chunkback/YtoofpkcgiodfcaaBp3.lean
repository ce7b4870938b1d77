/- Chunks that are packed and pushed by any size are told as they were: the law. -/
import Derived.Test.YtoofpkcgiodfcaaBp2
import Derived.Deep.DeepCutAuto
import Derived.Deep.CutBlock
namespace Go.Proofs.Ytoofpkcgiodfcaa
open Go.RowKit
set_option maxHeartbeats 6400000 in
set_option maxRecDepth 20000 in
theorem cback_walk (a : Option Addr) (len cap : Nat) (F : Nat → Ck) (sz : Int) (w : World) (h : CkIn w a len cap F) (hsz : (Lit.int .u8 sz).wf = true) : Calls Try.prog 5 #[.slice a len cap, .int .u8 sz] w fun e w' => e = .returned (.bool true) ∧ Below w.heap.size w w' := by
  have C := kfixed_any w
  have HA : Hid (CkIn w a len cap F) := h
  have hlm : len ≤ 9223372036854775807 := by have := h.1.1; have := h.1.2.1; unfold maxLen at this; omega
  obtain ⟨N, rfl⟩ : ∃ N : Nat, sz = (N : Int) := by
    have := bounds_u8 hsz
    exact ⟨sz.toNat, by omega⟩
  have hN : N ≤ 255 := by
    have := bounds_u8 hsz
    omega
  clear h hsz
  go_enter Try.func5, Try.ntmps5
  go_wp2_with fail
  refine C.mono ?_
  clear C
  rintro e w1 ⟨rfl, hb1⟩
  have H1 : Hid (Below w.heap.size w w1 ∧ CkArg w1 a len cap F) := ⟨hb1, HA.out.1.old hb1⟩
  clear hb1
  go_wp2
  go_loopw [5, 6, 7, 23] (fun n _ _ t wr => ∃ k : Nat, k ≤ len ∧ t = .int .i64 k ∧ n = .int .i64 (sumL F k : Nat) ∧ Hid (k ≤ 101 ∧ sumL F k ≤ 5000 ∧ Below w1.heap.size w1 wr)) (fun _ _ _ t _ => len - (intOf t).toNat)
  case atStart => exact ⟨0, Nat.zero_le _, rfl, rfl, by omega, by show 0 ≤ _; omega, Below.refl _ _⟩
  case round =>
    obtain ⟨k, hk, rfl, rfl, HI⟩ := hrel
    obtain ⟨hk1, hk5, hb⟩ := HI.out
    clear HI
    by_cases hlt : k < len
    · obtain ⟨b, off, rfl, hc⟩ := H1.out.2.2.2 (by omega)
      obtain ⟨h1, h2, h3⟩ := hc k hlt
      have hbl : b < w1.heap.size := cell_lt h1
      have k1 : wr.cell? ⟨b, off + k * 2, none⟩ = some (.string (F k).kind) := (World.cell?_of_block (a := ⟨b, off + k * 2, none⟩) (hb.block b hbl)).trans h1
      have k2 : wr.cell? ⟨b, off + k * 2 + 1, none⟩ = some (.slice (F k).a (F k).z.length (F k).c) := (World.cell?_of_block (a := ⟨b, off + k * 2 + 1, none⟩) (hb.block b hbl)).trans h2
      have e3 := h3.2.2.1
      simp only [Ck.pt] at e3
      obtain ⟨S, hS⟩ : ∃ S, sumL F k = S := ⟨_, rfl⟩
      obtain ⟨Z, hZ⟩ : ∃ Z, (F k).z.length = Z := ⟨_, rfl⟩
      have HS : Hid (sumL F k = S ∧ sumL F (k + 1) = S + Z) := ⟨hS, by rw [sumL, hS, hZ]⟩
      rw [hZ] at k2 e3
      generalize (F k).kind = kd at *
      generalize (F k).a = fa at *
      generalize (F k).c = fc at *
      obtain ⟨wv, hwv⟩ : ∃ wv, wr.alloc (.cells #[.string kd, .slice fa Z fc] 40) = wv := ⟨_, rfl⟩
      have hbv : Below wr.heap.size wr wv := by rw [← hwv]; exact (Below.refl _ _).alloc (Nat.le_refl _) _
      have hVV : wv.heap[wr.heap.size]? = some (.cells #[.string kd, .slice fa Z fc] 40 (0, 0)) := by rw [← hwv]; exact heap_alloc_new _ _
      obtain ⟨c0, c1⟩ := two_cellsT hVV
      have HV : Hid (Below w1.heap.size w1 wv) := chainB hb hbv hb.size
      rw [hS] at hk5 ⊢
      have HE : Hid (Below w.heap.size w wv) := chainB H1.out.1 (chainB hb hbv hb.size) H1.out.1.size
      clear h1 h2 h3 hc hbl hb hS hbv hVV hZ
      by_cases hgo : S + Z ≤ 5000
      · by_cases hk100 : k ≤ 100
        · have i1 : ¬ (5000 : Int) < (S : Int) + (Z : Int) := by omega
          have i2 : ¬ (100 : Int) < (k : Int) := by omega
          go_wp2
          go_roundw
          case rel => exact ⟨k + 1, by omega, by go_num, by rw [HS.out.2]; go_num, by omega, by rw [HS.out.2]; exact hgo, HV.out⟩
          case measure => simp [intOf]; omega
        · have i1 : ¬ (5000 : Int) < (S : Int) + (Z : Int) := by omega
          have i2 : (100 : Int) < (k : Int) := by omega
          go_wp2
          go_ret
          exact ⟨rfl, HE.out⟩
      · have i1 : (5000 : Int) < (S : Int) + (Z : Int) := by omega
        go_wp2
        go_ret
        exact ⟨rfl, HE.out⟩
    · obtain rfl : k = len := by omega
      have harg := H1.out.2.old hb
      have C2 := pack_any a k cap F wr hk1 hk5 harg
      have HG : Hid (CkArg wr a k cap F ∧ Below w.heap.size w wr ∧ sumL F k ≤ 5000 ∧ k ≤ 101 ∧ ∀ i, i < k → Bytes (F i).z ∧ (F i).z.length ≤ 5000) := by
        refine ⟨harg, chainB H1.out.1 hb H1.out.1.size, hk5, hk1, fun i hi => ?_⟩
        obtain ⟨b, off, _, hc⟩ := H1.out.2.2.2 (by omega)
        obtain ⟨_, _, h3⟩ := hc i hi
        exact ⟨h3.1, by have := sumL_at F hi; omega⟩
      clear hb hk5 harg H1
      go_wp2_with fail
      refine C2.mono ?_
      clear C2
      rintro e w2 ⟨hb2, hy2, hn2⟩
      by_cases hok : okK F k
      · obtain ⟨a2, c2, rfl, hl2, hm2, hz2, hr2, hg2, -⟩ := hy2 hok
        clear hy2 hn2
        have HP : Hid (PGood (packB F k) ∧ ofAll (packB F k) = (snL F k, 0)) := ⟨pack_good F k hok (fun i hi => (HG.out.2.2.2.2 i hi).2) (fun i hi => (HG.out.2.2.2.2 i hi).1) (by rw [packB_len F k hok]; have := HG.out; omega), pack_all F k hok (fun i hi => (HG.out.2.2.2.2 i hi).2)⟩
        generalize packB F k = P at *
        have H2 : Hid (Below w.heap.size w w2 ∧ CkArg w2 a k cap F ∧ P.length ≤ c2 ∧ c2 ≤ 9223372036854775807 ∧ (a2 = none → c2 = 0) ∧ Row w2 a2 P) := ⟨chainB HG.out.2.1 hb2 HG.out.2.1.size, HG.out.1.old hb2, hl2, hm2, hz2, hr2⟩
        clear hb2 hl2 hm2 hz2 hr2 hg2 HG
        have C3 := cnew_any w2
        go_wp2_with fail
        refine C3.mono ?_
        clear C3
        rintro e w3 ⟨rfl, hcr3, hb3⟩
        have H3 : Hid (BbI w P w2.heap.size 0 [] [] 0 [] a2 c2 (.slice none 0 0) w3) := by
          obtain ⟨g1, g2, g3, g4, g5, g6⟩ := H2.out
          refine ⟨Nat.zero_le _, hcr3, rfl, World.ownsRow_nil _ _ _ _, ⟨fun x hx => (by cases hx), List.Pairwise.nil⟩, ⟨g3, g4, g5, g6.old hb3, fun x hx hz => ?_⟩, chainB g1 hb3 g1.size, g1.size⟩
          have := g6.lt x hx hz
          omega
        obtain ⟨p, hp⟩ : ∃ p, w2.heap.size = p := ⟨_, rfl⟩
        rw [hp] at H3 ⊢
        clear hcr3 hb3 hp H2
        go_wp2
        go_loopg [8, 11, 12, 13, 14, 15] P.length (fun fu b v _ _ _ _ wr => ∃ (t : Nat) (ar : Option Addr) (cr : Nat) (al : Option Addr) (n cl : Nat), v = .slice al n cl ∧ Hid (b = .slice ar (P.length - t) cr ∧ t + fu = P.length) ∧ Hid (∃ S L now cur, BbI w P p t S L now cur ar cr (.slice al n cl) wr))
        case atStart => exact ⟨0, a2, c2, none, 0, 0, rfl, ⟨rfl, by omega⟩, ⟨_, _, _, _, H3.out⟩⟩
        case round =>
          clear H3
          obtain ⟨t, ar, cr, al, n, cl, rfl, HB, HX⟩ := hrel
          obtain ⟨M, hM⟩ : ∃ M, P.length - t = M := ⟨_, rfl⟩
          rw [HB.out.1, hM]
          have HM : Hid (P.length - t = M ∧ t + gk = P.length) := ⟨hM, HB.out.2⟩
          obtain ⟨S, L, now, cur, hX⟩ := HX.out
          have hMc : M ≤ cr := by have := hX.rst.1; rw [List.length_drop] at this; omega
          have hcr2 : cr ≤ 9223372036854775807 := hX.rst.2.1
          have hM5 : M ≤ 100000 := by have := HP.out.1.2.1; omega
          have HX2 : Hid (BbI w P p t S L now cur ar cr (.slice al n cl) wr) := hX
          clear hM HB HX hX
          by_cases hM0 : 0 < M
          · have hM0i : (0 : Int) < (M : Int) := by omega
            go_upto_region 17 with fail
            go_cut [12] (fun v wx => wx = wr ∧ ∃ K : Nat, v = .int .i64 K ∧ K ≤ M ∧ 1 ≤ K)
            case first =>
              rcases (show (1 : Int) + (N : Int) < (M : Int) ∨ (M : Int) < 1 + (N : Int) ∨ 1 + N = M by omega) with hlt | hlt | hlt
              · go_wp2
                go_meet
                exact ⟨rfl, 1 + N, by go_num, by omega, by omega⟩
              · go_wp2
                go_meet
                exact ⟨rfl, M, by congr 1; omega, by omega, by omega⟩
              · subst hlt
                go_wp2
                go_meet
                exact ⟨rfl, 1 + N, by go_num, by omega, by omega⟩
            case rest =>
              obtain ⟨hwc, K, rfl, hKM, hK1⟩ := hcut
              rw [hwc]
              clear hwc wc
              have C4 := HX2.out.push HP.out.1 K (by have := HM.out; omega)
              have hKMi : (K : Int) ≤ (M : Int) := by omega
              have hKci : (K : Int) ≤ (cr : Int) := by omega
              have hKc : K ≤ cr := by omega
              go_wp2_with fail
              refine C4.mono ?_
              clear C4
              rintro e w4 ⟨at', ct, T, BT, L', now', cur', rfl, h4⟩
              have C5 := h4.gather
              generalize T.length = TL at *
              clear h4
              go_wp2_with fail
              refine C5.mono ?_
              clear C5
              rintro e w5 ⟨v', S', rfl, h5⟩
              obtain ⟨a5, c5, hv5, -⟩ := h5.row.shape
              subst hv5
              generalize S'.length = n5 at *
              have hcc : cr = K ∨ ¬ cr = K := by omega
              rcases hcc with hcK | hcK
              · obtain rfl : M = cr := by omega
                rw [if_pos hcK] at h5
                have H5 : Hid (BbI w P p (t + K) S' L' now' cur' ar (M - K) (.slice a5 n5 c5) w5) := h5
                clear h5
                subst hcK
                go_wp2
                go_roundg (P.length - (t + M))
                case rel => exact ⟨t + M, ar, M - M, a5, n5, c5, rfl, ⟨by rw [show P.length - (t + M) = 0 by have := HM.out; omega, Nat.sub_self], by have := HM.out; omega⟩, ⟨_, _, _, _, H5.out⟩⟩
                case measure => have := HM.out; omega
              · have hcKi : ¬ (cr : Int) = (K : Int) := by omega
                rw [if_neg hcK] at h5
                have H5 : Hid (BbI w P p (t + K) S' L' now' cur' (Option.map (fun x => x.add K) ar) (cr - K) (.slice a5 n5 c5) w5) := h5
                clear h5
                go_wp2
                go_roundg (P.length - (t + K))
                case rel => exact ⟨t + K, Option.map (fun x => x.add K) ar, cr - K, a5, n5, c5, rfl, ⟨by rw [show P.length - (t + K) = M - K by have := HM.out; omega], by have := HM.out; omega⟩, ⟨_, _, _, _, H5.out⟩⟩
                case measure => have := HM.out; omega
          · obtain rfl : M = 0 := by omega
            obtain ⟨hrd, hSm⟩ := HX2.out.fin (by have := HM.out; omega) HP.out.2
            have hbe := HX2.out.be
            have H6 : Hid (CRd wr p (P.take t) L 1 [] ∧ S.map Sm.s = snL F k ∧ SmRow wr (p + 1) (.slice al n cl) S ∧ (∀ x ∈ S, Row wr x.a x.s.data) ∧ Below w.heap.size w wr ∧ CkArg wr a k cap F) := ⟨hrd, hSm, HX2.out.row, fun x hx => (HX2.out.mem.1 x hx).1.row rfl, hbe, HA.out.1.old hbe⟩
            clear hrd hSm hbe HX2 HM hMc hcr2 hM5
            generalize wr = wo at *
            go_wp2
            go_loopw [16, 18, 85] (fun v _ t wq => ∃ i : Nat, i ≤ k ∧ t = .int .i64 i ∧ ∃ aw nw cw, v = .slice aw nw cw ∧ Hid (∃ W, W.length = nw ∧ WaI F i W (.slice aw nw cw) wo wq)) (fun _ _ t _ => k - (intOf t).toNat)
            case atStart => exact ⟨0, Nat.zero_le _, rfl, none, 0, 0, rfl, [], rfl, World.ownsRow_nil _ _ _ _, rfl, (fun x hx => by cases hx), Below.refl _ _, rfl⟩
            case round =>
              obtain ⟨i, hi, rfl, aw, nw, cw, rfl, HW⟩ := hrel
              obtain ⟨W, hWn, hW⟩ := HW.out
              clear HW
              by_cases hlt : i < k
              · obtain ⟨b, off, rfl, hc⟩ := H6.out.2.2.2.2.2.2.2 (by omega)
                obtain ⟨h1, h2, h3⟩ := hc i hlt
                have hbl : b < wo.heap.size := cell_lt h1
                have k1 : wr.cell? ⟨b, off + i * 2, none⟩ = some (.string (F i).kind) := (World.cell?_of_block (a := ⟨b, off + i * 2, none⟩) (hW.be.block b hbl)).trans h1
                have k2 : wr.cell? ⟨b, off + i * 2 + 1, none⟩ = some (.slice (F i).a (F i).z.length (F i).c) := (World.cell?_of_block (a := ⟨b, off + i * 2 + 1, none⟩) (hW.be.block b hbl)).trans h2
                have e3 := h3.2.2.1
                simp only [Ck.pt] at e3
                have HR : Hid (Row wo (F i).a (F i).z) := h3.2.2.2.2
                have HEn : Hid ((⟨⟨kb (F i).kind, (F i).z.length, (F i).z, true⟩, (F i).a, (F i).c⟩ : Sm).enc = [.string (F i).kind, .int .i64 ((F i).z.length : Nat), .slice (F i).a (F i).z.length (F i).c, .bool true]) := by
                  show _ = _
                  unfold Sm.enc
                  simp only [str_kb]
                obtain ⟨y, hy⟩ : ∃ y : Sm, (⟨⟨kb (F i).kind, (F i).z.length, (F i).z, true⟩, (F i).a, (F i).c⟩ : Sm) = y := ⟨_, rfl⟩
                have HY : Hid (∀ v' w2 w', Below wr.heap.size wr w2 → SmRow w' wo.heap.size v' (W ++ [y]) → w2.grownBy w' (Value.slice aw nw cw).ownBlock → WaI F (i + 1) (W ++ [y]) v' wo w') := by
                  intro v' w2 w' g1 g2 g3
                  rw [← hy] at g2 ⊢
                  exact hW.push g1 g2 g3 HR.out
                rw [hy] at HEn
                generalize (F i).kind = kd at k1 k2 HEn
                generalize (F i).z.length = Z at e3 k1 k2 HEn
                generalize (F i).a = fa at k1 k2 HEn
                generalize (F i).c = fc at e3 k1 k2 HEn
                obtain ⟨wv, hwv⟩ : ∃ wv, wr.alloc (.cells #[.string kd, .slice fa Z fc] 40) = wv := ⟨_, rfl⟩
                have hbv : Below wr.heap.size wr wv := by rw [← hwv]; exact (Below.refl _ _).alloc (Nat.le_refl _) _
                have hVV : wv.heap[wr.heap.size]? = some (.cells #[.string kd, .slice fa Z fc] 40 (0, 0)) := by rw [← hwv]; exact heap_alloc_new _ _
                obtain ⟨c0, c1⟩ := two_cellsT hVV
                have HT : Hid (SmRow wv wo.heap.size (.slice aw nw cw) W ∧ W.length = nw ∧ wo.heap.size ≤ wv.heap.size ∧ Below wr.heap.size wr wv ∧ nw ≤ 101) := ⟨hW.row.same fun q hq => hbv.block q (hW.row.blk q hq).2.1, hWn, Nat.le_trans hW.be.size hbv.size, hbv, by rw [← hWn, hW.len]; omega⟩
                clear h1 h2 h3 hc hbl hbv hVV hy hW hWn HR
                go_wp2_with (at_builtin; refine wpList_push_seen rfl _ _ rfl wo.heap.size (.slice aw nw cw) W y rfl (HT.out.1.same fun q hq => ((Below.refl wv.heap.size wv).alloc (Nat.le_refl _) _).block q (HT.out.1.blk q hq).2.1) ⟨wv.heap.size, 0, none⟩ 1 rfl (by intro q u hq; rw [Addr.add_lit, World.cell?_alloc_mark, Nat.zero_add]; rw [HEn.out] at hq; simpa using hq) (by rw [HT.out.2.1]; have := HT.out.2.2.2.2; omega) (by have := HT.out.2.2.1; simp; omega) ?_; intro v7 w7 hrow7 hg7; obtain ⟨a7, c7, hv7, -⟩ := hrow7.shape; subst hv7; have HN : Hid _ := HY.out _ _ w7 (HT.out.2.2.2.1.alloc HT.out.2.2.2.1.size _) hrow7 hg7; clear hrow7 hg7)
                go_roundw
                case rel => exact ⟨i + 1, by omega, by go_num, _, _, _, rfl, W ++ [y], by simp, by rw [show W.length + 1 = (W ++ [y]).length by simp]; exact HN.out⟩
                case measure => simp [intOf]; omega
              · have hik : i = k := by omega
                rw [hik] at hW
                have hSn : S.length = n := by
                  obtain ⟨_, _, e, -⟩ := H6.out.2.2.1.shape
                  simp only [Value.slice.injEq] at e
                  exact e.2.1.symm
                have heq : S.map Sm.s = W.map Sm.s := by rw [hW.mp, H6.out.2.1]
                have hnw : nw = n := by
                  have := congrArg List.length heq
                  simp only [List.length_map] at this
                  omega
                subst hnw
                have hp := H6.out.1.lt
                have C7 := between_any (H6.out.1.same (hW.be.block p hp))
                have C8 := lsame_any (p + 1) wo.heap.size al aw cl cw nw S W wr (H6.out.2.2.1.same fun q hq => hW.be.block q (H6.out.2.2.1.blk q hq).2.1) hW.row hSn (by have := hW.len; omega) heq (fun x hx => (H6.out.2.2.2.1 x hx).old hW.be) (fun x hx => (hW.dat x hx).old hW.be)
                have HE : Hid (Below w.heap.size w wr) := chainB H6.out.2.2.2.2.1 hW.be H6.out.2.2.2.2.1.size
                clear hSn heq hp hW hWn
                go_wp2_with fail
                refine C7.mono ?_
                clear C7
                rintro e wz ⟨rfl, hwz⟩
                rw [hwz]
                clear hwz
                simp only [and_self, decide_true]
                go_wp2_with fail
                refine C8.mono ?_
                clear C8
                rintro e w8 ⟨rfl, hb8⟩
                have HF : Hid (Below w.heap.size w w8) := chainB HE.out hb8 HE.out.size
                clear hb8
                go_wp2
                go_ret
                exact ⟨rfl, HF.out⟩
      · have he := hn2 hok
        have HE : Hid (Below w.heap.size w w2) := chainB HG.out.2.1 hb2 HG.out.2.1.size
        clear hn2 hy2 hb2 HG
        subst he
        go_wp2
        go_ret
        exact ⟨rfl, HE.out⟩
end Go.Proofs.Ytoofpkcgiodfcaa
