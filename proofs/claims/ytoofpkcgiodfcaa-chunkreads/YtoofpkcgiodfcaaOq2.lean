/- halftoneref11.Of: the document's reading, walked. -/
import Derived.Test.YtoofpkcgiodfcaaOq1
import Derived.Test.YtoofpkcgiodfcaaBp1
import Derived.Deep.DeepCutAuto
import Derived.Deep.CutBlock
namespace Go.Proofs.Ytoofpkcgiodfcaa
open Go.RowKit
set_option maxHeartbeats 6400000 in
set_option maxRecDepth 20000 in
theorem rofc_any (a : Option Addr) (m cap : Nat) (bs : List Int) (w : World) (hm : bs.length = m) (hby : Bytes bs) (hrow : Row w a bs) (hmc : m ≤ cap) (hcap : cap ≤ 9223372036854775807) (hnone : a = none → cap = 0) (hlen : m ≤ 1000000) :
    Calls Try.prog 11 #[.slice a m cap] w fun e w' => OfP w bs e w' := by
  have C1 := rfirst_any w
  have HA : Hid (bs.length = m ∧ Bytes bs ∧ Row w a bs ∧ (a = none → cap = 0)) := ⟨hm, hby, hrow, hnone⟩
  clear hm hby hrow hnone
  go_enter Try.func11, Try.ntmps11
  go_wp2_with fail
  refine C1.mono ?_
  clear C1
  rintro e w1 ⟨rfl, hw1⟩
  have H1 : Hid (Below w.heap.size w w1 ∧ ∀ i, i < 8 → w1.cell? ⟨w.heap.size, i, none⟩ = some (.int .u8 (first8[i]?.getD 0))) := by
    rw [hw1]
    exact ⟨(Below.refl _ _).alloc (Nat.le_refl _) _, fun i hi => first8_cell w i hi⟩
  clear hw1
  obtain ⟨fb, hfb⟩ : ∃ fb, w.heap.size = fb := ⟨_, rfl⟩
  have H1b : Hid (w.heap.size = fb) := hfb
  have H1c : Hid (∀ i, i < 8 → w1.cell? ⟨fb, i, none⟩ = some (.int .u8 (first8[i]?.getD 0))) := by rw [← hfb]; exact H1.out.2
  rw [hfb]
  clear hfb
  go_wp2
  go_loopw [4, 5, 12] (fun _ _ t wr => wr = w1 ∧ ∃ i : Nat, i ≤ 8 ∧ t = .int .i64 i ∧ Hid (bs.take i = first8.take i)) (fun _ _ t _ => 8 - (intOf t).toNat)
  case atStart => exact ⟨rfl, 0, by omega, rfl, rfl⟩
  case round =>
    obtain ⟨hwr, i, hi, rfl, HI⟩ := hrel
    rw [hwr]
    clear hwr
    by_cases hlt : i < 8
    · have f1 := H1c.out i hlt
      by_cases him : i < m
      · obtain ⟨b, off, rfl, hc⟩ : ∃ b off, a = some ⟨b, off, none⟩ ∧ ∀ i, i < bs.length → w.cell? ⟨b, off + i, none⟩ = some (.int .u8 (bs[i]?.getD 0)) := by
          rcases HA.out.2.2.1 with e | h
          · have := HA.out.1; rw [e] at this; simp at this; omega
          · exact h
        have hc1 := hc i (by have := HA.out.1; omega)
        have c1 : w1.cell? ⟨b, off + i, none⟩ = some (.int .u8 (bs[i]?.getD 0)) := (World.cell?_of_block (a := ⟨b, off + i, none⟩) (H1.out.1.block b (cell_lt hc1))).trans hc1
        have HE : Hid (OfM w [] (.slice none 0 0) w1) := OfM.nil w w1 H1.out.1
        clear hc hc1
        obtain ⟨x, hx⟩ : ∃ x, bs[i]?.getD 0 = x := ⟨_, rfl⟩
        obtain ⟨y, hy⟩ : ∃ y, first8[i]?.getD 0 = y := ⟨_, rfl⟩
        have HXY : Hid (bs[i]?.getD 0 = x ∧ first8[i]?.getD 0 = y) := ⟨hx, hy⟩
        rw [hx] at c1
        rw [hy] at f1
        clear hx hy
        by_cases hxy : x = y
        · subst hxy
          have HN : Hid (bs.take (i + 1) = first8.take (i + 1)) := first_more hlt (by have := HA.out.1; omega) HI.out (HXY.out.1.trans HXY.out.2.symm)
          go_wp2
          go_roundw
          case rel => exact ⟨(by first | rfl | trivial), i + 1, by omega, by go_num, HN.out⟩
          case measure => simp [intOf]; omega
        · have HF : Hid (OfP w bs (.returned (.tuple #[.slice none 0 0, .int .i64 3])) w1) := by
            have e := first_wrong (bs := bs) (i := i) hlt (by have := HA.out.1; omega) (by rw [HXY.out.1, HXY.out.2]; exact hxy)
            exact ⟨_, [], by rw [e], HE.out, by rw [e]; rfl⟩
          go_wp2
          go_ret2
          exact HF.out
      · have hge : (m : Int) ≤ (i : Int) := by omega
        have HF : Hid (OfP w bs (.returned (.tuple #[.slice none 0 0, .int .i64 2])) w1) := by
          have e := first_short hlt HI.out (by have := HA.out.1; omega)
          exact ⟨_, [], by rw [e], OfM.nil w w1 H1.out.1, by rw [e]; rfl⟩
        go_wp2
        go_ret2
        exact HF.out
    · obtain rfl : i = 8 := by omega
      have hm8 : 8 ≤ m := by
        have e := congrArg List.length HI.out
        rw [List.length_take, List.length_take] at e
        have h8 : first8.length = 8 := rfl
        have := HA.out.1
        omega
      have H2 : Hid (OfI w bs 8 [] (if cap = 8 then a else Option.map (fun x => x.add 8) a) (cap - 8) (.slice none 0 0) w1) := by
        obtain ⟨h1, h2, h3, h4⟩ := HA.out
        have hr := (h3.old H1.out.1).cut 8 cap (by omega) (by omega)
        refine ⟨by omega, by omega, by omega, ?_, hr, ?_, OfM.nil w w1 H1.out.1, ?_, Nat.zero_le _⟩
        · intro hh
          split at hh
          · omega
          · cases a with
            | none => have := h4 rfl; omega
            | some x => cases hh
        · intro x hx hz
          have := hr.lt x hx hz
          split at hx
          · rename_i hc8
            exact absurd (List.drop_eq_nil_of_le (by omega)) hz
          · cases a with
            | none => cases hx
            | some z =>
              simp only [Option.map_some, Option.some.injEq] at hx
              subst hx
              have := h3.lt z rfl (by intro e; rw [e] at h1; simp at h1; omega)
              exact this
        · unfold ofAll
          rw [if_pos (by rw [HI.out]; rfl)]
          rfl
      have H0 : Hid (bs.length = m ∧ Bytes bs) := ⟨HA.out.1, HA.out.2.1⟩
      have hcm8 : 8 ≤ cap := by omega
      clear HI H1c H1b HA
      go_upto_region 9 with fail
      go_cut [0] (fun v wx => wx = w1 ∧ ∃ (ar : Option Addr) (cr : Nat), v = .slice ar (m - 8) cr ∧ Hid (OfI w bs 8 [] ar cr (.slice none 0 0) w1))
      case first =>
        by_cases hc8 : cap = 8
        · have hm88 : m = 8 := by omega
          subst hc8 hm88
          have := H2.out
          rw [if_pos rfl] at this
          have H3 : Hid _ := this
          clear this H2
          go_wp2
          go_meet
          exact ⟨rfl, _, _, rfl, H3.out⟩
        · have hc8i : ¬ (cap : Int) = 8 := by omega
          have := H2.out
          rw [if_neg hc8] at this
          have H3 : Hid _ := this
          clear this H2
          go_wp2
          go_meet
          exact ⟨rfl, _, _, rfl, H3.out⟩
      case rest =>
        obtain ⟨hwc, ar, cr, rfl, H3⟩ := hcut
        rw [hwc]
        clear hwc wc H2
        go_wp2
        go_loopg [0, 6, 7, 8, 9] (m - 8) (fun fu b v _ _ _ wr => ∃ (t : Nat) (ar : Option Addr) (cr : Nat) (al : Option Addr) (n cl : Nat), v = .slice al n cl ∧ Hid (b = .slice ar (m - t) cr ∧ t + fu = m) ∧ Hid (∃ S, S.length = n ∧ OfI w bs t S ar cr (.slice al n cl) wr))
        case atStart => exact ⟨8, ar, cr, none, 0, 0, rfl, ⟨rfl, by omega⟩, ⟨[], rfl, H3.out⟩⟩
        case round =>
          clear H3 ar cr
          obtain ⟨t, ar, cr, al, n, cl, rfl, HB, HX⟩ := hrel
          obtain ⟨M, hM⟩ : ∃ M, m - t = M := ⟨_, rfl⟩
          rw [HB.out.1, hM]
          have HM : Hid (m - t = M ∧ t + gk = m) := ⟨hM, HB.out.2⟩
          obtain ⟨S, hSn, hX⟩ := HX.out
          obtain ⟨cur, hcur⟩ : ∃ cur, bs.drop t = cur := ⟨_, rfl⟩
          have hcl : cur.length = M := by rw [← hcur, List.length_drop]; have := H0.out.1; omega
          have hMc : M ≤ cr := by have := hX.cle; have := H0.out.1; omega
          have hcr2 : cr ≤ 9223372036854775807 := hX.cm
          have HX2 : Hid (OfI w bs t S ar cr (.slice al n cl) wr ∧ S.length = n ∧ bs.drop t = cur ∧ cur.length = M ∧ Bytes cur) := ⟨hX, hSn, hcur, hcl, by rw [← hcur]; intro z hz; exact H0.out.2 z (List.mem_of_mem_drop hz)⟩
          have hnn : n ≤ 1000000 := by have := hX.sn; have := hX.tle; have := H0.out.1; omega
          have hM6 : M ≤ 1000000 := by omega
          clear hM HB HX hX hSn hcur hcl
          by_cases hM0 : M = 0
          · subst hM0
            have HF : Hid (OfP w bs (.returned (.tuple #[.slice al n cl, .int .i64 0])) wr) := HX2.out.1.done (by rw [HX2.out.2.2.1, List.length_eq_zero_iff.1 HX2.out.2.2.2.1, ps_nil])
            go_wp2
            go_ret2
            exact HF.out
          have hM0i : (0 : Int) < (M : Int) := by omega
          have hne : cur ≠ [] := by intro e; have := HX2.out.2.2.2.1; rw [e] at this; simp at this; omega
          by_cases hM4 : M < 4
          · have hM4i : (M : Int) < 4 := by omega
            have HF : Hid (OfP w bs (.returned (.tuple #[.slice al n cl, .int .i64 2])) wr) := HX2.out.1.done (by rw [HX2.out.2.2.1, ps_few hne (by rw [HX2.out.2.2.2.1]; exact hM4)])
            go_wp2
            go_ret2
            exact HF.out
          have hM4i : ¬ (M : Int) < 4 := by omega
          have hrowc : Row wr ar cur := by have := HX2.out.1.rw'; rw [HX2.out.2.2.1] at this; exact this
          obtain ⟨b, off, rfl⟩ : ∃ b off, ar = some ⟨b, off, none⟩ := by
            rcases id hrowc with e | ⟨b, off, e, _⟩
            · exact absurd e hne
            · exact ⟨b, off, e⟩
          have HR : Hid (Row wr (some ⟨b, off, none⟩) cur ∧ b < w.heap.size) := ⟨hrowc, HX2.out.1.bl _ rfl (by rw [HX2.out.2.2.1]; exact hne)⟩
          have C2 := rnum_any (some ⟨b, off, none⟩) 4 cr (cur.take 4) wr (by rw [List.length_take, HX2.out.2.2.2.1]; omega) (by omega) (HX2.out.2.2.2.2.take 4) (hrowc.take 4)
          obtain ⟨nn, hn0⟩ : ∃ nn, cN cur = nn := ⟨_, rfl⟩
          have hbn : bigN (cur.take 4) = (nn : Int) := by
            have := bigN_le (HX2.out.2.2.2.2.take 4) (by rw [List.length_take]; omega)
            unfold cN at hn0
            omega
          rw [hbn] at C2
          have HN : Hid (cN cur = nn) := hn0
          clear hn0 hbn hrowc
          go_wp2_with fail
          refine C2.mono ?_
          clear C2
          rintro e wz ⟨rfl, hwz⟩
          rw [hwz]
          clear hwz
          by_cases hnl : 1048576 < nn
          · have hnli : (1048576 : Int) < (nn : Int) := by omega
            have HF : Hid (OfP w bs (.returned (.tuple #[.slice al n cl, .int .i64 9])) wr) := HX2.out.1.done (by rw [HX2.out.2.2.1, ps_long (by rw [HX2.out.2.2.2.1]; omega) (by rw [HN.out]; exact hnl)])
            go_wp2
            go_ret2
            exact HF.out
          have hnli : ¬ (1048576 : Int) < (nn : Int) := by omega
          by_cases hM8 : M < 8
          · have hM8i : (M : Int) < 8 := by omega
            have HF : Hid (OfP w bs (.returned (.tuple #[.slice al n cl, .int .i64 2])) wr) := HX2.out.1.done (by rw [HX2.out.2.2.1, ps_few8 (by rw [HX2.out.2.2.2.1]; omega) (by rw [HX2.out.2.2.2.1]; omega) (by rw [HN.out]; omega)])
            go_wp2
            go_ret2
            exact HF.out
          have hM8i : ¬ (M : Int) < 8 := by omega
          have hcr4 : ¬ (cr : Int) = 4 := by omega
          have hcr8i : (8 : Int) ≤ (cr : Int) := by omega
          have hcv : (convert 26 9 (.slice (some ⟨b, off + 4, none⟩) 4 (cr - 4))).run Try.prog wr = .ok (.string (strOfNums (cK cur))) wr := by
            have hr := HR.out.1.cut 4 cr (by rw [HX2.out.2.2.2.1]; omega) (by rw [HX2.out.2.2.2.1]; omega)
            rw [if_neg (by omega)] at hr
            simp only [Option.map_some, Addr.add_lit] at hr
            exact conv_row (by unfold cK; rw [List.length_take, List.length_drop, HX2.out.2.2.2.1]; omega) (hr.take 4)
          have hkb : Bytes (cK cur) := (HX2.out.2.2.2.2.drop 4).take 4
          have C3 := rkindr_any (strOfNums (cK cur)) (by rw [← kb_len, kb_str hkb]; unfold cK; rw [List.length_take]; omega) wr
          rw [kb_str hkb] at C3
          clear hkb
          have HK : Hid (∃ kk, strOfNums (cK cur) = kk) := ⟨_, rfl⟩
          obtain ⟨kd, hkd⟩ : ∃ kd, strOfNums (cK cur) = kd := ⟨_, rfl⟩
          have HKd : Hid (strOfNums (cK cur) = kd) := hkd
          rw [hkd] at hcv C3
          clear hkd HK
          go_wp2_with fail
          refine C3.mono ?_
          clear C3
          rintro e wz ⟨rfl, hwz⟩
          rw [hwz]
          clear hwz hcv
          cases hik : isK (cK cur) with
          | false =>
            have HF : Hid (OfP w bs (.returned (.tuple #[.slice al n cl, .int .i64 3])) wr) := HX2.out.1.done (by rw [HX2.out.2.2.1, ps_kind (by rw [HX2.out.2.2.2.1]; omega) (by rw [HN.out]; omega) hik])
            go_wp2
            go_ret2
            exact HF.out
          | true =>
            obtain ⟨K, hK⟩ : ∃ K : Nat, min (M : Int) (8 + (nn : Int)) = (K : Int) := ⟨min M (8 + nn), by omega⟩
            have hK8 : (8 : Int) ≤ (K : Int) := by omega
            have hKM : (K : Int) ≤ (M : Int) := by omega
            have hKc : (K : Int) ≤ (cr : Int) := by omega
            have hDl : (cD cur).length = K - 8 := by unfold cD; rw [List.length_take, List.length_drop, HX2.out.2.2.2.1, HN.out]; omega
            have HD : Hid (Row wr (if cr = 8 then some (⟨b, off, none⟩ : Addr) else Option.map (fun x : Addr => x.add 8) (some (⟨b, off, none⟩ : Addr))) (cD cur) ∧ (cD cur).length = K - 8) := by
              have hr := HR.out.1.cut 8 cr (by rw [HX2.out.2.2.2.1]; omega) (by rw [HX2.out.2.2.2.1]; omega)
              exact ⟨hr.take _, hDl⟩
            clear hDl
            go_upto_region 22 with fail
            go_cut [9] (fun v wx => wx = wr ∧ ∃ (ad : Addr) (DL cd : Nat), v = .slice (some ad) DL cd ∧ Hid (Row wr (some ad) (cD cur) ∧ (cD cur).length = DL) ∧ DL ≤ 1000000)
            case first =>
              by_cases hc8 : cr = 8
              · have hK8' : K = 8 := by omega
                have := HD.out
                rw [if_pos hc8] at this
                have H3 : Hid _ := this
                clear this HD
                subst hc8 hK8'
                go_wp2
                go_meet
                exact ⟨rfl, _, _, _, rfl, H3.out, by omega⟩
              · have hc8i : ¬ (cr : Int) = 8 := by omega
                have := HD.out
                rw [if_neg hc8] at this
                simp only [Option.map_some, Addr.add_lit] at this
                have H3 : Hid _ := this
                clear this HD
                go_wp2
                go_meet
                exact ⟨rfl, _, _, _, rfl, H3.out, by omega⟩
            case rest =>
              obtain ⟨hwc, ad, DL, cd, rfl, H3, hDL⟩ := hcut
              rw [hwc]
              clear hwc wc HD hK hK8 hKM hKc K
              have HBe : Hid (∀ w5, (wr.alloc (.cells #[] 5)).grownBy w5 (some wr.heap.size) → Below wr.heap.size wr w5) := by
                intro w5 hg
                have hsz : (wr.alloc (.cells #[] 5)).heap.size = wr.heap.size + 1 := by simp
                exact ⟨hg.os, hg.tape, hg.output, by have := hg.size; omega, fun k hk => (hg.block k (by omega) (by simp; omega)).trans (((Below.refl wr.heap.size wr).alloc (Nat.le_refl _) (.cells #[] 5)).block k hk)⟩
              have HSz : Hid (w.heap.size ≤ wr.heap.size) := HX2.out.1.m.be.size
              obtain ⟨y, hy⟩ : ∃ y : Option Addr → Nat → Sm, y = fun a5 c5 => ⟨⟨cK cur, cN cur, cD cur, false⟩, a5, c5⟩ := ⟨_, rfl⟩
              have HY : Hid (∀ a5 c5, (y a5 c5).enc = [.string kd, .int .i64 nn, .slice a5 DL c5, .bool false]) := by
                intro a5 c5
                rw [hy, ← HKd.out, ← HN.out, ← H3.out.2]
                rfl
              have HY2 : Hid (∀ a5 c5, y a5 c5 = ⟨⟨cK cur, cN cur, cD cur, false⟩, a5, c5⟩) := by intro a5 c5; rw [hy]
              clear hy
              have HPu : Hid (∀ a5 c5 g5 w5 v6 w6, Below wr.heap.size wr w5 → Sl w5 5 (.slice a5 DL c5) g5 (vals (cD cur)) → (∀ k, g5 = some k → w.heap.size ≤ k) → SmRow w6 w.heap.size v6 (S ++ [y a5 c5]) → (w5.alloc (.cells #[.string kd, .int .i64 nn, .slice a5 DL c5, .bool false] 46)).grownBy w6 (Value.slice al n cl).ownBlock → OfM w (S ++ [y a5 c5]) v6 w6) := by
                intro a5 c5 g5 w5 v6 w6 h1 h2 hn5 h3 h4
                refine HX2.out.1.m.push (g := g5) (h1.alloc h1.size _) ?_ hn5 h3 h4
                rw [HY2.out]
                show Sl _ 5 (.slice a5 (cD cur).length c5) g5 (vals (cD cur))
                rw [H3.out.2]
                exact h2.same fun k hk => ((Below.refl w5.heap.size w5).alloc (Nat.le_refl _) _).block k (h2.lt hk)
              by_cases h12 : M < 12 + nn
              · have h12i : (M : Int) < 12 + (nn : Int) := by omega
                go_wp2_with (first
                  | (at_builtin; refine wpList_more rfl _ _ rfl (.slice (some ⟨wr.heap.size, 0, none⟩) 0 0) (some wr.heap.size) [] rfl (Sl.empty wr 5) (some ad) DL cd (cD cur) rfl (by intro h; cases h) H3.out.2 (H3.out.1.alloc _) (by show 0 + DL ≤ _; omega) ?_; intro v5 w5 g5 hs5 hg5 hgr5; rw [List.nil_append] at hs5; obtain ⟨a5, c5, hv5, -⟩ := hs5.shape; rw [vals_len, H3.out.2] at hv5; subst hv5; have HB5 : Hid (Below wr.heap.size wr w5) := HBe.out w5 hgr5; have HS5 : Hid (Sl w5 5 (.slice a5 DL c5) g5 (vals (cD cur))) := hs5; have HG5 : Hid (∀ k, g5 = some k → w.heap.size ≤ k) := new_ge hg5 HSz.out; clear hs5 hg5 hgr5)
                  | (at_builtin; refine wpList_push_seen rfl _ _ rfl w.heap.size (.slice al n cl) S (y a5 c5) rfl (HX2.out.1.m.row.same fun q hq => (HB5.out.alloc HB5.out.size _).block q (HX2.out.1.m.row.blk q hq).2.1) ⟨w5.heap.size, 0, none⟩ 1 rfl (by intro q u hq; rw [Addr.add_lit, World.cell?_alloc_mark, Nat.zero_add]; rw [HY.out] at hq; simpa using hq) (by rw [HX2.out.2.1]; omega) (by have := HSz.out; have := HB5.out.size; simp; omega) ?_; intro v6 w6 hrow6 hg6; obtain ⟨a6, c6, hv6, hl6, hm6, -⟩ := hrow6.shape; rw [List.length_append, HX2.out.2.1] at hv6 hl6; subst hv6; have HM6 : Hid (OfM w (S ++ [y a5 c5]) (.slice a6 (n + 1) c6) w6) := HPu.out a5 c5 g5 w5 _ w6 HB5.out HS5.out HG5.out hrow6 hg6; clear hrow6 hg6))
                have HF : Hid (OfP w bs (.returned (.tuple #[.slice a6 (n + 1) c6, .int .i64 2])) w6) := by
                  have e := HX2.out.1.say
                  rw [HX2.out.2.2.1, ps_part (by rw [HX2.out.2.2.2.1]; omega) (by rw [HN.out]; omega) hik (by rw [HX2.out.2.2.2.1, HN.out]; exact h12)] at e
                  exact ⟨_, _, by rw [e], HM6.out, by rw [e, List.map_append, HY2.out]; rfl⟩
                go_ret2
                exact HF.out
              · have h12i : ¬ (M : Int) < 12 + (nn : Int) := by omega
                go_wp2_with (first
                  | (at_builtin; refine wpList_more rfl _ _ rfl (.slice (some ⟨wr.heap.size, 0, none⟩) 0 0) (some wr.heap.size) [] rfl (Sl.empty wr 5) (some ad) DL cd (cD cur) rfl (by intro h; cases h) H3.out.2 (H3.out.1.alloc _) (by show 0 + DL ≤ _; omega) ?_; intro v5 w5 g5 hs5 hg5 hgr5; rw [List.nil_append] at hs5; obtain ⟨a5, c5, hv5, -⟩ := hs5.shape; rw [vals_len, H3.out.2] at hv5; subst hv5; have HB5 : Hid (Below wr.heap.size wr w5) := HBe.out w5 hgr5; have HS5 : Hid (Sl w5 5 (.slice a5 DL c5) g5 (vals (cD cur))) := hs5; have HG5 : Hid (∀ k, g5 = some k → w.heap.size ≤ k) := new_ge hg5 HSz.out; clear hs5 hg5 hgr5)
                  | (at_builtin; refine wpList_push_seen rfl _ _ rfl w.heap.size (.slice al n cl) S (y a5 c5) rfl (HX2.out.1.m.row.same fun q hq => (HB5.out.alloc HB5.out.size _).block q (HX2.out.1.m.row.blk q hq).2.1) ⟨w5.heap.size, 0, none⟩ 1 rfl (by intro q u hq; rw [Addr.add_lit, World.cell?_alloc_mark, Nat.zero_add]; rw [HY.out] at hq; simpa using hq) (by rw [HX2.out.2.1]; omega) (by have := HSz.out; have := HB5.out.size; simp; omega) ?_; intro v6 w6 hrow6 hg6; obtain ⟨a6, c6, hv6, hl6, hm6, -⟩ := hrow6.shape; rw [List.length_append, HX2.out.2.1] at hv6 hl6; subst hv6; have HM6 : Hid (OfM w (S ++ [y a5 c5]) (.slice a6 (n + 1) c6) w6) := HPu.out a5 c5 g5 w5 _ w6 HB5.out HS5.out HG5.out hrow6 hg6; clear hrow6 hg6))
                obtain ⟨N8, hN8⟩ : ∃ N8 : Nat, 8 + nn = N8 := ⟨_, rfl⟩
                obtain ⟨N12, hN12⟩ : ∃ N12 : Nat, 12 + nn = N12 := ⟨_, rfl⟩
                have i1 : (N8 : Int) ≤ (N12 : Int) := by omega
                have i2 : (N12 : Int) ≤ (cr : Int) := by omega
                have i3 : ¬ (cr : Int) = (N8 : Int) := by omega
                have i4 : (4 : Int) ≤ (N8 : Int) := by omega
                have i5 : (N8 : Int) ≤ (cr : Int) := by omega
                have i6 : (N12 : Int) ≤ (M : Int) := by omega
                have z8 : IntKind.i64.wrap (8 + (nn : Int)) = (N8 : Int) := by rw [IntKind.wrap_i64]; omega
                have z12 : IntKind.i64.wrap (12 + (nn : Int)) = (N12 : Int) := by rw [IntKind.wrap_i64]; omega
                have z8' : IntKind.i64.wrap (N8 : Int) = (N8 : Int) := by rw [IntKind.wrap_i64]; omega
                have z12' : IntKind.i64.wrap (N12 : Int) = (N12 : Int) := by rw [IntKind.wrap_i64]; omega
                have y8 : (0 : Int) ≤ (N8 : Int) := by omega
                have j1 : N8 ≤ N12 := by omega
                have j2 : N12 ≤ cr := by omega
                have j3 : ¬ cr = N8 := by omega
                have j4 : 4 ≤ N8 := by omega
                have j5 : N8 ≤ cr := by omega
                have j6 : ¬ cr = 4 := by omega
                have j7 : N12 ≤ 2000000 := by omega
                have hr6 : Row w6 (some ⟨b, off, none⟩) cur := HR.out.1.same fun x hx _ => by
                  cases hx
                  exact (HM6.out.be.block b HR.out.2).trans (HX2.out.1.m.be.block b HR.out.2).symm
                obtain ⟨CS, hCS⟩ : ∃ CS, cS cur = CS := ⟨_, rfl⟩
                obtain ⟨CW, hCW⟩ : ∃ CW : Int, ((cW cur).toNat : Int) = CW := ⟨_, rfl⟩
                have hcsb : 0 ≤ CS ∧ CS < 4294967296 := by
                  rw [← hCS]
                  exact bigN_le ((HX2.out.2.2.2.2.drop _).take 4) (by rw [List.length_take]; omega)
                have cs1 := hcsb.1
                have cs2 := hcsb.2
                have HNm : Hid (∀ q, Calls Try.prog 21 #[.slice (some ⟨b, off + N8, none⟩) (N12 - N8) (cr - N8)] (w6.drewN q) fun e w' => e = .returned (.int .i64 CS) ∧ w' = w6.drewN q) := by
                  intro q
                  have hr := hr6.cut N8 cr (by rw [HX2.out.2.2.2.1]; omega) (by rw [HX2.out.2.2.2.1]; omega)
                  rw [if_neg (by omega)] at hr
                  simp only [Option.map_some, Addr.add_lit] at hr
                  have := rnum_any (some ⟨b, off + N8, none⟩) (N12 - N8) (cr - N8) ((cur.drop N8).take 4) (w6.drewN q) (by rw [List.length_take, List.length_drop, HX2.out.2.2.2.1]; omega) (by omega) ((HX2.out.2.2.2.2.drop _).take 4) ((hr.take 4).same fun _ _ _ => rfl)
                  rw [show bigN ((cur.drop N8).take 4) = CS by rw [← hCS, ← hN8]; unfold cS; rw [HN.out]] at this
                  exact this
                have HOf : Hid (∀ q, Calls Try.prog 23 #[.slice (some ⟨b, off + 4, none⟩) (N8 - 4) (cr - 4)] (w6.drewN q) fun e w' => e = .returned (.int .u32 CW) ∧ w' = w6.drewN q) := by
                  intro q
                  have hr := hr6.cut 4 cr (by rw [HX2.out.2.2.2.1]; omega) (by rw [HX2.out.2.2.2.1]; omega)
                  rw [if_neg (by omega)] at hr
                  simp only [Option.map_some, Addr.add_lit] at hr
                  have := rof_any (some ⟨b, off + 4, none⟩) (N8 - 4) (cr - 4) ((cur.drop 4).take (4 + nn)) (w6.drewN q) (by rw [List.length_take, List.length_drop, HX2.out.2.2.2.1]; omega) (by omega) ((HX2.out.2.2.2.2.drop _).take _) ((hr.take (4 + nn)).same fun _ _ _ => rfl)
                  rw [show ((crcM (BitVec.ofNat 32 0) ((cur.drop 4).take (4 + nn))).toNat : Int) = CW by rw [← hCW]; unfold cW; rw [HN.out]] at this
                  exact this
                have hx0 : ∃ x0, w6.cell? ⟨b, off, none⟩ = some (.int .u8 x0) := by
                  rcases hr6 with e | ⟨b', off', e, hc⟩
                  · exact absurd e hne
                  · cases e
                    exact ⟨_, hc 0 (by rw [HX2.out.2.2.2.1]; omega)⟩
                obtain ⟨x0, hx0⟩ := hx0
                obtain ⟨g, rfl, -, hyc, hyf⟩ := HM6.out.row.cell S.length (y a5 c5) (by simp)
                have hy3 : w6.cell? ⟨g, n * 4 + 3, none⟩ = some (.bool false) := by
                  have := hyc 3 (by omega)
                  rw [HX2.out.2.1, HY.out] at this
                  exact this
                have hyf3 := hyf (n * 4 + 3)
                have HQ : Hid (∀ q, OfM w (S ++ [y a5 c5]) (.slice (some ⟨g, 0, none⟩) (n + 1) c6) (w6.drewN q)) := fun q => ⟨HM6.out.row.same fun _ _ => rfl, fun x hx => by obtain ⟨g1, h1, n1⟩ := HM6.out.dat x hx; exact ⟨g1, h1.same fun _ _ => rfl, n1⟩, ⟨HM6.out.be.os, HM6.out.be.tape, HM6.out.be.output, HM6.out.be.size, HM6.out.be.block⟩⟩
                have HCC : Hid (cS cur = CS ∧ ((cW cur).toNat : Int) = CW ∧ 12 + nn = N12) := ⟨hCS, hCW, hN12⟩
                clear hr6 hCS hCW hyc hyf hcsb hN8 hN12
                have w32 : IntKind.u32.wrap CS = CS := by rw [IntKind.wrap_u32]; omega
                by_cases hsum : CS = CW
                · subst hsum
                  have HZ : Hid (∀ q, OfI w bs (t + N12) (S ++ [⟨⟨cK cur, cN cur, cD cur, true⟩, a5, c5⟩]) (if cr = N12 then some ⟨b, off, none⟩ else some ⟨b, off + N12, none⟩) (cr - N12) (.slice (some ⟨g, 0, none⟩) (n + 1) c6) ((w6.drewN q).setCell ⟨g, n * 4 + 3, none⟩ (.bool true))) := by
                    intro q
                    have hq := HQ.out q
                    rw [HY2.out, ← HX2.out.2.1] at hq
                    have hf := hq.fin
                    rw [HX2.out.2.1] at hf
                    obtain ⟨hk1, hk2⟩ := HM.out
                    have hk3 := H0.out.1
                    have hk4 := HX2.out.1.tle
                    have hd : bs.drop (t + N12) = cur.drop N12 := by rw [← HX2.out.2.2.1, List.drop_drop]
                    have hr7 : Row ((w6.drewN q).setCell ⟨g, n * 4 + 3, none⟩ (.bool true)) (some ⟨b, off, none⟩) cur := HR.out.1.same fun x hx _ => by
                      cases hx
                      exact (hf.be.block b HR.out.2).trans (HX2.out.1.m.be.block b HR.out.2).symm
                    have hr8 := hr7.cut N12 cr (by rw [HX2.out.2.2.2.1]; omega) (by rw [HX2.out.2.2.2.1]; omega)
                    have hsay := HX2.out.1.say
                    have hcut := ps_cut cur (by rw [HN.out]; omega) hik (by rw [HX2.out.2.2.2.1, HN.out]; omega) (by rw [HCC.out.1, HCC.out.2.1]) []
                    rw [List.append_nil, List.append_nil, HN.out, HCC.out.2.2] at hcut
                    rw [HX2.out.2.2.1, hcut] at hsay
                    refine ⟨by omega, by omega, by omega, ?_, ?_, ?_, hf, ?_, ?_⟩
                    · intro hh
                      split at hh <;> cases hh
                    · rw [hd]
                      simp only [Option.map_some, Addr.add_lit] at hr8
                      exact hr8
                    · intro x hx _
                      split at hx <;> (cases hx; exact HR.out.2)
                    · rw [hsay, hd, List.map_append, List.append_assoc, HN.out]
                      rfl
                    · rw [List.length_append]
                      have := HX2.out.1.sn
                      simp
                      omega
                  have hj0 : 0 < N12 := by have := HCC.out.2.2; omega
                  clear HQ
                  go_region_held3 (fun u => u.cell? ⟨b, off, none⟩ = some (.int .u8 x0) ∧ u.cell? ⟨g, n * 4 + 3, none⟩ = some (.bool false)) (go_keep) (first
                    | (go_at_call 21; refine Calls.mono (HNm.out _) ?_; rintro e wq ⟨rfl, hwq⟩; rw [hwq]; clear hwq)
                    | (go_at_call 23; refine Calls.mono (HOf.out _) ?_; rintro e wq ⟨rfl, hwq⟩; rw [hwq]; clear hwq)
                    | fail)
                  all_goals
                    by_cases hcc : cr = N12
                    · have HZ2 : Hid (∀ q, OfI w bs (t + N12) (S ++ [⟨⟨cK cur, cN cur, cD cur, true⟩, a5, c5⟩]) (some ⟨b, off, none⟩) (cr - N12) (.slice (some ⟨g, 0, none⟩) (n + 1) c6) ((w6.drewN q).setCell ⟨g, n * 4 + 3, none⟩ (.bool true))) := by
                        have := HZ.out
                        rw [if_pos hcc] at this
                        exact this
                      clear HZ HNm HOf
                      have HMN : Hid (M = N12) := by show _ = _; omega
                      subst hcc
                      obtain rfl : M = cr := HMN.out
                      clear HMN
                      go_wp2
                      go_roundg (m - (t + M))
                      case rel => exact ⟨t + M, _, _, _, n + 1, c6, rfl, ⟨by rw [show m - (t + M) = M - M by have := HM.out; omega, Nat.sub_self], by have := HM.out; omega⟩, ⟨_, by rw [List.length_append, HX2.out.2.1]; rfl, HZ2.out _⟩⟩
                      case measure => have := HM.out; omega
                    · have hcci : ¬ (cr : Int) = (N12 : Int) := by omega
                      have HZ2 : Hid (∀ q, OfI w bs (t + N12) (S ++ [⟨⟨cK cur, cN cur, cD cur, true⟩, a5, c5⟩]) (some ⟨b, off + N12, none⟩) (cr - N12) (.slice (some ⟨g, 0, none⟩) (n + 1) c6) ((w6.drewN q).setCell ⟨g, n * 4 + 3, none⟩ (.bool true))) := by
                        have := HZ.out
                        rw [if_neg hcc] at this
                        exact this
                      clear HZ HNm HOf
                      go_wp2
                      go_roundg (m - (t + N12))
                      case rel => exact ⟨t + N12, _, _, _, n + 1, c6, rfl, ⟨by rw [show m - (t + N12) = M - N12 by have := HM.out; omega], by have := HM.out; omega⟩, ⟨_, by rw [List.length_append, HX2.out.2.1]; rfl, HZ2.out _⟩⟩
                      case measure => have := HM.out; omega
                · have q1 : (CS == CW) = false := by simpa using hsum
                  have q2 : (CS != CW) = true := by simpa using hsum
                  have HF : Hid (∀ q, OfP w bs (.returned (.tuple #[.slice (some ⟨g, 0, none⟩) (n + 1) c6, .int .i64 4])) (w6.drewN q)) := by
                    intro q
                    have e := HX2.out.1.say
                    rw [HX2.out.2.2.1, ps_sum (by rw [HN.out]; omega) hik (by rw [HX2.out.2.2.2.1, HN.out]; omega) (by rw [HCC.out.1, HCC.out.2.1]; exact hsum)] at e
                    exact ⟨_, _, by rw [e], HQ.out q, by rw [e, List.map_append, HY2.out]; rfl⟩
                  go_region_held3 (fun u => u.cell? ⟨b, off, none⟩ = some (.int .u8 x0) ∧ u.cell? ⟨g, n * 4 + 3, none⟩ = some (.bool false)) (go_keep) (first
                    | (go_at_call 21; refine Calls.mono (HNm.out _) ?_; rintro e wq ⟨rfl, hwq⟩; rw [hwq]; clear hwq)
                    | (go_at_call 23; refine Calls.mono (HOf.out _) ?_; rintro e wq ⟨rfl, hwq⟩; rw [hwq]; clear hwq)
                    | fail)
                  all_goals
                    go_wp2
                    go_ret2
                    exact HF.out _
end Go.Proofs.Ytoofpkcgiodfcaa
