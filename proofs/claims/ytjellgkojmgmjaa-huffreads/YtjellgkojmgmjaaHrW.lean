import Derived.Test.YtjellgkojmgmjaaHkB
import Derived.Test.YtjellgkojmgmjaaHiC
namespace Go.Proofs.Ytjellgkojmgmjaa
open Go.RowKit

theorem checkV_yes2 {ls : List Int} (h1 : okLens ls = true) (h2 : wholeB ls = true) : checkV ls = 0 := by unfold checkV; rw [h1, h2]; rfl
theorem checkV_no2 {ls : List Int} (h : (okLens ls && wholeB ls) = false) : checkV ls = if okLens ls then 5 else 1 := by
  unfold checkV
  cases h1 : okLens ls with
  | false => rfl
  | true => rw [h1, Bool.true_and] at h; rw [h]; rfl
def slLen : Value → Nat
  | .slice _ n _ => n
  | _ => 0
/-- What the reference may answer. -/
theorem refN_facts {ns : List Nat} (hc : Cd ns) (l : List Int) : (∃ t : Int, ∃ n : Nat, refN (wds ns) l = (t, n, 0) ∧ 1 ≤ n ∧ n ≤ l.length) ∨ (refN (wds ns) l = (0, 0, 2)) ∨ (refN (wds ns) l = (0, 0, 6)) := by
  unfold refN
  cases hf : (wds ns).find? (fun p => bgB p.2 l) with
  | some p =>
    left
    obtain ⟨s, hs⟩ := hc.wds.1 (List.mem_of_find?_eq_some hf)
    have hb := List.find?_some hf
    refine ⟨_, _, rfl, ?_, bgB_len hb⟩
    rw [hs.2, mb_len]
    exact Nat.pos_of_ne_zero hs.1
  | none =>
    right
    simp only
    by_cases h : l = []
    · rw [if_pos h]; exact .inl rfl
    · rw [if_neg h]
      cases ((wds ns).any fun p => bgB l p.2) with
      | true => exact .inl rfl
      | false => exact .inr rfl
def RdRel (w4 : World) (r : Nat) (g : Option Nat) (LB : List Int) (v : Value) (wr : World) : Prop :=
  ∃ (zs : List Int) (gone at' : Nat) (gl : Option Nat), Sl w4 3 v gl (ivals (LB.drop at')) ∧ Rd wr r g zs gone ∧ RI zs gone LB at' ∧ Below w4.heap.size w4 wr
theorem ivals_drop (l : List Int) (k : Nat) : ivals (l.drop k) = (ivals l).drop k := by simp [ivals]
theorem IRow.grown {w w' : World} {a : Option Addr} {l : List Int} (h : IRow w a l) (hb : Below w.heap.size w w') : IRow w' a l := h.old hb

set_option maxHeartbeats 3200000 in
set_option maxRecDepth 20000 in
theorem hreads_walk (a : Option Addr) (len cap : Nat) (a2 : Option Addr) (len2 cap2 : Nat) (w : World) (h : IArg w a len cap) (h2 : BArg w a2 len2 cap2) :
    Calls Try.prog 4 #[.slice a len cap, .slice a2 len2 cap2] w fun e w' => e = .returned (.bool true) ∧ Below w.heap.size w w' := by
  obtain ⟨ls, hl, hc, hcap, _, hrow⟩ := h
  obtain ⟨bs, hby, hl2, hc2, hcap2, hnone, hrow2⟩ := h2
  have HR : Hid (IRow w a ls) := hrow
  have HL : Hid (ls.length = len) := hl
  have HR2 : Hid (Row w a2 bs) := hrow2
  have HL2 : Hid (bs.length = len2) := hl2
  have HBY : Hid (Bytes bs) := hby
  have HNO : Hid (a2 = none → cap2 = 0) := hnone
  clear hrow hl hrow2 hl2 hby hnone
  go_enter Try.func4, Try.ntmps4
  go_wp2_with fail
  refine (fixed_any _).mono ?_
  rintro e w1 ⟨rfl, hb1⟩
  have HB1 : Hid (Below w.heap.size w w1) := hb1
  clear hb1
  go_wp2_with fail
  refine (new_all a len cap ls w1 HL.out (by omega) (HR.out.old HB1.out)).mono ?_
  rintro e w2 (⟨hok, hwh, c, rfl, hcw, hco, hb2⟩ | ⟨f, hf, hno, rfl, hw2⟩)
  · have HB2 : Hid (Below w.heap.size w w2) := HB1.out.trans (hb2.mono HB1.out.size)
    have HCD : Hid (Cd (ls.map Int.toNat)) := whole_cd hok hwh
    have HE : Hid (ints (ls.map Int.toNat) = ls) := ints_toNat hok
    have HNL : Hid ((ls.map Int.toNat).length = len) := by show _ = _; rw [List.length_map]; exact HL.out
    have HCV : Hid (checkV ls = 0) := checkV_yes2 hok hwh
    clear hcw hb2 hok hwh HB1
    go_wp2_with fail
    refine (check_any a len cap ls w2 HL.out (by omega) (HR.out.old HB2.out)).mono ?_
    rintro e w3 ⟨rfl, hw3⟩
    rw [hw3, HCV.out]
    clear hw3 HCV
    obtain ⟨ns, hns⟩ : ∃ ns, ls.map Int.toNat = ns := ⟨_, rfl⟩
    rw [hns] at hco HCD HE HNL
    have HCO : Hid (CodeAt w2 c ns) := hco
    have HRI : Hid (IRow w a (ints ns)) := by rw [HE.out]; exact HR.out
    have hl288 : len ≤ 288 := by rw [← HNL.out]; exact HCD.out.few
    clear hns hco HR HE HL
    by_cases h200 : 200 < len2
    · have hz : (200 : Int) < (len2 : Int) := by omega
      go_wp2
      go_ret
      exact ⟨rfl, HB2.out⟩
    · have hz : decide ((200 : Int) < (len2 : Int)) = false := by simp; omega
      go_wp2_with fail
      refine (words_any a len cap ns w2 HNL.out HCD.out (HRI.out.old HB2.out)).mono ?_
      rintro e w3 ⟨v3, xs, rfl, hq, hps, hb3⟩
      obtain ⟨ad, cp, hsh⟩ := hq.shape
      subst hsh
      obtain ⟨L, hL⟩ : ∃ L, xs.length = L := ⟨_, rfl⟩
      have HLL : Hid (xs.length = L) := hL
      have hxl : L ≤ 1000000 := by
        have h1 := All2.len hps
        rw [HCD.out.wds_len] at h1
        have h2 : (ns.countP fun k => decide (0 < k)) ≤ ns.length := List.countP_le_length
        have := HNL.out
        omega
      rw [hL] at hq ⊢
      have HQ : Hid (QRow w3 w2.heap.size (.slice ad L cp) xs ∧ PS w3 xs (wds ns)) := ⟨hq, hps⟩
      have HB3 : Hid (Below w2.heap.size w2 w3) := hb3
      clear hq hps hb3 hL
      have HBX : Hid (Below w.heap.size w w3) := HB2.out.trans (HB3.out.mono HB2.out.size)
      go_wp2_with fail
      refine (bits_any a2 len2 cap2 bs w3 HL2.out (by omega) HBY.out (HR2.out.old HBX.out)).mono ?_
      rintro e w4 ⟨a4, c4, g4, rfl, hsl4, _, hb4⟩
      have HS4 : Hid (Sl w4 3 (.slice a4 (bitsL bs).length c4) g4 (ivals (bitsL bs))) := hsl4
      have HB4 : Hid (Below w3.heap.size w3 w4) := hb4
      have HBY4 : Hid (Below w.heap.size w w4) := HBX.out.trans (HB4.out.mono HBX.out.size)
      have HLB : Hid ((bitsL bs).length ≤ 1600) := by show _ ≤ _; rw [bitsL_len, HL2.out]; omega
      clear hsl4 hb4 HBX
      go_wp2_with fail
      refine (reader_any a2 len2 cap2 bs w4 HL2.out HNO.out (HR2.out.old HBY4.out) (by omega)).mono ?_
      rintro e w5 ⟨r, g, rfl, hrd, hrr, hgg, hb5⟩
      have HS : Hid (RdRel w4 r g (bitsL bs) (.slice a4 (bitsL bs).length c4) w5) := ⟨bs, 0, 0, g4, by rw [List.drop_zero]; exact HS4.out, hrd, ⟨HBY.out, bitsL_bit bs, Nat.zero_le _, by rw [bitsL_len]; omega, rfl, rfl⟩, hb5⟩
      have HRG : Hid (w4.heap.size ≤ r ∧ ∀ k, g = some k → w4.heap.size ≤ k) := ⟨hrr, hgg⟩
      have HC4 : Hid (CodeAt w4 c ns) := HCO.out.old (HB3.out.trans (HB4.out.mono HB3.out.size))
      have HQ4 : Hid (QRow w4 w2.heap.size (.slice ad L cp) xs ∧ PS w4 xs (wds ns)) := ⟨HQ.out.1.kept HB4.out, PS.old HQ.out.2 HB4.out⟩
      clear hrd hrr hgg hb5 HS4 HCO HQ HB3 HB4 HB2
      obtain ⟨LB, hLB⟩ : ∃ LB, bitsL bs = LB := ⟨_, rfl⟩
      rw [hLB] at HS HLB ⊢
      clear hLB
      go_wp2
      go_loopw [8] (fun v wr => RdRel w4 r g LB v wr) (fun v _ => slLen v)
      case atStart => exact HS.out
      case round =>
        clear HS
        obtain ⟨zs, gone, at', gl, hsl, hrd, hri, hbel⟩ := hrel
        obtain ⟨al, cl, hv, hcl1, hcl2, _⟩ := hsl.shape
        rw [ivals_len] at hv hcl1
        subst hv
        obtain ⟨hl1, hl2', hl3⟩ := hri.len
        have HZL : Hid (zs.length ≤ 1600) := (by have := HLB.out; have := hri.le; omega : zs.length ≤ 1600)
        have HDL : Hid ((LB.drop at').length = 8 * zs.length - gone) := by show _ = _; rw [List.length_drop]; omega
        obtain ⟨M, hM⟩ : ∃ M, (LB.drop at').length = M := ⟨_, rfl⟩
        have HM : Hid ((LB.drop at').length = M) := hM
        have hM2 : M ≤ 1600 := by rw [← hM, List.length_drop]; have := HLB.out; omega
        rw [hM] at hsl hcl1 HDL ⊢
        have HX : Hid (nxt ns (bitF zs gone) (8 * zs.length - gone) 15 0 = ((refN (wds ns) (LB.drop at')).1, (refN (wds ns) (LB.drop at')).2.2, (refN (wds ns) (LB.drop at')).2.1)) := by
          have := nxt_ref HCD.out (nb := bitF zs gone) (bitF_lt zs gone) (L := LB.drop at') (fun i hi => by
            rw [List.getElem?_drop, hri.look i (by rw [hM, HDL.out] at hi; omega), bitF_int]) 15 0 (by omega) (Nat.zero_le _) (fun s h1 h2 => by omega) (.inl rfl)
          rw [hM, HDL.out] at this
          exact this
        have HSL : Hid (Sl w4 3 (.slice al M cl) gl (ivals (LB.drop at'))) := hsl
        have HRD : Hid (Rd wr r g zs gone) := hrd
        have HRIR : Hid (RI zs gone LB at' ∧ gone < 8 ∧ gone ≤ 8 * zs.length) := ⟨hri, hl3, hl2'⟩
        have HBL : Hid (Below w4.heap.size w4 wr) := hbel
        clear hsl hrd hri hbel hM hl1 hl2' hl3
        go_wp2_with fail
        refine (next_any c r g ns zs gone wr (HC4.out.old HBL.out) HCD.out HRD.out HRIR.out.1.byt (by have := HZL.out; omega) HRIR.out.2.1 HRIR.out.2.2).mono ?_
        rintro e w6 ⟨rfl, hrd6, hf6⟩
        rw [HX.out] at hrd6 ⊢
        have HB6 : Hid (Below w4.heap.size w4 w6) := Fr.below HBL.out hf6 HRG.out.1 HRG.out.2 HBL.out.size
        have HRD6 : Hid (Rd w6 r g (zs.drop ((gone + (refN (wds ns) (LB.drop at')).2.1) / 8)) ((gone + (refN (wds ns) (LB.drop at')).2.1) % 8)) := hrd6
        clear hrd6 hf6 HX HBL HRD
        go_wp2_with fail
        refine (refNext_any w2.heap.size ad cp xs (wds ns) al M cl (LB.drop at') w6 L HLL.out (HQ4.out.1.kept HB6.out) (PS.old HQ4.out.2 HB6.out) HM.out ((HSL.out.irow rfl).old HB6.out) (by omega) hxl ?_).mono ?_
        · intro p hp
          obtain ⟨s, hs⟩ := HCD.out.wds.1 hp
          rw [hs.2, mb_len]
          have := HCD.out.le s
          omega
        rintro e w7 ⟨rfl, hb7⟩
        have HB7 : Hid (Below w4.heap.size w4 w7) := HB6.out.trans (hb7.mono HB6.out.size)
        have HRD7 := HRD6.out.old hb7
        have HRD7 : Hid (Rd w7 r g (zs.drop ((gone + (refN (wds ns) (LB.drop at')).2.1) / 8)) ((gone + (refN (wds ns) (LB.drop at')).2.1) % 8)) := HRD7
        clear hb7 HB6 HRD6
        have HBW : Hid (Below w.heap.size w w7) := HBY4.out.trans (HB7.out.mono HBY4.out.size)
        rcases refN_facts HCD.out (LB.drop at') with ⟨t, n, he, hn1, hn2⟩ | hE | hE
        · rw [he] at HRD7 ⊢
          have hnM : n ≤ M := by rw [← HM.out]; exact hn2
          have HRI7 : Hid (RI (zs.drop ((gone + n) / 8)) ((gone + n) % 8) LB (at' + n)) := HRIR.out.1.pass n (by have := HDL.out; have := HRIR.out.2.2; omega)
          have HVL : Hid (((zs.drop ((gone + n) / 8)).length : Int) * 8 - (((gone + n) % 8 : Nat) : Int) = ((M - n : Nat) : Int)) := by
            have h1 := HRI7.out.len
            have h2 := HRIR.out.1.le
            have h3 := HM.out
            have h4 := HRI7.out.le
            rw [List.length_drop] at h3
            show _ = _
            omega
          have HHV : Hid (∀ W, W = w7 → Calls Try.prog 19 #[.pointer (some ⟨r, 0, none⟩)] W fun e w' => e = .returned (.int .i64 ((M - n : Nat) : Int)) ∧ ∃ n, w' = w7.drewN n) := by
            rintro W rfl
            have C := have_any r g _ _ W HRD7.out (by rw [List.length_drop]; have := HZL.out; omega) (by omega)
            rw [HVL.out] at C
            exact C
          have hs2 := HSL.out.cut n (by rw [ivals_len]; exact hn2) (by rw [ivals_len]; exact HM.out)
          rw [← ivals_drop, List.drop_drop] at hs2
          by_cases hcn : cl = n
          · rw [if_pos hcn, hcn, Nat.sub_self] at hs2
            have HS2 : Hid (Sl w4 3 (.slice al (M - n) 0) gl (ivals (LB.drop (at' + n)))) := hs2
            clear hs2 HSL he hn2 HVL
            have hclM : M ≤ cl := hcl1
            unfold maxLen at hcl2
            go_wp2_with fail
            refine (HHV.out _ rfl).mono ?_
            rintro e w8 ⟨rfl, n8, hw8⟩
            have R : Hid (RdRel w4 r g LB (.slice al (M - n) 0) w8) := by
              rw [hw8]
              exact ⟨_, _, _, gl, HS2.out, HRD7.out.drewN n8, HRI7.out, below_drewN' HB7.out n8⟩
            clear hw8 HS2 HRD7 HRI7
            go_wp2
            go_roundw
            case rel => exact R.out
            case measure => simp [slLen]; omega
          · rw [if_neg hcn] at hs2
            have HS2 : Hid (Sl w4 3 (.slice (Option.map (fun x => x.add n) al) (M - n) (cl - n)) gl (ivals (LB.drop (at' + n)))) := hs2
            clear hs2 HSL he hn2 HVL
            have hclM : M ≤ cl := hcl1
            unfold maxLen at hcl2
            go_wp2_with fail
            refine (HHV.out _ rfl).mono ?_
            rintro e w8 ⟨rfl, n8, hw8⟩
            have R : Hid (RdRel w4 r g LB (.slice (Option.map (fun x => x.add n) al) (M - n) (cl - n)) w8) := by
              rw [hw8]
              exact ⟨_, _, _, gl, HS2.out, HRD7.out.drewN n8, HRI7.out, below_drewN' HB7.out n8⟩
            clear hw8 HS2 HRD7 HRI7
            go_wp2
            go_roundw
            case rel => exact R.out
            case measure => simp [slLen]; omega
        · rw [hE] at HRD7 ⊢
          have HVL : Hid (((zs.drop ((gone + 0) / 8)).length : Int) * 8 - (((gone + 0) % 8 : Nat) : Int) = (M : Int)) := by
            have h1 := HRIR.out.2.1
            have h2 := HRIR.out.2.2
            have h3 := HDL.out
            rw [show (gone + 0) / 8 = 0 by omega, show (gone + 0) % 8 = gone by omega, List.drop_zero]
            show _ = _
            omega
          have HHV : Hid (∀ W, W = w7 → Calls Try.prog 19 #[.pointer (some ⟨r, 0, none⟩)] W fun e w' => e = .returned (.int .i64 (M : Int)) ∧ ∃ n, w' = w7.drewN n) := by
            rintro W rfl
            have C := have_any r g _ _ W HRD7.out (by rw [List.length_drop]; have := HZL.out; omega) (by omega)
            rw [HVL.out] at C
            exact C
          clear HVL HRD7 hE
          go_wp2_with fail
          refine (HHV.out _ rfl).mono ?_
          rintro e w8 ⟨rfl, n8, hw8⟩
          have HBZ : Hid (Below w.heap.size w w8) := by rw [hw8]; exact below_drewN' HBW.out n8
          clear hw8
          go_wp2
          go_ret
          exact ⟨by simp, HBZ.out⟩
        · rw [hE] at HRD7 ⊢
          have HVL : Hid (((zs.drop ((gone + 0) / 8)).length : Int) * 8 - (((gone + 0) % 8 : Nat) : Int) = (M : Int)) := by
            have h1 := HRIR.out.2.1
            have h2 := HRIR.out.2.2
            have h3 := HDL.out
            rw [show (gone + 0) / 8 = 0 by omega, show (gone + 0) % 8 = gone by omega, List.drop_zero]
            show _ = _
            omega
          have HHV : Hid (∀ W, W = w7 → Calls Try.prog 19 #[.pointer (some ⟨r, 0, none⟩)] W fun e w' => e = .returned (.int .i64 (M : Int)) ∧ ∃ n, w' = w7.drewN n) := by
            rintro W rfl
            have C := have_any r g _ _ W HRD7.out (by rw [List.length_drop]; have := HZL.out; omega) (by omega)
            rw [HVL.out] at C
            exact C
          clear HVL HRD7 hE
          go_wp2_with fail
          refine (HHV.out _ rfl).mono ?_
          rintro e w8 ⟨rfl, n8, hw8⟩
          have HBZ : Hid (Below w.heap.size w w8) := by rw [hw8]; exact below_drewN' HBW.out n8
          clear hw8
          go_wp2
          go_ret
          exact ⟨by simp, HBZ.out⟩
  · rw [hw2]
    have HCV : Hid (checkV ls = f) := by show _ = _; rw [hf]; exact checkV_no2 hno
    have hf2 : f = 5 ∨ f = 1 := by
      rw [hf]
      cases okLens ls with
      | true => exact .inl rfl
      | false => exact .inr rfl
    clear hw2 hf hno
    go_wp2_with fail
    refine (check_any a len cap ls w1 HL.out (by omega) (HR.out.old HB1.out)).mono ?_
    rintro e w3 ⟨rfl, hw3⟩
    rw [hw3, HCV.out]
    clear hw3 HCV
    rcases hf2 with rfl | rfl
    · go_wp2
      go_ret
      exact ⟨rfl, HB1.out⟩
    · go_wp2
      go_ret
      exact ⟨rfl, HB1.out⟩
end Go.Proofs.Ytjellgkojmgmjaa
