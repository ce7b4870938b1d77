/- A chunk of which bits are turned: the law. -/
import Derived.Test.YtoofpkcgiodfcaaCq1
namespace Go.Proofs.Ytoofpkcgiodfcaa
open Go.RowKit
theorem ckArg_one (w : World) (s : Nat) (hs : s = w.heap.size) (kd : ByteArray) (fa : Option Addr) (Z fc : Nat) (z : List Int) (hZ : z.length = Z) (hp : PtOk w ⟨fa, fc, z⟩) : CkArg (w.alloc (.cells #[.string kd, .slice fa Z fc] 40)) (some ⟨s, 0, none⟩) 1 1 (fun _ => ⟨kd, fa, fc, z⟩) := by
  subst hs hZ
  refine ⟨Nat.le_refl _, by unfold maxLen; omega, fun _ => ⟨_, 0, rfl, fun i hi => ?_⟩⟩
  obtain rfl : i = 0 := by omega
  exact ⟨by rw [World.cell?_alloc_mark]; rfl, by rw [World.cell?_alloc_mark]; rfl, hp.old ((Below.refl _ _).alloc (Nat.le_refl _) _)⟩
theorem packB_one (kd : ByteArray) (fa : Option Addr) (fc : Nat) (z : List Int) : packB (fun _ => ⟨kd, fa, fc, z⟩) 1 = first8 ++ chB (kb kd) z := rfl
set_option maxHeartbeats 6400000 in
set_option maxRecDepth 20000 in
theorem cturned_walk (kd : ByteArray) (fa : Option Addr) (Z fc : Nat) (z : List Int) (A : Nat) (X : BitVec 32) (w : World) (hZ : z.length = Z) (hp : 2000 < Z ∨ PtOk w ⟨fa, fc, z⟩) (hA : A < 65536) :
    Calls Try.prog 6 #[.agg #[.string kd, .slice fa Z fc], .int .u16 A, .int .u32 (X.toNat : Int)] w fun e w' => e = .returned (.bool true) ∧ Below w.heap.size w w' := by
  obtain ⟨w0, hw0⟩ : ∃ w0, w.alloc (.cells #[.string kd, .slice fa Z fc] 40) = w0 := ⟨_, rfl⟩
  have b0 : Below w.heap.size w w0 := by rw [← hw0]; exact (Below.refl _ _).alloc (Nat.le_refl _) _
  have hV0 : w0.heap[w.heap.size]? = some (.cells #[.string kd, .slice fa Z fc] 40 (0, 0)) := by rw [← hw0]; exact heap_alloc_new _ _
  have C := kfixed_any w0
  have HP0 : Hid ((2000 < Z ∨ PtOk w ⟨fa, fc, z⟩) ∧ z.length = Z) := ⟨hp, hZ⟩
  have H0 : Hid (Below w.heap.size w w0 ∧ w0.heap[w.heap.size]? = some (.cells #[.string kd, .slice fa Z fc] 40 (0, 0))) := ⟨b0, hV0⟩
  clear hp hZ b0 hV0
  go_enter Try.func6, Try.ntmps6
  go_wp2_with fail
  refine C.mono ?_
  clear C
  rintro e w1 ⟨rfl, hb1⟩
  have hV1 : w1.heap[w.heap.size]? = some (.cells #[.string kd, .slice fa Z fc] 40 (0, 0)) := (hb1.block _ (lt_of_block H0.out.2)).trans H0.out.2
  have hb01 : Below w.heap.size w w1 := chainB H0.out.1 hb1 H0.out.1.size
  obtain ⟨c0, c1⟩ := two_cellsT hV1
  have H1 : Hid (Below w.heap.size w w1 ∧ w1.heap[w.heap.size]? = some (.cells #[.string kd, .slice fa Z fc] 40 (0, 0))) := ⟨hb01, hV1⟩
  clear hb1 hV1 hb01 H0 hw0
  by_cases hZ2 : 2000 < Z
  · have hZi : (2000 : Int) < (Z : Int) := by omega
    go_wp2
    go_ret
    exact ⟨rfl, H1.out.1⟩
  · have hZi : ¬ (2000 : Int) < (Z : Int) := by omega
    have HP : Hid (PtOk w ⟨fa, fc, z⟩ ∧ z.length = Z) := ⟨HP0.out.1.resolve_left hZ2, HP0.out.2⟩
    clear HP0
    have C2 := pack_any (some ⟨w1.heap.size, 0, none⟩) 1 1 (fun _ => ⟨kd, fa, fc, z⟩) _ (by omega) (by show 0 + z.length ≤ _; have := HP.out.2; omega) (ckArg_one w1 _ rfl kd fa Z fc z HP.out.2 (HP.out.1.old H1.out.1))
    obtain ⟨w1a, hw1a⟩ : ∃ w1a, w1.alloc (.cells #[.string kd, .slice fa Z fc] 40) = w1a := ⟨_, rfl⟩
    rw [hw1a] at C2
    have H1a : Hid (Below w1.heap.size w1 w1a) := by rw [← hw1a]; exact (Below.refl _ _).alloc (Nat.le_refl _) _
    go_wp2_with fail
    refine C2.mono ?_
    clear C2
    rintro e w2 ⟨hb2, hy2, hn2⟩
    have hb12 : Below w.heap.size w w2 := chainB (chainB H1.out.1 H1a.out H1.out.1.size) hb2 (Nat.le_trans H1.out.1.size H1a.out.size)
    by_cases hk : isK (kb kd) = true
    · obtain ⟨a2, c2, rfl, hl2, hm2, hnn2, hr2, hg2, hs2⟩ := hy2 (fun i _ => hk)
      obtain ⟨g2, hs2, hgn2⟩ := hs2 (by omega)
      rw [packB_one] at hl2 hr2 hs2 ⊢
      have h4 : (kb kd).length = 4 := by simp only [isK, Bool.and_eq_true, decide_eq_true_eq] at hk; exact hk.1
      have hRl : (first8 ++ chB (kb kd) z).length = 20 + Z := by rw [List.length_append, chB_len, h4, HP.out.2]; show 8 + _ = _; omega
      rw [hRl] at hl2 hs2 ⊢
      rcases hs2 with ⟨hv, _⟩ | ⟨b2, o2, cap2, cur2, hv, rfl, hh2, hb2a, hb2b, hb2c, hcur⟩
      · simp only [Value.slice.injEq] at hv; omega
      simp only [Value.slice.injEq] at hv
      obtain ⟨rfl, hv2, rfl⟩ := hv
      clear hv2
      have hS2 : Sl w2 5 (.slice (some ⟨b2, o2, none⟩) (20 + Z) c2) (some b2) (vals (first8 ++ chB (kb kd) z)) := .inr ⟨b2, o2, c2, cur2, by rw [vals_len, hRl], rfl, hh2, hb2a, hb2b, hb2c, hcur⟩
      obtain ⟨P12, hP12⟩ : ∃ P12, first8 ++ (octs (z.length : Int) 4).reverse = P12 := ⟨_, rfl⟩
      obtain ⟨S4, hS4⟩ : ∃ S4, (octs ((crcM (BitVec.ofNat 32 0) (kb kd ++ z)).toNat : Int) 4).reverse = S4 := ⟨_, rfl⟩
      have hR : first8 ++ chB (kb kd) z = P12 ++ ((kb kd ++ z) ++ S4) := by unfold chB; rw [hS4, ← hP12]; simp
      have HP12 : Hid (P12.length = 12 ∧ Bytes P12) := by rw [← hP12]; exact ⟨by rw [List.length_append, List.length_reverse, octs_len]; rfl, (bytes_of_all (by decide)).app (bytes_rev (octs_bytes _ _))⟩
      have hS4l : S4.length = 4 ∧ Bytes S4 := by rw [← hS4]; exact ⟨by rw [List.length_reverse, octs_len], bytes_rev (octs_bytes _ _)⟩
      have hkz : (kb kd ++ z).length = 4 + Z := by rw [List.length_append, h4, HP.out.2]
      have hkzb : Bytes (kb kd ++ z) := (kb_bytes kd).app HP.out.1.1
      rw [hR] at hS2 hr2
      have hrB : Row w2 (some ⟨b2, o2 + 12, none⟩) (kb kd ++ z) := by
        have h1 := hr2.cut 12 c2 (by rw [List.length_append, HP12.out.1]; omega) (by rw [← hR, hRl]; exact hl2)
        rw [if_neg (by omega), List.drop_left' HP12.out.1] at h1
        have h2 := h1.take (4 + Z)
        rw [List.take_left' hkz] at h2
        simpa [Addr.add_lit] using h2
      obtain ⟨KK, hKK⟩ : ∃ KK, A % (8 * (4 + Z)) = KK := ⟨_, rfl⟩
      have hKi : (A : Int) % (8 * (20 + (Z : Int) - 16)) = (KK : Int) := by rw [← hKK, show (8 * (20 + (Z : Int) - 16)) = ((8 * (4 + Z) : Nat) : Int) by omega]; exact (Int.natCast_emod _ _).symm
      have hKlt : KK < 65536 := by rw [← hKK]; exact Nat.lt_of_le_of_lt (Nat.mod_le _ _) hA
      have CT := turned_any (some ⟨b2, o2 + 12, none⟩) (20 + Z - 4 - 12) (c2 - 12) KK X (kb kd ++ z) w2 (by rw [hkz]; omega) (by omega) (by omega) hkzb hrB
      have H2 : Hid (Below w.heap.size w w2 ∧ w2.heap[w.heap.size]? = some (.cells #[.string kd, .slice fa Z fc] 40 (0, 0)) ∧ Sl w2 5 (.slice (some ⟨b2, o2, none⟩) (20 + Z) c2) (some b2) (vals (P12 ++ ((kb kd ++ z) ++ S4))) ∧ w.heap.size < b2) := by
        have e1 : w.heap.size < w1.heap.size := lt_of_block H1.out.2
        have e2 := hgn2 b2 rfl
        have e3 := H1a.out.size
        refine ⟨hb12, ?_, hS2, by omega⟩
        rw [hb2.block _ (by omega), H1a.out.block _ e1]
        exact H1.out.2
      have HK : Hid (isK (kb kd) = true ∧ S4.length = 4 ∧ Bytes S4 ∧ (kb kd ++ z).length = 4 + Z ∧ Bytes (kb kd ++ z) ∧ first8 ++ (octs (z.length : Int) 4).reverse = P12 ∧ (octs ((crcM (BitVec.ofNat 32 0) (kb kd ++ z)).toNat : Int) 4).reverse = S4) := ⟨hk, hS4l.1, hS4l.2, hkz, hkzb, hP12, hS4⟩
      have hl2i : (20 : Int) + Z ≤ c2 := by omega
      clear hb2 hy2 hn2 hb12 hm2 hnn2 hr2 hg2 hgn2 hh2 hb2a hb2b hb2c hcur hS2 hR hRl h4 hk hP12 hS4 hS4l hkz hkzb hrB H1 H1a hw1a c0 c1
      go_wp2_with fail
      refine CT.mono ?_
      clear CT
      rintro e w3 ⟨ab, cb, rfl, hlb, hmb, hcb, hrb, hb3⟩
      have hbl : (turnB (kb kd ++ z) KK (wbit X)).length = 4 + Z := by rw [turnB_len]; exact HK.out.2.2.2.1
      rw [hbl] at hlb
      rw [hbl]
      have H3 : Hid (Below w.heap.size w w3 ∧ w3.heap[w.heap.size]? = some (.cells #[.string kd, .slice fa Z fc] 40 (0, 0)) ∧ Sl w3 5 (.slice (some ⟨b2, o2, none⟩) (20 + Z) c2) (some b2) (vals (P12 ++ ((kb kd ++ z) ++ S4))) ∧ Row w3 ab (turnB (kb kd ++ z) KK (wbit X))) :=
        ⟨chainB H2.out.1 hb3 H2.out.1.size, (hb3.block _ (lt_of_block H2.out.2.1)).trans H2.out.2.1, H2.out.2.2.1.same fun k hk => hb3.block k (H2.out.2.2.1.lt hk), hrb⟩
      clear hrb hb3 hmb
      by_cases h1c : 8 * (20 + (Z : Int) - 16) - 32 ≤ (KK : Int)
      · by_cases h2c : (A : Int) % 2 = 1
        · have hrB3 : Row w3 (some ⟨b2, o2 + 12, none⟩) (kb kd ++ z) := by
            have h1 := (H3.out.2.2.1.row rfl).cut 12 c2 (by rw [List.length_append, HP12.out.1]; omega) (by rw [List.length_append, List.length_append, HP12.out.1, HK.out.2.2.2.1, HK.out.2.1]; omega)
            rw [if_neg (by omega), List.drop_left' HP12.out.1] at h1
            have h2 := h1.take (4 + Z)
            rw [List.take_left' HK.out.2.2.2.1] at h2
            simpa [Addr.add_lit] using h2
          have HRB : Hid (Row w3 (some ⟨b2, o2 + 12, none⟩) (kb kd ++ z) ∧ (kb kd ++ z).length = 20 + Z - 4 - 12 ∧ w.heap.size < b2) := ⟨hrB3, by rw [HK.out.2.2.2.1]; omega, H2.out.2.2.2⟩
          have e44 : 20 + Z - 4 - 12 = 4 + Z := by omega
          have HE44 : Hid (20 + Z - 4 - 12 = 4 + Z) := e44
          clear hrB3 H2 hbl e44
          go_wp2_with (at_builtin; refine wpList_copy rfl _ _ rfl (some ⟨b2, o2 + 12, none⟩) (20 + Z - 4 - 12) (c2 - 12) (kb kd ++ z) rfl rfl (by intro h; cases h) HRB.out.2.1 HRB.out.1 (by omega) ?_; intro a4 c4 w4 g4 hs4 hn4 hb4; rw [HE44.out]; rw [HE44.out] at hs4)
          have H4 : Hid (Below w.heap.size w w4 ∧ w4.heap[w.heap.size]? = some (.cells #[.string kd, .slice fa Z fc] 40 (0, 0)) ∧ Sl w4 5 (.slice (some ⟨b2, o2, none⟩) (20 + Z) c2) (some b2) (vals (P12 ++ ((kb kd ++ z) ++ S4))) ∧ Sl w4 5 (.slice a4 (4 + Z) c4) g4 (vals (kb kd ++ z)) ∧ (∀ k, g4 = some k → w3.heap.size ≤ k) ∧ b2 < w3.heap.size) :=
            ⟨chainB H3.out.1 hb4 H3.out.1.size, (hb4.block _ (lt_of_block H3.out.2.1)).trans H3.out.2.1, H3.out.2.2.1.same fun k hk => hb4.block k (H3.out.2.2.1.lt hk), hs4, hn4, H3.out.2.2.1.lt rfl⟩
          have hcb4 : a4 = none → c4 = 0 := by
            obtain ⟨a', c', hv, _, _, h⟩ := hs4.shape
            simp only [Value.slice.injEq] at hv
            rw [hv.1, hv.2.2]; exact h
          clear hs4 hn4 hb4 H3 hlb hcb
          go_loopw [11] (fun t wr => ∃ i : Nat, i ≤ 4 ∧ t = .int .i64 i ∧ Hid (∃ s4, s4.length = 4 ∧ Bytes s4 ∧ Sl wr 5 (.slice (some ⟨b2, o2, none⟩) (20 + Z) c2) (some b2) (vals (P12 ++ ((kb kd ++ z) ++ s4))) ∧ Fr w4 wr b2 none)) (fun t _ => 4 - (intOf t).toNat)
          case atStart => exact ⟨0, by omega, rfl, S4, HK.out.2.1, HK.out.2.2.1, H4.out.2.2.1, Fr.refl _ _ _⟩
          case round =>
            obtain ⟨i, hi, rfl, HL⟩ := hrel
            obtain ⟨s4, hs4l, hs4b, hsl, hfr⟩ := HL.out
            have HLL : Hid (s4.length = 4 ∧ Bytes s4 ∧ Sl wr 5 (.slice (some ⟨b2, o2, none⟩) (20 + Z) c2) (some b2) (vals (P12 ++ ((kb kd ++ z) ++ s4))) ∧ Fr w4 wr b2 none) := ⟨hs4l, hs4b, hsl, hfr⟩
            clear HL
            by_cases hlt : i < 4
            · obtain ⟨J, hJ⟩ : ∃ J, 19 + Z - i = J := ⟨_, rfl⟩
              have hJi : (20 + (Z : Int) - 1 - (i : Int)) = (J : Int) := by omega
              have hJl : J < (P12 ++ ((kb kd ++ z) ++ s4)).length := by rw [List.length_append, List.length_append, HP12.out.1, HK.out.2.2.2.1, hs4l]; omega
              have hce := hsl.cell J (by rw [vals_len]; exact hJl)
              rw [vals_at _ _ hJl] at hce
              have hfz := hsl.frozen (o2 + J)
              have hJ20 : (J : Int) < 20 + (Z : Int) := by omega
              have hi8 : (8 * (i : Int)) < 32 := by omega
              obtain ⟨y, hy⟩ : ∃ y, (P12 ++ ((kb kd ++ z) ++ s4))[J]?.getD 0 = y := ⟨_, rfl⟩
              rw [hy] at hce
              have HY : Hid ((P12 ++ ((kb kd ++ z) ++ s4))[J]?.getD 0 = y ∧ 19 + Z - i = J) := ⟨hy, hJ⟩
              have HV : Hid (∀ V : Int, (0 ≤ V ∧ V < 256) → ∃ s5 : List Int, s5.length = 4 ∧ Bytes s5 ∧ Sl (wr.setCell ⟨b2, o2 + J, none⟩ (.int .u8 V)) 5 (.slice (some ⟨b2, o2, none⟩) (20 + Z) c2) (some b2) (vals (P12 ++ ((kb kd ++ z) ++ s5))) ∧ Fr w4 (wr.setCell ⟨b2, o2 + J, none⟩ (.int .u8 V)) b2 none) := by
                intro V hV
                refine ⟨s4.set (3 - i) V, by rw [List.length_set]; exact hs4l, ?_, ?_, hfr.snoc _ _⟩
                · intro q hq
                  rcases List.mem_or_eq_of_mem_set hq with h | h
                  · exact hs4b q h
                  · rw [h]; omega
                · have h1 := hsl.setAt J (.int .u8 V)
                  rw [← vals_set] at h1
                  have h2 : (P12 ++ ((kb kd ++ z) ++ s4)).set J V = P12 ++ ((kb kd ++ z) ++ s4.set (3 - i) V) := by
                    rw [← List.append_assoc, List.set_append_right _ _ (by rw [List.length_append, HP12.out.1, HK.out.2.2.2.1]; omega), List.length_append, HP12.out.1, HK.out.2.2.2.1, show J - (12 + (4 + Z)) = 3 - i by omega, List.append_assoc]
                  rw [h2] at h1
                  exact h1
              have hyb : 0 ≤ y ∧ y < 256 := by
                have hall : Bytes (P12 ++ ((kb kd ++ z) ++ s4)) := HP12.out.2.app (HK.out.2.2.2.2.1.app hs4b)
                rw [← hy]
                have := hall.at J
                omega
              have HXb : Hid (0 ≤ bits .xor .u8 y ((X.toNat : Int) / 2 ^ (8 * i) % 256) ∧ bits .xor .u8 y ((X.toNat : Int) / 2 ^ (8 * i) % 256) < 256) := by
                have hm : 0 ≤ ((X.toNat : Int) / 2 ^ (8 * i) % 256) ∧ ((X.toNat : Int) / 2 ^ (8 * i) % 256) < 256 := by omega
                show _ ∧ _
                rw [u8_xor y _ hyb.1 hyb.2 hm.1 hm.2]
                have := Nat.xor_lt_two_pow (n := 8) (x := y.toNat) (y := ((X.toNat : Int) / 2 ^ (8 * i) % 256).toNat) (by omega) (by omega)
                omega
              clear hsl hfr hs4l hs4b hJl hy hJ
              go_wp2
              go_roundw
              case rel => exact ⟨i + 1, by omega, by go_num, HV.out _ HXb.out⟩
              case measure => simp [intOf]; omega
            · obtain rfl : i = 4 := by omega
              obtain ⟨bodyV, hbV⟩ : ∃ bodyV, kb kd ++ z = bodyV := ⟨_, rfl⟩
              obtain ⟨sumV, hsV⟩ : ∃ sumV, s4 = sumV := ⟨_, rfl⟩
              have HX : Hid (Below w.heap.size w wr ∧ wr.heap[w.heap.size]? = some (.cells #[.string kd, .slice fa Z fc] 40 (0, 0)) ∧ Sl wr 5 (.slice (some ⟨b2, o2, none⟩) (20 + Z) c2) (some b2) (vals (P12 ++ ((kb kd ++ z) ++ sumV))) ∧ Row wr a4 bodyV ∧ bodyV.length = 4 + Z ∧ sumV.length = 4 ∧ ((∃ t f, bodyV = turnB (kb kd ++ z) t f ∧ sumV = S4) ∨ (bodyV = kb kd ++ z ∧ sumV.length = 4 ∧ Bytes sumV)) ∧ Bytes bodyV ∧ Bytes sumV) := by
                rw [← hbV, ← hsV]
                have hw4 : w.heap.size < w4.heap.size := lt_of_block H4.out.2.1
                have hb2 := HRB.out.2.2
                refine ⟨H4.out.1.trans ⟨hfr.os, hfr.tape, hfr.output, hfr.size, fun k hk => hfr.block k (by omega) (by omega) (by simp)⟩, (hfr.block _ hw4 (by omega) (by simp)).trans H4.out.2.1, hsl, ?_, HK.out.2.2.2.1, hs4l, .inr ⟨rfl, hs4l, hs4b⟩, HK.out.2.2.2.2.1, hs4b⟩
                refine (H4.out.2.2.2.1.same fun k hk => hfr.block k (H4.out.2.2.2.1.lt hk) ?_ (by simp)).row rfl
                have := H4.out.2.2.2.2.1 k hk
                have := H4.out.2.2.2.2.2
                omega
              clear hbV hsV hsl hfr hs4l hs4b HLL H4 HRB HE44
              have HRx : Hid (Row wr (some ⟨b2, o2, none⟩) (P12 ++ ((kb kd ++ z) ++ sumV))) := HX.out.2.2.1.row rfl
              have HRt : Hid (Row wr (some ⟨b2, o2, none⟩) P12) := by
                have := HRx.out.take 12
                rw [List.take_left' HP12.out.1] at this
                exact this
              have HRs : Hid (Row wr (some ⟨b2, o2 + (16 + Z), none⟩) sumV) := by
                have h1 := HRx.out.cut (16 + Z) c2 (by rw [List.length_append, List.length_append, HP12.out.1, HK.out.2.2.2.1]; omega) (by rw [List.length_append, List.length_append, HP12.out.1, HK.out.2.2.2.1, HX.out.2.2.2.2.2.1]; omega)
                rw [if_neg (by omega), ← List.append_assoc, List.drop_left' (by rw [List.length_append, HP12.out.1, HK.out.2.2.2.1]; omega)] at h1
                have h2 : Row wr (some ⟨b2, o2 + (16 + Z), none⟩) sumV := by simpa [Addr.add_lit] using h1
                exact h2
              have HBe : Hid (∀ w5, (wr.drew.alloc (.cells #[] 5)).grownBy w5 (some wr.heap.size) → Below wr.heap.size wr w5) := by
                intro w5 hg
                have hsz : (wr.drew.alloc (.cells #[] 5)).heap.size = wr.heap.size + 1 := by simp
                exact ⟨hg.os, hg.tape, hg.output, by have := hg.size; omega, fun k hk => (hg.block k (by omega) (by simp; omega)).trans (((Below.refl wr.heap.size wr.drew).alloc (Nat.le_refl _) (.cells #[] 5)).block k hk)⟩
              have HNe : Hid (∀ g5, (g5 = some wr.heap.size ∨ ∃ k, g5 = some k ∧ (wr.drew.alloc (.cells #[] 5)).heap.size ≤ k) → ∀ k, g5 = some k → wr.heap.size ≤ k) := by
                intro g5 h k hk
                have hsz : (wr.drew.alloc (.cells #[] 5)).heap.size = wr.heap.size + 1 := by simp
                rcases h with h | ⟨j, h, hj⟩
                · rw [h] at hk; cases hk; exact Nat.le_refl _
                · rw [h] at hk; cases hk; omega
              have HBf : Hid (∀ wa wb g, Below wr.heap.size wr wa → (∀ k, g = some k → wr.heap.size ≤ k) → wa.grownBy wb g → Below wr.heap.size wr wb) := by
                intro wa wb g hb hn hg
                exact hb.grown hg hb.size hn
              have HNf : Hid (∀ wa g g', Below wr.heap.size wr wa → (∀ k, g = some k → wr.heap.size ≤ k) → (g' = g ∨ ∃ k, g' = some k ∧ wa.heap.size ≤ k) → ∀ k, g' = some k → wr.heap.size ≤ k) := by
                intro wa g g' hb hn h k hk
                rcases h with h | ⟨j, h, hj⟩
                · exact hn k (h ▸ hk)
                · rw [h] at hk; cases hk; have := hb.size; omega
              obtain ⟨T', hT'⟩ : ∃ T', P12 ++ bodyV ++ sumV = T' := ⟨_, rfl⟩
              have HT : Hid (P12 ++ bodyV ++ sumV = T' ∧ T'.length = 20 + Z ∧ Bytes T') := by
                refine ⟨hT', ?_, ?_⟩
                · rw [← hT', List.length_append, List.length_append, HX.out.2.2.2.2.2.1, HX.out.2.2.2.2.1, HP12.out.1]; omega
                · rw [← hT']; exact (HP12.out.2.app HX.out.2.2.2.2.2.2.2.1).app HX.out.2.2.2.2.2.2.2.2
              clear hT'
              have hci : (16 : Int) + Z ≤ c2 := by omega
              have h12i : (12 : Int) ≤ c2 := by omega
              obtain ⟨Q, hQ⟩ : ∃ Q, 16 + Z = Q := ⟨_, rfl⟩
              have hwr : IntKind.i64.wrap (20 + (Z : Int) - 4) = (Q : Int) := by rw [IntKind.wrap_i64]; omega
              have hcnz : ¬ c2 = Q := by omega
              have hQ1 : (0 : Int) ≤ (Q : Int) := by omega
              have hQ2 : (Q : Int) ≤ 20 + (Z : Int) := by omega
              have HSl : Hid (sumV.length = 20 + Z - Q) := by show _ = _; rw [HX.out.2.2.2.2.2.1]; omega
              rw [hQ] at HRs
              clear hQ
              go_wp2
              go_region_law (first
                | (refine step_more rfl _ _ rfl (.slice (some ⟨wr.heap.size, 0, none⟩) 0 0) (some wr.heap.size) [] rfl (Sl.empty wr.drew 5) (some ⟨b2, o2, none⟩) 12 c2 P12 rfl (by intro h; cases h) HP12.out.1 ((HRt.out.same fun _ _ _ => rfl).alloc _) (by show 0 + 12 ≤ _; omega) ?_; intro v5 w5 g5 hs5 hg5 hgr5; obtain ⟨a5, c5, hv5, -⟩ := hs5.shape; rw [List.nil_append, vals_len, HP12.out.1] at hv5; rw [List.nil_append] at hs5; subst hv5; have b5 : Below wr.heap.size wr w5 := HBe.out w5 hgr5; have n5 : ∀ k, g5 = some k → wr.heap.size ≤ k := HNe.out g5 hg5; clear hgr5 hg5)
                | (refine step_more rfl _ _ rfl (.slice a5 12 c5) g5 P12 rfl hs5 a4 (4 + Z) c4 bodyV rfl hcb4 HX.out.2.2.2.2.1 (HX.out.2.2.2.1.old b5) (by rw [HP12.out.1]; omega) ?_; intro v6 w6 g6 hs6 hg6 hgr6; obtain ⟨a6, c6, hv6, -⟩ := hs6.shape; rw [vals_len, List.length_append, HP12.out.1, HX.out.2.2.2.2.1] at hv6; subst hv6; have b6 : Below wr.heap.size wr w6 := HBf.out w5 w6 g5 b5 n5 hgr6; have n6 : ∀ k, g6 = some k → wr.heap.size ≤ k := HNf.out w5 g5 g6 b5 n5 hg6; clear hs5 hgr6 hg6)
                | (refine step_more rfl _ _ rfl (.slice a6 (12 + (4 + Z)) c6) g6 (P12 ++ bodyV) rfl hs6 (some ⟨b2, o2 + Q, none⟩) (20 + Z - Q) _ sumV rfl (by intro h; cases h) HSl.out (HRs.out.old b6) (by rw [List.length_append, HP12.out.1, HX.out.2.2.2.2.1]; omega) ?_; intro v7 w7 g7 hs7 hg7 hgr7; obtain ⟨a7, c7, hv7, hl7, hm7, hn7⟩ := hs7.shape; rw [HT.out.1] at hs7 hv7 hl7; rw [vals_len, HT.out.2.1] at hv7 hl7; subst hv7; have b7 : Below wr.heap.size wr w7 := HBf.out w6 w7 g6 b6 n6 hgr7; clear hs6 hgr7 hg7)
                | fail)
              all_goals
                have hV7 : w7.heap[w.heap.size]? = some (.cells #[.string kd, .slice fa Z fc] 40 (0, 0)) := (b7.block _ (lt_of_block HX.out.2.1)).trans HX.out.2.1
                have bw7 : Below w.heap.size w w7 := chainB HX.out.1 b7 HX.out.1.size
                obtain ⟨c0, c1⟩ := two_cellsT hV7
                have C8 := pack_any (some ⟨w7.heap.size, 0, none⟩) 1 1 (fun _ => ⟨kd, fa, fc, z⟩) _ (by omega) (by show 0 + z.length ≤ _; have := HP.out.2; omega) (ckArg_one w7 _ rfl kd fa Z fc z HP.out.2 (HP.out.1.old bw7))
                obtain ⟨w7a, hw7a⟩ : ∃ w7a, w7.alloc (.cells #[.string kd, .slice fa Z fc] 40) = w7a := ⟨_, rfl⟩
                rw [hw7a] at C8
                have H7a : Hid (Below w7.heap.size w7 w7a) := by rw [← hw7a]; exact (Below.refl _ _).alloc (Nat.le_refl _) _
                have H7 : Hid (Sl w7 5 (.slice a7 (20 + Z) c7) g7 (vals T') ∧ Below w.heap.size w w7 ∧ 20 + Z ≤ c7 ∧ c7 ≤ 9223372036854775807 ∧ (a7 = none → c7 = 0)) := ⟨hs7, bw7, hl7, by unfold maxLen at hm7; omega, hn7⟩
                have HZZ : Hid (Z ≤ 2000) := by show Z ≤ 2000; omega
                have HDich : Hid ((T' = first8 ++ chB (kb kd) z → ofAll T' = ([⟨kb kd, z.length, z, true⟩], 0)) ∧ (T' ≠ first8 ++ chB (kb kd) z → ∃ W er, ofAll T' = (W, er) ∧ (er = 3 ∨ er = 4) ∧ ∀ s ∈ W, s.fin = false)) := by
                  have hd := turned_say (kb kd) z bodyV sumV HK.out.1 (kb_bytes kd) HP.out.1.1 (by rw [HP.out.2]; exact HZZ.out) (by rw [HK.out.2.2.2.2.2.2]; exact HX.out.2.2.2.2.2.2.1)
                  have e : first8 ++ ((octs (z.length : Int) 4).reverse ++ (bodyV ++ sumV)) = T' := by
                    rw [← HT.out.1, ← HK.out.2.2.2.2.2.1]; simp
                  rw [e] at hd
                  exact hd
                have HRl : Hid ((first8 ++ chB (kb kd) z).length = 20 + Z ∧ Bytes (first8 ++ chB (kb kd) z)) := by
                  have h4 : (kb kd).length = 4 := by have hk := HK.out.1; simp only [isK, Bool.and_eq_true, decide_eq_true_eq] at hk; exact hk.1
                  refine ⟨by rw [List.length_append, chB_len, h4, HP.out.2]; show 8 + _ = _; omega, (bytes_of_all (by decide)).app (chB_bytes (kb_bytes kd) HP.out.1.1)⟩
                clear hV7 bw7 hs7 hl7 hm7 hn7 b7 HX HRx HRt HRs HBe HNe HBf HNf hci h12i hcnz hQ1 hQ2 hwr HSl b5 b6 n5 n6
                go_wp2_with fail
                refine C8.mono ?_
                clear C8
                rintro e w8 ⟨hb8, hy8, _⟩
                obtain ⟨a8, c8, rfl, hl8, hm8, hnn8, hr8, hg8, _⟩ := hy8 (fun i _ => HK.out.1)
                rw [packB_one] at hr8 ⊢
                rw [HRl.out.1]
                have b78 : Below w7.heap.size w7 w8 := chainB H7a.out hb8 H7a.out.size
                have H8 : Hid (Below w7.heap.size w7 w8 ∧ Row w8 a8 (first8 ++ chB (kb kd) z) ∧ Row w8 a7 T') := ⟨b78, hr8, (H7.out.1.row rfl).old b78⟩
                clear hb8 hy8 hl8 hm8 hnn8 hr8 hg8 b78 H7a hw7a c0 c1
                have C9 := cnew_any w8
                go_wp2_with fail
                refine C9.mono ?_
                clear C9
                rintro e w9 ⟨rfl, hcr9, hb9⟩
                have hrow9 : Row w9 a7 T' := H8.out.2.2.old hb9
                have hne9 : ∀ x, a7 = some x → T' ≠ [] → x.block ≠ w8.heap.size := fun x hx hz => by have := H8.out.2.2.lt x hx hz; omega
                have HW9 : Hid (Below w.heap.size w w9 ∧ w.heap.size ≤ w8.heap.size) := by
                  have e1 := chainB H7.out.2.1 H8.out.1 H7.out.2.1.size
                  exact ⟨chainB e1 hb9 e1.size, e1.size⟩
                have H9 : Hid (Row w9 a8 (first8 ++ chB (kb kd) z) ∧ Row w9 a7 T' ∧ ∀ x, a8 = some x → (first8 ++ chB (kb kd) z) ≠ [] → x.block ≠ w8.heap.size) := ⟨H8.out.2.1.old hb9, hrow9, fun x hx hz => by have := H8.out.2.1.lt x hx hz; omega⟩
                by_cases hTR : T' = first8 ++ chB (kb kd) z
                · have C10 := push_good (20 + Z) HT.out.2.1 HT.out.2.2 (by omega) H7.out.2.2.1 H7.out.2.2.2.1 H7.out.2.2.2.2 hrow9 hne9 hcr9 (HDich.out.1 hTR)
                  have HTR : Hid (T' = first8 ++ chB (kb kd) z) := hTR
                  have HNE : Hid (∀ x, a7 = some x → T' ≠ [] → x.block ≠ w8.heap.size) := hne9
                  clear hcr9 hb9 hrow9 hne9 hTR
                  go_wp2_with fail
                  refine C10.mono ?_
                  clear C10
                  rintro e w10 ⟨al, mm, cl, rfl, ⟨LL, hcr10⟩, hf10⟩
                  have r1 : Row w10 a7 T' := H9.out.2.1.same fun x hx hz => hf10.block _ (H9.out.2.1.lt x hx hz) (HNE.out x hx hz) (by simp)
                  have r2 : Row w10 a8 T' := by
                    rw [HTR.out]
                    exact H9.out.1.same fun x hx hz => hf10.block _ (H9.out.1.lt x hx hz) (H9.out.2.2 x hx hz) (by simp)
                  have SA := same_any a7 a8 (20 + Z) c7 c8 T' w10 HT.out.2.1 r1 r2
                  have BW := between_any hcr10
                  rw [show decide ((1 : Nat) = 1 ∧ ([] : List Int) = []) = true by simp] at BW
                  have HEnd : Hid (Below w.heap.size w w10) := HW9.out.1.trans ⟨hf10.os, hf10.tape, hf10.output, hf10.size, fun k hk => hf10.block k (by have := HW9.out.1.size; omega) (by have := HW9.out.2; omega) (by simp)⟩
                  clear hcr10 hf10 r1 r2
                  go_wp2_with (first
                    | (go_at_call 17; refine SA.mono ?_; rintro e wq ⟨rfl, hwq⟩; rw [hwq]; clear hwq)
                    | (go_at_call 12; refine BW.mono ?_; rintro e wq ⟨rfl, hwq⟩; rw [hwq]; clear hwq))
                  go_ret
                  exact ⟨rfl, HEnd.out⟩
                · obtain ⟨W, er, hsay, her, hWf⟩ := HDich.out.2 hTR
                  have C10 := push_wrong (20 + Z) HT.out.2.1 HT.out.2.2 (by omega) H7.out.2.2.1 H7.out.2.2.2.1 H7.out.2.2.2.2 hrow9 hne9 hcr9 hsay her hWf
                  have HTR : Hid (T' ≠ first8 ++ chB (kb kd) z) := hTR
                  have HNE : Hid (∀ x, a7 = some x → T' ≠ [] → x.block ≠ w8.heap.size) := hne9
                  have HER : Hid (er = 3 ∨ er = 4) := her
                  clear hcr9 hb9 hrow9 hne9 hTR hsay her hWf
                  go_wp2_with fail
                  refine C10.mono ?_
                  clear C10
                  rintro e w10 ⟨al, mm, cl, rfl, hmcl, hclm, hno, hbad10, hf10⟩
                  have r1 : Row w10 a7 T' := H9.out.2.1.same fun x hx hz => hf10.block _ (H9.out.2.1.lt x hx hz) (HNE.out x hx hz) (by simp)
                  have r2 : Row w10 a8 (first8 ++ chB (kb kd) z) := H9.out.1.same fun x hx hz => hf10.block _ (H9.out.1.lt x hx hz) (H9.out.2.2 x hx hz) (by simp)
                  have SA := unlike_any a7 a8 (20 + Z) c7 c8 T' (first8 ++ chB (kb kd) z) w10 HT.out.2.1 HRl.out.1 HT.out.2.2 HRl.out.2 r1 r2 HTR.out
                  have HEnd : Hid (Below w.heap.size w w10) := HW9.out.1.trans ⟨hf10.os, hf10.tape, hf10.output, hf10.size, fun k hk => hf10.block k (by have := HW9.out.1.size; omega) (by have := HW9.out.2; omega) (by simp)⟩
                  have HBad : Hid (CBad w10 w8.heap.size er ∧ NoEnd w10 al mm) := ⟨hbad10, hno⟩
                  unfold maxLen at hclm
                  clear hbad10 hf10 r1 r2 hno
                  go_wp2_with (go_at_call 17; refine SA.mono ?_; rintro e wq ⟨rfl, hwq⟩; rw [hwq]; clear hwq)
                  go_loopw [19, 127] (fun _ t wr => ∃ k : Nat, k ≤ mm ∧ t = .int .i64 k ∧ Hid (Below w10.heap.size w10 wr)) (fun _ t _ => mm - (intOf t).toNat)
                  case atStart => exact ⟨0, Nat.zero_le _, rfl, Below.refl _ _⟩
                  case round =>
                    obtain ⟨k, hk, rfl, HBq⟩ := hrel
                    by_cases hlt : k < mm
                    · obtain ⟨b, v0, v1, v2, v3, rfl, y0, y1, y2, ⟨d0, d1, d2, rfl⟩, y3, y4⟩ := HBad.out.2 k hlt
                      have hbl : b < w10.heap.size := cell_lt y0
                      have hbk := HBq.out.block b hbl
                      have x0 := (World.cell?_of_block (a := ⟨b, k * 5, none⟩) hbk).trans y0
                      have x1 := (World.cell?_of_block (a := ⟨b, k * 5 + 1, none⟩) hbk).trans y1
                      have x2 := (World.cell?_of_block (a := ⟨b, k * 5 + 2, none⟩) hbk).trans y2
                      have x3 := (World.cell?_of_block (a := ⟨b, k * 5 + 3, none⟩) hbk).trans y3
                      have x4 := (World.cell?_of_block (a := ⟨b, k * 5 + 4, none⟩) hbk).trans y4
                      clear y0 y1 y2 y3 y4 hbk SA
                      go_wp2
                      go_roundw
                      case rel => exact ⟨k + 1, by omega, by go_num, HBq.out.alloc HBq.out.size _⟩
                      case measure => simp [intOf]; omega
                    · have HBd : Hid (CBad wr w8.heap.size er) := HBad.out.1.same (HBq.out.block _ HBad.out.1.lt)
                      have HEn2 : Hid (Below w.heap.size w wr) := chainB HEnd.out HBq.out HEnd.out.size
                      clear SA
                      rcases HER.out with rfl | rfl
                      · have BW := between_bad HBd.out (by omega)
                        go_wp2_with (go_at_call 12; refine BW.mono ?_; rintro e wq ⟨rfl, hwq⟩; rw [hwq]; clear hwq)
                        go_ret
                        exact ⟨rfl, HEn2.out⟩
                      · have BW := between_bad HBd.out (by omega)
                        go_wp2_with (go_at_call 12; refine BW.mono ?_; rintro e wq ⟨rfl, hwq⟩; rw [hwq]; clear hwq)
                        go_ret
                        exact ⟨rfl, HEn2.out⟩
        · obtain ⟨bodyV, hbV⟩ : ∃ bodyV, turnB (kb kd ++ z) KK (wbit X) = bodyV := ⟨_, rfl⟩
          obtain ⟨sumV, hsV⟩ : ∃ sumV, S4 = sumV := ⟨_, rfl⟩
          have HX : Hid (Below w.heap.size w w3 ∧ w3.heap[w.heap.size]? = some (.cells #[.string kd, .slice fa Z fc] 40 (0, 0)) ∧ Sl w3 5 (.slice (some ⟨b2, o2, none⟩) (20 + Z) c2) (some b2) (vals (P12 ++ ((kb kd ++ z) ++ sumV))) ∧ Row w3 ab bodyV ∧ bodyV.length = 4 + Z ∧ sumV.length = 4 ∧ ((∃ t f, bodyV = turnB (kb kd ++ z) t f ∧ sumV = S4) ∨ (bodyV = kb kd ++ z ∧ sumV.length = 4 ∧ Bytes sumV)) ∧ Bytes bodyV ∧ Bytes sumV) := by
            rw [← hbV, ← hsV]
            exact ⟨H3.out.1, H3.out.2.1, H3.out.2.2.1, H3.out.2.2.2, hbl, HK.out.2.1, .inl ⟨_, _, rfl, rfl⟩, turnB_bytes _ _ _, HK.out.2.2.1⟩
          clear hbV hsV H3 H2 hbl
          have HRx : Hid (Row w3 (some ⟨b2, o2, none⟩) (P12 ++ ((kb kd ++ z) ++ sumV))) := HX.out.2.2.1.row rfl
          have HRt : Hid (Row w3 (some ⟨b2, o2, none⟩) P12) := by
            have := HRx.out.take 12
            rw [List.take_left' HP12.out.1] at this
            exact this
          have HRs : Hid (Row w3 (some ⟨b2, o2 + (16 + Z), none⟩) sumV) := by
            have h1 := HRx.out.cut (16 + Z) c2 (by rw [List.length_append, List.length_append, HP12.out.1, HK.out.2.2.2.1]; omega) (by rw [List.length_append, List.length_append, HP12.out.1, HK.out.2.2.2.1, HX.out.2.2.2.2.2.1]; omega)
            rw [if_neg (by omega), ← List.append_assoc, List.drop_left' (by rw [List.length_append, HP12.out.1, HK.out.2.2.2.1]; omega)] at h1
            have h2 : Row w3 (some ⟨b2, o2 + (16 + Z), none⟩) sumV := by simpa [Addr.add_lit] using h1
            exact h2
          have HBe : Hid (∀ w5, (w3.drew.alloc (.cells #[] 5)).grownBy w5 (some w3.heap.size) → Below w3.heap.size w3 w5) := by
            intro w5 hg
            have hsz : (w3.drew.alloc (.cells #[] 5)).heap.size = w3.heap.size + 1 := by simp
            exact ⟨hg.os, hg.tape, hg.output, by have := hg.size; omega, fun k hk => (hg.block k (by omega) (by simp; omega)).trans (((Below.refl w3.heap.size w3.drew).alloc (Nat.le_refl _) (.cells #[] 5)).block k hk)⟩
          have HNe : Hid (∀ g5, (g5 = some w3.heap.size ∨ ∃ k, g5 = some k ∧ (w3.drew.alloc (.cells #[] 5)).heap.size ≤ k) → ∀ k, g5 = some k → w3.heap.size ≤ k) := by
            intro g5 h k hk
            have hsz : (w3.drew.alloc (.cells #[] 5)).heap.size = w3.heap.size + 1 := by simp
            rcases h with h | ⟨j, h, hj⟩
            · rw [h] at hk; cases hk; exact Nat.le_refl _
            · rw [h] at hk; cases hk; omega
          have HBf : Hid (∀ wa wb g, Below w3.heap.size w3 wa → (∀ k, g = some k → w3.heap.size ≤ k) → wa.grownBy wb g → Below w3.heap.size w3 wb) := by
            intro wa wb g hb hn hg
            exact hb.grown hg hb.size hn
          have HNf : Hid (∀ wa g g', Below w3.heap.size w3 wa → (∀ k, g = some k → w3.heap.size ≤ k) → (g' = g ∨ ∃ k, g' = some k ∧ wa.heap.size ≤ k) → ∀ k, g' = some k → w3.heap.size ≤ k) := by
            intro wa g g' hb hn h k hk
            rcases h with h | ⟨j, h, hj⟩
            · exact hn k (h ▸ hk)
            · rw [h] at hk; cases hk; have := hb.size; omega
          obtain ⟨T', hT'⟩ : ∃ T', P12 ++ bodyV ++ sumV = T' := ⟨_, rfl⟩
          have HT : Hid (P12 ++ bodyV ++ sumV = T' ∧ T'.length = 20 + Z ∧ Bytes T') := by
            refine ⟨hT', ?_, ?_⟩
            · rw [← hT', List.length_append, List.length_append, HX.out.2.2.2.2.2.1, HX.out.2.2.2.2.1, HP12.out.1]; omega
            · rw [← hT']; exact (HP12.out.2.app HX.out.2.2.2.2.2.2.2.1).app HX.out.2.2.2.2.2.2.2.2
          clear hT'
          have hci : (16 : Int) + Z ≤ c2 := by omega
          have h12i : (12 : Int) ≤ c2 := by omega
          obtain ⟨Q, hQ⟩ : ∃ Q, 16 + Z = Q := ⟨_, rfl⟩
          have hwr : IntKind.i64.wrap (20 + (Z : Int) - 4) = (Q : Int) := by rw [IntKind.wrap_i64]; omega
          have hcnz : ¬ c2 = Q := by omega
          have hQ1 : (0 : Int) ≤ (Q : Int) := by omega
          have hQ2 : (Q : Int) ≤ 20 + (Z : Int) := by omega
          have HSl : Hid (sumV.length = 20 + Z - Q) := by show _ = _; rw [HX.out.2.2.2.2.2.1]; omega
          rw [hQ] at HRs
          clear hQ
          go_wp2
          go_region_law (first
            | (refine step_more rfl _ _ rfl (.slice (some ⟨w3.heap.size, 0, none⟩) 0 0) (some w3.heap.size) [] rfl (Sl.empty w3.drew 5) (some ⟨b2, o2, none⟩) 12 c2 P12 rfl (by intro h; cases h) HP12.out.1 ((HRt.out.same fun _ _ _ => rfl).alloc _) (by show 0 + 12 ≤ _; omega) ?_; intro v5 w5 g5 hs5 hg5 hgr5; obtain ⟨a5, c5, hv5, -⟩ := hs5.shape; rw [List.nil_append, vals_len, HP12.out.1] at hv5; rw [List.nil_append] at hs5; subst hv5; have b5 : Below w3.heap.size w3 w5 := HBe.out w5 hgr5; have n5 : ∀ k, g5 = some k → w3.heap.size ≤ k := HNe.out g5 hg5; clear hgr5 hg5)
            | (refine step_more rfl _ _ rfl (.slice a5 12 c5) g5 P12 rfl hs5 ab (4 + Z) cb bodyV rfl hcb HX.out.2.2.2.2.1 (HX.out.2.2.2.1.old b5) (by rw [HP12.out.1]; omega) ?_; intro v6 w6 g6 hs6 hg6 hgr6; obtain ⟨a6, c6, hv6, -⟩ := hs6.shape; rw [vals_len, List.length_append, HP12.out.1, HX.out.2.2.2.2.1] at hv6; subst hv6; have b6 : Below w3.heap.size w3 w6 := HBf.out w5 w6 g5 b5 n5 hgr6; have n6 : ∀ k, g6 = some k → w3.heap.size ≤ k := HNf.out w5 g5 g6 b5 n5 hg6; clear hs5 hgr6 hg6)
            | (refine step_more rfl _ _ rfl (.slice a6 (12 + (4 + Z)) c6) g6 (P12 ++ bodyV) rfl hs6 (some ⟨b2, o2 + Q, none⟩) (20 + Z - Q) _ sumV rfl (by intro h; cases h) HSl.out (HRs.out.old b6) (by rw [List.length_append, HP12.out.1, HX.out.2.2.2.2.1]; omega) ?_; intro v7 w7 g7 hs7 hg7 hgr7; obtain ⟨a7, c7, hv7, hl7, hm7, hn7⟩ := hs7.shape; rw [HT.out.1] at hs7 hv7 hl7; rw [vals_len, HT.out.2.1] at hv7 hl7; subst hv7; have b7 : Below w3.heap.size w3 w7 := HBf.out w6 w7 g6 b6 n6 hgr7; clear hs6 hgr7 hg7)
            | fail)
          all_goals
            have hV7 : w7.heap[w.heap.size]? = some (.cells #[.string kd, .slice fa Z fc] 40 (0, 0)) := (b7.block _ (lt_of_block HX.out.2.1)).trans HX.out.2.1
            have bw7 : Below w.heap.size w w7 := chainB HX.out.1 b7 HX.out.1.size
            obtain ⟨c0, c1⟩ := two_cellsT hV7
            have C8 := pack_any (some ⟨w7.heap.size, 0, none⟩) 1 1 (fun _ => ⟨kd, fa, fc, z⟩) _ (by omega) (by show 0 + z.length ≤ _; have := HP.out.2; omega) (ckArg_one w7 _ rfl kd fa Z fc z HP.out.2 (HP.out.1.old bw7))
            obtain ⟨w7a, hw7a⟩ : ∃ w7a, w7.alloc (.cells #[.string kd, .slice fa Z fc] 40) = w7a := ⟨_, rfl⟩
            rw [hw7a] at C8
            have H7a : Hid (Below w7.heap.size w7 w7a) := by rw [← hw7a]; exact (Below.refl _ _).alloc (Nat.le_refl _) _
            have H7 : Hid (Sl w7 5 (.slice a7 (20 + Z) c7) g7 (vals T') ∧ Below w.heap.size w w7 ∧ 20 + Z ≤ c7 ∧ c7 ≤ 9223372036854775807 ∧ (a7 = none → c7 = 0)) := ⟨hs7, bw7, hl7, by unfold maxLen at hm7; omega, hn7⟩
            have HZZ : Hid (Z ≤ 2000) := by show Z ≤ 2000; omega
            have HDich : Hid ((T' = first8 ++ chB (kb kd) z → ofAll T' = ([⟨kb kd, z.length, z, true⟩], 0)) ∧ (T' ≠ first8 ++ chB (kb kd) z → ∃ W er, ofAll T' = (W, er) ∧ (er = 3 ∨ er = 4) ∧ ∀ s ∈ W, s.fin = false)) := by
              have hd := turned_say (kb kd) z bodyV sumV HK.out.1 (kb_bytes kd) HP.out.1.1 (by rw [HP.out.2]; exact HZZ.out) (by rw [HK.out.2.2.2.2.2.2]; exact HX.out.2.2.2.2.2.2.1)
              have e : first8 ++ ((octs (z.length : Int) 4).reverse ++ (bodyV ++ sumV)) = T' := by
                rw [← HT.out.1, ← HK.out.2.2.2.2.2.1]; simp
              rw [e] at hd
              exact hd
            have HRl : Hid ((first8 ++ chB (kb kd) z).length = 20 + Z ∧ Bytes (first8 ++ chB (kb kd) z)) := by
              have h4 : (kb kd).length = 4 := by have hk := HK.out.1; simp only [isK, Bool.and_eq_true, decide_eq_true_eq] at hk; exact hk.1
              refine ⟨by rw [List.length_append, chB_len, h4, HP.out.2]; show 8 + _ = _; omega, (bytes_of_all (by decide)).app (chB_bytes (kb_bytes kd) HP.out.1.1)⟩
            clear hV7 bw7 hs7 hl7 hm7 hn7 b7 HX HRx HRt HRs HBe HNe HBf HNf hci h12i hcnz hQ1 hQ2 hwr HSl b5 b6 n5 n6
            go_wp2_with fail
            refine C8.mono ?_
            clear C8
            rintro e w8 ⟨hb8, hy8, _⟩
            obtain ⟨a8, c8, rfl, hl8, hm8, hnn8, hr8, hg8, _⟩ := hy8 (fun i _ => HK.out.1)
            rw [packB_one] at hr8 ⊢
            rw [HRl.out.1]
            have b78 : Below w7.heap.size w7 w8 := chainB H7a.out hb8 H7a.out.size
            have H8 : Hid (Below w7.heap.size w7 w8 ∧ Row w8 a8 (first8 ++ chB (kb kd) z) ∧ Row w8 a7 T') := ⟨b78, hr8, (H7.out.1.row rfl).old b78⟩
            clear hb8 hy8 hl8 hm8 hnn8 hr8 hg8 b78 H7a hw7a c0 c1
            have C9 := cnew_any w8
            go_wp2_with fail
            refine C9.mono ?_
            clear C9
            rintro e w9 ⟨rfl, hcr9, hb9⟩
            have hrow9 : Row w9 a7 T' := H8.out.2.2.old hb9
            have hne9 : ∀ x, a7 = some x → T' ≠ [] → x.block ≠ w8.heap.size := fun x hx hz => by have := H8.out.2.2.lt x hx hz; omega
            have HW9 : Hid (Below w.heap.size w w9 ∧ w.heap.size ≤ w8.heap.size) := by
              have e1 := chainB H7.out.2.1 H8.out.1 H7.out.2.1.size
              exact ⟨chainB e1 hb9 e1.size, e1.size⟩
            have H9 : Hid (Row w9 a8 (first8 ++ chB (kb kd) z) ∧ Row w9 a7 T' ∧ ∀ x, a8 = some x → (first8 ++ chB (kb kd) z) ≠ [] → x.block ≠ w8.heap.size) := ⟨H8.out.2.1.old hb9, hrow9, fun x hx hz => by have := H8.out.2.1.lt x hx hz; omega⟩
            by_cases hTR : T' = first8 ++ chB (kb kd) z
            · have C10 := push_good (20 + Z) HT.out.2.1 HT.out.2.2 (by omega) H7.out.2.2.1 H7.out.2.2.2.1 H7.out.2.2.2.2 hrow9 hne9 hcr9 (HDich.out.1 hTR)
              have HTR : Hid (T' = first8 ++ chB (kb kd) z) := hTR
              have HNE : Hid (∀ x, a7 = some x → T' ≠ [] → x.block ≠ w8.heap.size) := hne9
              clear hcr9 hb9 hrow9 hne9 hTR
              go_wp2_with fail
              refine C10.mono ?_
              clear C10
              rintro e w10 ⟨al, mm, cl, rfl, ⟨LL, hcr10⟩, hf10⟩
              have r1 : Row w10 a7 T' := H9.out.2.1.same fun x hx hz => hf10.block _ (H9.out.2.1.lt x hx hz) (HNE.out x hx hz) (by simp)
              have r2 : Row w10 a8 T' := by
                rw [HTR.out]
                exact H9.out.1.same fun x hx hz => hf10.block _ (H9.out.1.lt x hx hz) (H9.out.2.2 x hx hz) (by simp)
              have SA := same_any a7 a8 (20 + Z) c7 c8 T' w10 HT.out.2.1 r1 r2
              have BW := between_any hcr10
              rw [show decide ((1 : Nat) = 1 ∧ ([] : List Int) = []) = true by simp] at BW
              have HEnd : Hid (Below w.heap.size w w10) := HW9.out.1.trans ⟨hf10.os, hf10.tape, hf10.output, hf10.size, fun k hk => hf10.block k (by have := HW9.out.1.size; omega) (by have := HW9.out.2; omega) (by simp)⟩
              clear hcr10 hf10 r1 r2
              go_wp2_with (first
                | (go_at_call 17; refine SA.mono ?_; rintro e wq ⟨rfl, hwq⟩; rw [hwq]; clear hwq)
                | (go_at_call 12; refine BW.mono ?_; rintro e wq ⟨rfl, hwq⟩; rw [hwq]; clear hwq))
              go_ret
              exact ⟨rfl, HEnd.out⟩
            · obtain ⟨W, er, hsay, her, hWf⟩ := HDich.out.2 hTR
              have C10 := push_wrong (20 + Z) HT.out.2.1 HT.out.2.2 (by omega) H7.out.2.2.1 H7.out.2.2.2.1 H7.out.2.2.2.2 hrow9 hne9 hcr9 hsay her hWf
              have HTR : Hid (T' ≠ first8 ++ chB (kb kd) z) := hTR
              have HNE : Hid (∀ x, a7 = some x → T' ≠ [] → x.block ≠ w8.heap.size) := hne9
              have HER : Hid (er = 3 ∨ er = 4) := her
              clear hcr9 hb9 hrow9 hne9 hTR hsay her hWf
              go_wp2_with fail
              refine C10.mono ?_
              clear C10
              rintro e w10 ⟨al, mm, cl, rfl, hmcl, hclm, hno, hbad10, hf10⟩
              have r1 : Row w10 a7 T' := H9.out.2.1.same fun x hx hz => hf10.block _ (H9.out.2.1.lt x hx hz) (HNE.out x hx hz) (by simp)
              have r2 : Row w10 a8 (first8 ++ chB (kb kd) z) := H9.out.1.same fun x hx hz => hf10.block _ (H9.out.1.lt x hx hz) (H9.out.2.2 x hx hz) (by simp)
              have SA := unlike_any a7 a8 (20 + Z) c7 c8 T' (first8 ++ chB (kb kd) z) w10 HT.out.2.1 HRl.out.1 HT.out.2.2 HRl.out.2 r1 r2 HTR.out
              have HEnd : Hid (Below w.heap.size w w10) := HW9.out.1.trans ⟨hf10.os, hf10.tape, hf10.output, hf10.size, fun k hk => hf10.block k (by have := HW9.out.1.size; omega) (by have := HW9.out.2; omega) (by simp)⟩
              have HBad : Hid (CBad w10 w8.heap.size er ∧ NoEnd w10 al mm) := ⟨hbad10, hno⟩
              unfold maxLen at hclm
              clear hbad10 hf10 r1 r2 hno
              go_wp2_with (go_at_call 17; refine SA.mono ?_; rintro e wq ⟨rfl, hwq⟩; rw [hwq]; clear hwq)
              go_loopw [19, 127] (fun _ t wr => ∃ k : Nat, k ≤ mm ∧ t = .int .i64 k ∧ Hid (Below w10.heap.size w10 wr)) (fun _ t _ => mm - (intOf t).toNat)
              case atStart => exact ⟨0, Nat.zero_le _, rfl, Below.refl _ _⟩
              case round =>
                obtain ⟨k, hk, rfl, HBq⟩ := hrel
                by_cases hlt : k < mm
                · obtain ⟨b, v0, v1, v2, v3, rfl, y0, y1, y2, ⟨d0, d1, d2, rfl⟩, y3, y4⟩ := HBad.out.2 k hlt
                  have hbl : b < w10.heap.size := cell_lt y0
                  have hbk := HBq.out.block b hbl
                  have x0 := (World.cell?_of_block (a := ⟨b, k * 5, none⟩) hbk).trans y0
                  have x1 := (World.cell?_of_block (a := ⟨b, k * 5 + 1, none⟩) hbk).trans y1
                  have x2 := (World.cell?_of_block (a := ⟨b, k * 5 + 2, none⟩) hbk).trans y2
                  have x3 := (World.cell?_of_block (a := ⟨b, k * 5 + 3, none⟩) hbk).trans y3
                  have x4 := (World.cell?_of_block (a := ⟨b, k * 5 + 4, none⟩) hbk).trans y4
                  clear y0 y1 y2 y3 y4 hbk SA
                  go_wp2
                  go_roundw
                  case rel => exact ⟨k + 1, by omega, by go_num, HBq.out.alloc HBq.out.size _⟩
                  case measure => simp [intOf]; omega
                · have HBd : Hid (CBad wr w8.heap.size er) := HBad.out.1.same (HBq.out.block _ HBad.out.1.lt)
                  have HEn2 : Hid (Below w.heap.size w wr) := chainB HEnd.out HBq.out HEnd.out.size
                  clear SA
                  rcases HER.out with rfl | rfl
                  · have BW := between_bad HBd.out (by omega)
                    go_wp2_with (go_at_call 12; refine BW.mono ?_; rintro e wq ⟨rfl, hwq⟩; rw [hwq]; clear hwq)
                    go_ret
                    exact ⟨rfl, HEn2.out⟩
                  · have BW := between_bad HBd.out (by omega)
                    go_wp2_with (go_at_call 12; refine BW.mono ?_; rintro e wq ⟨rfl, hwq⟩; rw [hwq]; clear hwq)
                    go_ret
                    exact ⟨rfl, HEn2.out⟩
      · obtain ⟨bodyV, hbV⟩ : ∃ bodyV, turnB (kb kd ++ z) KK (wbit X) = bodyV := ⟨_, rfl⟩
        obtain ⟨sumV, hsV⟩ : ∃ sumV, S4 = sumV := ⟨_, rfl⟩
        have HX : Hid (Below w.heap.size w w3 ∧ w3.heap[w.heap.size]? = some (.cells #[.string kd, .slice fa Z fc] 40 (0, 0)) ∧ Sl w3 5 (.slice (some ⟨b2, o2, none⟩) (20 + Z) c2) (some b2) (vals (P12 ++ ((kb kd ++ z) ++ sumV))) ∧ Row w3 ab bodyV ∧ bodyV.length = 4 + Z ∧ sumV.length = 4 ∧ ((∃ t f, bodyV = turnB (kb kd ++ z) t f ∧ sumV = S4) ∨ (bodyV = kb kd ++ z ∧ sumV.length = 4 ∧ Bytes sumV)) ∧ Bytes bodyV ∧ Bytes sumV) := by
          rw [← hbV, ← hsV]
          exact ⟨H3.out.1, H3.out.2.1, H3.out.2.2.1, H3.out.2.2.2, hbl, HK.out.2.1, .inl ⟨_, _, rfl, rfl⟩, turnB_bytes _ _ _, HK.out.2.2.1⟩
        clear hbV hsV H3 H2 hbl
        have HRx : Hid (Row w3 (some ⟨b2, o2, none⟩) (P12 ++ ((kb kd ++ z) ++ sumV))) := HX.out.2.2.1.row rfl
        have HRt : Hid (Row w3 (some ⟨b2, o2, none⟩) P12) := by
          have := HRx.out.take 12
          rw [List.take_left' HP12.out.1] at this
          exact this
        have HRs : Hid (Row w3 (some ⟨b2, o2 + (16 + Z), none⟩) sumV) := by
          have h1 := HRx.out.cut (16 + Z) c2 (by rw [List.length_append, List.length_append, HP12.out.1, HK.out.2.2.2.1]; omega) (by rw [List.length_append, List.length_append, HP12.out.1, HK.out.2.2.2.1, HX.out.2.2.2.2.2.1]; omega)
          rw [if_neg (by omega), ← List.append_assoc, List.drop_left' (by rw [List.length_append, HP12.out.1, HK.out.2.2.2.1]; omega)] at h1
          have h2 : Row w3 (some ⟨b2, o2 + (16 + Z), none⟩) sumV := by simpa [Addr.add_lit] using h1
          exact h2
        have HBe : Hid (∀ w5, (w3.drew.alloc (.cells #[] 5)).grownBy w5 (some w3.heap.size) → Below w3.heap.size w3 w5) := by
          intro w5 hg
          have hsz : (w3.drew.alloc (.cells #[] 5)).heap.size = w3.heap.size + 1 := by simp
          exact ⟨hg.os, hg.tape, hg.output, by have := hg.size; omega, fun k hk => (hg.block k (by omega) (by simp; omega)).trans (((Below.refl w3.heap.size w3.drew).alloc (Nat.le_refl _) (.cells #[] 5)).block k hk)⟩
        have HNe : Hid (∀ g5, (g5 = some w3.heap.size ∨ ∃ k, g5 = some k ∧ (w3.drew.alloc (.cells #[] 5)).heap.size ≤ k) → ∀ k, g5 = some k → w3.heap.size ≤ k) := by
          intro g5 h k hk
          have hsz : (w3.drew.alloc (.cells #[] 5)).heap.size = w3.heap.size + 1 := by simp
          rcases h with h | ⟨j, h, hj⟩
          · rw [h] at hk; cases hk; exact Nat.le_refl _
          · rw [h] at hk; cases hk; omega
        have HBf : Hid (∀ wa wb g, Below w3.heap.size w3 wa → (∀ k, g = some k → w3.heap.size ≤ k) → wa.grownBy wb g → Below w3.heap.size w3 wb) := by
          intro wa wb g hb hn hg
          exact hb.grown hg hb.size hn
        have HNf : Hid (∀ wa g g', Below w3.heap.size w3 wa → (∀ k, g = some k → w3.heap.size ≤ k) → (g' = g ∨ ∃ k, g' = some k ∧ wa.heap.size ≤ k) → ∀ k, g' = some k → w3.heap.size ≤ k) := by
          intro wa g g' hb hn h k hk
          rcases h with h | ⟨j, h, hj⟩
          · exact hn k (h ▸ hk)
          · rw [h] at hk; cases hk; have := hb.size; omega
        obtain ⟨T', hT'⟩ : ∃ T', P12 ++ bodyV ++ sumV = T' := ⟨_, rfl⟩
        have HT : Hid (P12 ++ bodyV ++ sumV = T' ∧ T'.length = 20 + Z ∧ Bytes T') := by
          refine ⟨hT', ?_, ?_⟩
          · rw [← hT', List.length_append, List.length_append, HX.out.2.2.2.2.2.1, HX.out.2.2.2.2.1, HP12.out.1]; omega
          · rw [← hT']; exact (HP12.out.2.app HX.out.2.2.2.2.2.2.2.1).app HX.out.2.2.2.2.2.2.2.2
        clear hT'
        have hci : (16 : Int) + Z ≤ c2 := by omega
        have h12i : (12 : Int) ≤ c2 := by omega
        obtain ⟨Q, hQ⟩ : ∃ Q, 16 + Z = Q := ⟨_, rfl⟩
        have hwr : IntKind.i64.wrap (20 + (Z : Int) - 4) = (Q : Int) := by rw [IntKind.wrap_i64]; omega
        have hcnz : ¬ c2 = Q := by omega
        have hQ1 : (0 : Int) ≤ (Q : Int) := by omega
        have hQ2 : (Q : Int) ≤ 20 + (Z : Int) := by omega
        have HSl : Hid (sumV.length = 20 + Z - Q) := by show _ = _; rw [HX.out.2.2.2.2.2.1]; omega
        rw [hQ] at HRs
        clear hQ
        go_wp2
        go_region_law (first
          | (refine step_more rfl _ _ rfl (.slice (some ⟨w3.heap.size, 0, none⟩) 0 0) (some w3.heap.size) [] rfl (Sl.empty w3.drew 5) (some ⟨b2, o2, none⟩) 12 c2 P12 rfl (by intro h; cases h) HP12.out.1 ((HRt.out.same fun _ _ _ => rfl).alloc _) (by show 0 + 12 ≤ _; omega) ?_; intro v5 w5 g5 hs5 hg5 hgr5; obtain ⟨a5, c5, hv5, -⟩ := hs5.shape; rw [List.nil_append, vals_len, HP12.out.1] at hv5; rw [List.nil_append] at hs5; subst hv5; have b5 : Below w3.heap.size w3 w5 := HBe.out w5 hgr5; have n5 : ∀ k, g5 = some k → w3.heap.size ≤ k := HNe.out g5 hg5; clear hgr5 hg5)
          | (refine step_more rfl _ _ rfl (.slice a5 12 c5) g5 P12 rfl hs5 ab (4 + Z) cb bodyV rfl hcb HX.out.2.2.2.2.1 (HX.out.2.2.2.1.old b5) (by rw [HP12.out.1]; omega) ?_; intro v6 w6 g6 hs6 hg6 hgr6; obtain ⟨a6, c6, hv6, -⟩ := hs6.shape; rw [vals_len, List.length_append, HP12.out.1, HX.out.2.2.2.2.1] at hv6; subst hv6; have b6 : Below w3.heap.size w3 w6 := HBf.out w5 w6 g5 b5 n5 hgr6; have n6 : ∀ k, g6 = some k → w3.heap.size ≤ k := HNf.out w5 g5 g6 b5 n5 hg6; clear hs5 hgr6 hg6)
          | (refine step_more rfl _ _ rfl (.slice a6 (12 + (4 + Z)) c6) g6 (P12 ++ bodyV) rfl hs6 (some ⟨b2, o2 + Q, none⟩) (20 + Z - Q) _ sumV rfl (by intro h; cases h) HSl.out (HRs.out.old b6) (by rw [List.length_append, HP12.out.1, HX.out.2.2.2.2.1]; omega) ?_; intro v7 w7 g7 hs7 hg7 hgr7; obtain ⟨a7, c7, hv7, hl7, hm7, hn7⟩ := hs7.shape; rw [HT.out.1] at hs7 hv7 hl7; rw [vals_len, HT.out.2.1] at hv7 hl7; subst hv7; have b7 : Below w3.heap.size w3 w7 := HBf.out w6 w7 g6 b6 n6 hgr7; clear hs6 hgr7 hg7)
          | fail)
        all_goals
          have hV7 : w7.heap[w.heap.size]? = some (.cells #[.string kd, .slice fa Z fc] 40 (0, 0)) := (b7.block _ (lt_of_block HX.out.2.1)).trans HX.out.2.1
          have bw7 : Below w.heap.size w w7 := chainB HX.out.1 b7 HX.out.1.size
          obtain ⟨c0, c1⟩ := two_cellsT hV7
          have C8 := pack_any (some ⟨w7.heap.size, 0, none⟩) 1 1 (fun _ => ⟨kd, fa, fc, z⟩) _ (by omega) (by show 0 + z.length ≤ _; have := HP.out.2; omega) (ckArg_one w7 _ rfl kd fa Z fc z HP.out.2 (HP.out.1.old bw7))
          obtain ⟨w7a, hw7a⟩ : ∃ w7a, w7.alloc (.cells #[.string kd, .slice fa Z fc] 40) = w7a := ⟨_, rfl⟩
          rw [hw7a] at C8
          have H7a : Hid (Below w7.heap.size w7 w7a) := by rw [← hw7a]; exact (Below.refl _ _).alloc (Nat.le_refl _) _
          have H7 : Hid (Sl w7 5 (.slice a7 (20 + Z) c7) g7 (vals T') ∧ Below w.heap.size w w7 ∧ 20 + Z ≤ c7 ∧ c7 ≤ 9223372036854775807 ∧ (a7 = none → c7 = 0)) := ⟨hs7, bw7, hl7, by unfold maxLen at hm7; omega, hn7⟩
          have HZZ : Hid (Z ≤ 2000) := by show Z ≤ 2000; omega
          have HDich : Hid ((T' = first8 ++ chB (kb kd) z → ofAll T' = ([⟨kb kd, z.length, z, true⟩], 0)) ∧ (T' ≠ first8 ++ chB (kb kd) z → ∃ W er, ofAll T' = (W, er) ∧ (er = 3 ∨ er = 4) ∧ ∀ s ∈ W, s.fin = false)) := by
            have hd := turned_say (kb kd) z bodyV sumV HK.out.1 (kb_bytes kd) HP.out.1.1 (by rw [HP.out.2]; exact HZZ.out) (by rw [HK.out.2.2.2.2.2.2]; exact HX.out.2.2.2.2.2.2.1)
            have e : first8 ++ ((octs (z.length : Int) 4).reverse ++ (bodyV ++ sumV)) = T' := by
              rw [← HT.out.1, ← HK.out.2.2.2.2.2.1]; simp
            rw [e] at hd
            exact hd
          have HRl : Hid ((first8 ++ chB (kb kd) z).length = 20 + Z ∧ Bytes (first8 ++ chB (kb kd) z)) := by
            have h4 : (kb kd).length = 4 := by have hk := HK.out.1; simp only [isK, Bool.and_eq_true, decide_eq_true_eq] at hk; exact hk.1
            refine ⟨by rw [List.length_append, chB_len, h4, HP.out.2]; show 8 + _ = _; omega, (bytes_of_all (by decide)).app (chB_bytes (kb_bytes kd) HP.out.1.1)⟩
          clear hV7 bw7 hs7 hl7 hm7 hn7 b7 HX HRx HRt HRs HBe HNe HBf HNf hci h12i hcnz hQ1 hQ2 hwr HSl b5 b6 n5 n6
          go_wp2_with fail
          refine C8.mono ?_
          clear C8
          rintro e w8 ⟨hb8, hy8, _⟩
          obtain ⟨a8, c8, rfl, hl8, hm8, hnn8, hr8, hg8, _⟩ := hy8 (fun i _ => HK.out.1)
          rw [packB_one] at hr8 ⊢
          rw [HRl.out.1]
          have b78 : Below w7.heap.size w7 w8 := chainB H7a.out hb8 H7a.out.size
          have H8 : Hid (Below w7.heap.size w7 w8 ∧ Row w8 a8 (first8 ++ chB (kb kd) z) ∧ Row w8 a7 T') := ⟨b78, hr8, (H7.out.1.row rfl).old b78⟩
          clear hb8 hy8 hl8 hm8 hnn8 hr8 hg8 b78 H7a hw7a c0 c1
          have C9 := cnew_any w8
          go_wp2_with fail
          refine C9.mono ?_
          clear C9
          rintro e w9 ⟨rfl, hcr9, hb9⟩
          have hrow9 : Row w9 a7 T' := H8.out.2.2.old hb9
          have hne9 : ∀ x, a7 = some x → T' ≠ [] → x.block ≠ w8.heap.size := fun x hx hz => by have := H8.out.2.2.lt x hx hz; omega
          have HW9 : Hid (Below w.heap.size w w9 ∧ w.heap.size ≤ w8.heap.size) := by
            have e1 := chainB H7.out.2.1 H8.out.1 H7.out.2.1.size
            exact ⟨chainB e1 hb9 e1.size, e1.size⟩
          have H9 : Hid (Row w9 a8 (first8 ++ chB (kb kd) z) ∧ Row w9 a7 T' ∧ ∀ x, a8 = some x → (first8 ++ chB (kb kd) z) ≠ [] → x.block ≠ w8.heap.size) := ⟨H8.out.2.1.old hb9, hrow9, fun x hx hz => by have := H8.out.2.1.lt x hx hz; omega⟩
          by_cases hTR : T' = first8 ++ chB (kb kd) z
          · have C10 := push_good (20 + Z) HT.out.2.1 HT.out.2.2 (by omega) H7.out.2.2.1 H7.out.2.2.2.1 H7.out.2.2.2.2 hrow9 hne9 hcr9 (HDich.out.1 hTR)
            have HTR : Hid (T' = first8 ++ chB (kb kd) z) := hTR
            have HNE : Hid (∀ x, a7 = some x → T' ≠ [] → x.block ≠ w8.heap.size) := hne9
            clear hcr9 hb9 hrow9 hne9 hTR
            go_wp2_with fail
            refine C10.mono ?_
            clear C10
            rintro e w10 ⟨al, mm, cl, rfl, ⟨LL, hcr10⟩, hf10⟩
            have r1 : Row w10 a7 T' := H9.out.2.1.same fun x hx hz => hf10.block _ (H9.out.2.1.lt x hx hz) (HNE.out x hx hz) (by simp)
            have r2 : Row w10 a8 T' := by
              rw [HTR.out]
              exact H9.out.1.same fun x hx hz => hf10.block _ (H9.out.1.lt x hx hz) (H9.out.2.2 x hx hz) (by simp)
            have SA := same_any a7 a8 (20 + Z) c7 c8 T' w10 HT.out.2.1 r1 r2
            have BW := between_any hcr10
            rw [show decide ((1 : Nat) = 1 ∧ ([] : List Int) = []) = true by simp] at BW
            have HEnd : Hid (Below w.heap.size w w10) := HW9.out.1.trans ⟨hf10.os, hf10.tape, hf10.output, hf10.size, fun k hk => hf10.block k (by have := HW9.out.1.size; omega) (by have := HW9.out.2; omega) (by simp)⟩
            clear hcr10 hf10 r1 r2
            go_wp2_with (first
              | (go_at_call 17; refine SA.mono ?_; rintro e wq ⟨rfl, hwq⟩; rw [hwq]; clear hwq)
              | (go_at_call 12; refine BW.mono ?_; rintro e wq ⟨rfl, hwq⟩; rw [hwq]; clear hwq))
            go_ret
            exact ⟨rfl, HEnd.out⟩
          · obtain ⟨W, er, hsay, her, hWf⟩ := HDich.out.2 hTR
            have C10 := push_wrong (20 + Z) HT.out.2.1 HT.out.2.2 (by omega) H7.out.2.2.1 H7.out.2.2.2.1 H7.out.2.2.2.2 hrow9 hne9 hcr9 hsay her hWf
            have HTR : Hid (T' ≠ first8 ++ chB (kb kd) z) := hTR
            have HNE : Hid (∀ x, a7 = some x → T' ≠ [] → x.block ≠ w8.heap.size) := hne9
            have HER : Hid (er = 3 ∨ er = 4) := her
            clear hcr9 hb9 hrow9 hne9 hTR hsay her hWf
            go_wp2_with fail
            refine C10.mono ?_
            clear C10
            rintro e w10 ⟨al, mm, cl, rfl, hmcl, hclm, hno, hbad10, hf10⟩
            have r1 : Row w10 a7 T' := H9.out.2.1.same fun x hx hz => hf10.block _ (H9.out.2.1.lt x hx hz) (HNE.out x hx hz) (by simp)
            have r2 : Row w10 a8 (first8 ++ chB (kb kd) z) := H9.out.1.same fun x hx hz => hf10.block _ (H9.out.1.lt x hx hz) (H9.out.2.2 x hx hz) (by simp)
            have SA := unlike_any a7 a8 (20 + Z) c7 c8 T' (first8 ++ chB (kb kd) z) w10 HT.out.2.1 HRl.out.1 HT.out.2.2 HRl.out.2 r1 r2 HTR.out
            have HEnd : Hid (Below w.heap.size w w10) := HW9.out.1.trans ⟨hf10.os, hf10.tape, hf10.output, hf10.size, fun k hk => hf10.block k (by have := HW9.out.1.size; omega) (by have := HW9.out.2; omega) (by simp)⟩
            have HBad : Hid (CBad w10 w8.heap.size er ∧ NoEnd w10 al mm) := ⟨hbad10, hno⟩
            unfold maxLen at hclm
            clear hbad10 hf10 r1 r2 hno
            go_wp2_with (go_at_call 17; refine SA.mono ?_; rintro e wq ⟨rfl, hwq⟩; rw [hwq]; clear hwq)
            go_loopw [19, 127] (fun _ t wr => ∃ k : Nat, k ≤ mm ∧ t = .int .i64 k ∧ Hid (Below w10.heap.size w10 wr)) (fun _ t _ => mm - (intOf t).toNat)
            case atStart => exact ⟨0, Nat.zero_le _, rfl, Below.refl _ _⟩
            case round =>
              obtain ⟨k, hk, rfl, HBq⟩ := hrel
              by_cases hlt : k < mm
              · obtain ⟨b, v0, v1, v2, v3, rfl, y0, y1, y2, ⟨d0, d1, d2, rfl⟩, y3, y4⟩ := HBad.out.2 k hlt
                have hbl : b < w10.heap.size := cell_lt y0
                have hbk := HBq.out.block b hbl
                have x0 := (World.cell?_of_block (a := ⟨b, k * 5, none⟩) hbk).trans y0
                have x1 := (World.cell?_of_block (a := ⟨b, k * 5 + 1, none⟩) hbk).trans y1
                have x2 := (World.cell?_of_block (a := ⟨b, k * 5 + 2, none⟩) hbk).trans y2
                have x3 := (World.cell?_of_block (a := ⟨b, k * 5 + 3, none⟩) hbk).trans y3
                have x4 := (World.cell?_of_block (a := ⟨b, k * 5 + 4, none⟩) hbk).trans y4
                clear y0 y1 y2 y3 y4 hbk SA
                go_wp2
                go_roundw
                case rel => exact ⟨k + 1, by omega, by go_num, HBq.out.alloc HBq.out.size _⟩
                case measure => simp [intOf]; omega
              · have HBd : Hid (CBad wr w8.heap.size er) := HBad.out.1.same (HBq.out.block _ HBad.out.1.lt)
                have HEn2 : Hid (Below w.heap.size w wr) := chainB HEnd.out HBq.out HEnd.out.size
                clear SA
                rcases HER.out with rfl | rfl
                · have BW := between_bad HBd.out (by omega)
                  go_wp2_with (go_at_call 12; refine BW.mono ?_; rintro e wq ⟨rfl, hwq⟩; rw [hwq]; clear hwq)
                  go_ret
                  exact ⟨rfl, HEn2.out⟩
                · have BW := between_bad HBd.out (by omega)
                  go_wp2_with (go_at_call 12; refine BW.mono ?_; rintro e wq ⟨rfl, hwq⟩; rw [hwq]; clear hwq)
                  go_ret
                  exact ⟨rfl, HEn2.out⟩
    · have hnk : ¬ okK (fun _ => (⟨kd, fa, fc, z⟩ : Ck)) 1 := fun h => hk (h 0 (by omega))
      rw [hn2 hnk]
      have HB : Hid (Below w.heap.size w w2) := hb12
      clear hb2 hy2 hn2 hb12
      go_wp2
      go_ret
      exact ⟨rfl, HB.out⟩
end Go.Proofs.Ytoofpkcgiodfcaa
