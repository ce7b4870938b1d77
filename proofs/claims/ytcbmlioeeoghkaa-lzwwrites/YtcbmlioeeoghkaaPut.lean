import Derived.Test.YtcbmlioeeoghkaaPutF
namespace Go.Proofs.Ytcbmlioeeoghkaa
open Go.RowKit

set_option maxHeartbeats 1600000 in
set_option maxRecDepth 100000 in
theorem put_yes (r : Nat) (g : Option Nat) (zs : List Int) (W : Int) (count m : Nat) (v n : Int) (w : World) (h : WrZ w r g zs count) (hz : Bitz zs W count) (hcb : count ≤ 1000000) (hn : 1 ≤ n) (hm : min n 32 = (m : Int)) :
    Calls Try.prog 50 #[.pointer (some ⟨r, 0, none⟩), .int .i64 v, .int .i64 n] w fun e w' => ∃ zs', Bitz zs' (W + IntKind.u64.wrap v % 2 ^ m * 2 ^ count) (count + m) ∧ WrPost w r g zs' (count + m) e w' := by
  have HW : Hid (WrZ w r g zs count ∧ Bitz zs W count) := ⟨h, hz⟩
  clear h hz
  have hU : 0 ≤ IntKind.u64.wrap v ∧ IntKind.u64.wrap v < 18446744073709551616 := by rw [IntKind.wrap_u64]; omega
  have hm32 : m ≤ 32 := by omega
  have hleft : (if n < 32 then n else 32) = (m : Int) := by rw [← hm]; omega
  have HM : Hid (min n 32 = (m : Int)) := hm
  clear hm
  generalize hUv : IntKind.u64.wrap v = U at *
  go_enter Try.func50, Try.ntmps50
  go_wp2
  all_goals
    clear hUv hleft
    go_loopw [6, 7, 8, 9] (fun x t _ _ wr => ∃ done l : Nat, done + l = m ∧ x = .int .u64 (U / 2 ^ done) ∧ t = .int .i64 l ∧ ∃ g' zs', WrZ wr r g' zs' (count + done) ∧ Bitz zs' (W + U % 2 ^ done * 2 ^ count) (count + done) ∧ (g' = g ∨ ∃ k, g' = some k ∧ w.heap.size ≤ k) ∧ Fr w wr r g) (fun _ t _ _ _ => (intOf t).toNat)
    case atStart =>
      refine ⟨0, m, by omega, by simp, congrArg (Value.int .i64) (by have := HM.out; omega), g, zs, HW.out.1, ?_, .inl rfl, Fr.refl _ _ _⟩
      simpa using HW.out.2
    case round =>
      obtain ⟨done, l, hdl, rfl, rfl, g1, zs1, hwr, hbz, hg1, hfr⟩ := hrel
      by_cases hl0 : l = 0
      · subst hl0
        obtain rfl : done = m := by omega
        go_wp2
        refine bodyPost_end (results_none rfl _ _ _) rfl ?_
        exact ⟨zs1, hbz, rfl, g1, hwr, hg1, hfr⟩
      · have hl1 : (0 : Int) < (l : Int) := by omega
        -- ROUND
        -- ROUND
        -- ROUND
        -- ROUND
        -- ROUND
        -- ROUND
        -- ROUND
        -- ROUND
        -- ROUND
        -- ROUND
        -- ROUND
        -- ROUND
        -- ROUND
        -- ROUND
        -- ROUND
        -- ROUND
        -- ROUND
        -- ROUND
        have hU2 : 0 ≤ U / 2 ^ done ∧ U / 2 ^ done < 18446744073709551616 := ⟨Int.ediv_nonneg hU.1 (by have := two_pos done; omega), Int.lt_of_le_of_lt (Int.ediv_le_self _ hU.1) hU.2⟩
        obtain ⟨c, hc⟩ : ∃ c, c = count + done := ⟨_, rfl⟩
        rw [← hc] at hwr hbz
        have HC : Hid (c = count + done) := hc
        have hcb2 : c ≤ 1000032 := by omega
        clear hc
        obtain ⟨hby, hlen, hlit, hltw⟩ := hbz
        have HD : Hid (done + l = m) := hdl
        have hlm : l ≤ 32 := by omega
        clear hdl
        obtain ⟨k, u, hk, hu, hu8⟩ : ∃ k u : Nat, c = 8 * k + u ∧ (c : Int) % 8 = u ∧ u < 8 := ⟨c / 8, c % 8, by omega, by omega, by omega⟩
        have HK : Hid (c = 8 * k + u) := hk
        clear hk
        have HP : Hid (g1 ≠ some r) := hwr.sep
        obtain ⟨v0, hh, hs⟩ := hwr
        obtain ⟨av, cv, hv, hl1', hl2, hl3⟩ := hs.shape
        subst hv
        rw [vals_len] at hh hs hl1'
        by_cases hu0 : u = 0
        · subst hu0
          have hc8 : c = 8 * k := HK.out
          clear hu HK
          subst hc8
          have HK : Hid (8 * k = 8 * k + 0) := rfl
          have hk1' : zs1.length = k := by omega
          have HK1 : Hid (zs1.length = k) := hk1'
          rw [hk1'] at hh hs hl1'
          clear hk1'
          obtain ⟨q0, q1, f0, f1⟩ := two_cells hh
          obtain ⟨i0, hi, hz0, hz1, hz2⟩ := info_parts Try.info5
          have HH0 : Hid (wr.heap[r]? = some (.cells #[.slice av k cv, .int .i64 ((8 * k : Nat) : Int)] 89 (0, 0))) := hh
          have HS0 : Hid (Sl wr 5 (.slice av k cv) g1 (vals zs1)) := hs
          have HI0 : Hid (litN zs1 = W + U % 2 ^ done * 2 ^ count ∧ W + U % 2 ^ done * 2 ^ count < 2 ^ (8 * k)) := ⟨hlit, hltw⟩
          have HF0 : Hid (Fr w wr r g) := hfr
          have HG0 : Hid (g1 = g ∨ ∃ k, g1 = some k ∧ w.heap.size ≤ k) := hg1
          have HB0 : Hid (Bytes zs1) := hby
          have hkb : k ≤ 1000032 := by omega
          clear hh hs hlit hltw hfr hg1 hby hl2 hl3
          by_cases hmn : (l : Int) ≤ 8
          · have hmn' : l ≤ 8 := by omega
            go_wp2_with (at_builtin; go_must (refine wpList_append_sl rfl _ _ 22 rfl 5 i0 (.int .u8 0) 1 Try.underlying22 hi hz0 hz1 hz2 rfl _ g1 (vals zs1) rfl (HS0.out.same fun q hq => Below.heap_alloc wr _ q (HS0.out.lt hq)) ⟨wr.heap.size, 0, none⟩ 1 1 [.int .u8 0] rfl rfl (cell_one_new _ _ _) (by intro y hy; simp at hy; subst hy; rfl) (by rw [vals_len, HK1.out]; omega) (by rw [vals_len, HK1.out]; unfold maxLen; omega) ?_))
            intro v' w1 g2 hsl hg2 hgrow
            have hsl2 : Sl w1 5 v' g2 (vals (zs1 ++ [0])) := by rw [vals_append]; exact hsl
            have hvx : ∃ b off cq, v' = .slice (some ⟨b, off, none⟩) (k + 1) cq := by
              have hlx : (vals (zs1 ++ [0])).length = k + 1 := by rw [vals_len, List.length_append, HK1.out]; rfl
              rcases hsl2 with ⟨_, _, hx⟩ | ⟨b, off, cq, cur, h, _⟩
              · rw [hx] at hlx; simp at hlx
              · rw [hlx] at h; exact ⟨b, off, cq, h⟩
            obtain ⟨b, off, cv2, hv⟩ := hvx
            rw [hv]
            rw [hv] at hsl2
            have hh1 : w1.heap[r]? = some (.cells #[.slice av k cv, .int .i64 (8 * k)] 89 (0, 0)) := by
              refine (hgrow.block r (by have := lt_of_block HH0.out; simp; omega) (fun e => HP.out e.symm)).trans ((Below.heap_alloc wr _ r (lt_of_block HH0.out)).trans HH0.out)
            obtain ⟨p0, p1, e0, e1⟩ := two_cells hh1
            have hnr : g2 ≠ some r := by
              rcases hg2 with e | ⟨q, e, hq⟩
              · rw [e]; exact HP.out
              · rw [e]; have := lt_of_block HH0.out; simp; omega
            have HG2 : Hid (g2 = g ∨ ∃ k, g2 = some k ∧ w.heap.size ≤ k) := by
              rcases hg2 with e | ⟨q, e, hq⟩
              · rw [e]; exact HG0.out
              · have := HF0.out.size; exact .inr ⟨q, e, by omega⟩
            have HFX : Hid (Fr wr w1 r g1) := (Fr.of_heap ((Below.refl _ _).alloc (Nat.le_refl _) _)).trans (Fr.grown hgrow) (.inl rfl)
            have HH1 : Hid (w1.heap[r]? = some (.cells #[.slice av k cv, .int .i64 (8 * k)] 89 (0, 0))) := hh1
            have HS1 : Hid (Sl w1 5 (.slice (some ⟨b, off, none⟩) (k + 1) cv2) g2 (vals (zs1 ++ [0]))) := hsl2
            have HNR : Hid (g2 ≠ some r) := hnr
            clear hv hsl hg2 hgrow hh1 hsl2 hnr q0 q1 f0 f1
            go_wp2
            obtain ⟨w2, hw2⟩ : ∃ w2, w2 = w1.setCell ⟨r, 0, none⟩ (.slice (some ⟨b, off, none⟩) (k + 1) cv2) := ⟨_, rfl⟩
            rw [← hw2]
            have hh : w2.heap[r]? = some (.cells #[.slice (some ⟨b, off, none⟩) (k + 1) cv2, .int .i64 (8 * k)] 89 (0, 0)) := by rw [hw2]; exact two_set0 HH1.out
            have hs : Sl w2 5 (.slice (some ⟨b, off, none⟩) (k + 1) cv2) g2 (vals (zs1 ++ [0])) := by rw [hw2]; exact HS1.out.same fun q hq => Below.heap_setCell _ _ _ q (fun e => HNR.out (by rw [hq, e]))
            have HF2 : Hid (Fr w w2 r g) := by rw [hw2]; exact HF0.out.trans (HFX.out.trans (Fr.set r 0 _ g1) (.inl rfl)) HG0.out
            clear HP
            have HP : Hid (g2 ≠ some r) := HNR.out
            clear hw2 p0 p1 e0 e1 HH1 HS1 HNR HFX
            obtain ⟨zs2, hz2'⟩ : ∃ zs2, zs2 = zs1 ++ [0] := ⟨_, rfl⟩
            have hk1 : zs2.length = k + 1 := by rw [hz2', List.length_append, HK1.out]; rfl
            have hby : Bytes zs2 := by rw [hz2']; exact HB0.out.append (by intro z hz; simp at hz; omega)
            have HI : Hid (litN zs2 = W + U % 2 ^ done * 2 ^ count ∧ W + U % 2 ^ done * 2 ^ count < 2 ^ (8 * k)) := by
              rw [hz2', litN_snoc]; exact ⟨by rw [Int.zero_mul, Int.add_zero]; exact HI0.out.1, HI0.out.2⟩
            rw [← hz2'] at hs
            clear hz2'
            have hgb : g2 = some b := by
              rcases hs with ⟨h, _⟩ | ⟨b', off', cq, cur, h, h', _⟩
              · cases h
              · simp only [Value.slice.injEq, Option.some.injEq, Addr.mk.injEq] at h; rw [h', h.1.1]
            have hrb : r ≠ b := fun e => HP.out (by rw [hgb, e])
            obtain ⟨q0, q1, f0, f1⟩ := two_cells hh
            have hq' : ∀ x, (w2.setCell ⟨b, off + k, none⟩ x).cell? ⟨r, 1, none⟩ = some (.int .i64 (8 * k)) ∧ (w2.setCell ⟨b, off + k, none⟩ x).frozen? ⟨r, 1, none⟩ = false := fun x => by
              have := two_cells ((Below.heap_setCell w2 ⟨b, off + k, none⟩ x r hrb).trans hh)
              exact ⟨this.2.1, this.2.2.2⟩
            have hq1 := fun x => (hq' x).1
            have hf1 := fun x => (hq' x).2
            have hck : w2.cell? ⟨b, off + k, none⟩ = some (.int .u8 (zs2[k]?.getD 0)) := by
              rw [hs.cell k (by rw [vals_len]; omega), vals_at _ _ (by omega)]
            have hfk : w2.frozen? ⟨b, off + k, none⟩ = false := hs.frozen _
            have HB : Hid (Bytes zs2) := hby
            generalize hL : zs2[k]?.getD 0 = L at *
            have HL : Hid (zs2[k]?.getD 0 = L) := hL
            have HH : Hid (w2.heap[r]? = some (.cells #[.slice (some ⟨b, off, none⟩) (k + 1) cv2, .int .i64 (8 * k)] 89 (0, 0))) := hh
            have HS : Hid (Sl w2 5 (.slice (some ⟨b, off, none⟩) (k + 1) cv2) g2 (vals zs2)) := hs
            have hkb : k ≤ 1000032 := by have := HK.out; omega
            have hk0 : (0 : Int) ≤ (k : Int) := by omega
            have hkk : (k : Int) < (k : Int) + 1 := by omega
            have hwk : IntKind.i64.wrap (k : Int) = (k : Int) := by rw [IntKind.wrap_i64]; omega
            have hwk2 : IntKind.i64.wrap ((k : Int) + 1 - 1) = (k : Int) := by rw [IntKind.wrap_i64]; omega
            clear hh hs hL hq' hgb hby
            have HPB : Hid (l ≤ 8 ∧ 0 + l ≤ 8 ∧ l ≤ l ∧ 1 ≤ l ∧ (l : Int) = ((l : Nat) : Int)) := ⟨by omega, by omega, by omega, by omega, by omega⟩
            have hX0 := Int.emod_nonneg (U / 2 ^ done) (show (2 : Int) ^ l ≠ 0 by have := two_pos l; omega)
            have hX1 := Int.emod_lt_of_pos (U / 2 ^ done) (two_pos l)
            have HX : Hid (0 ≤ U / 2 ^ done % 2 ^ l ∧ U / 2 ^ done % 2 ^ l < 2 ^ l) := ⟨hX0, hX1⟩
            clear hX0 hX1
            go_wp2
            refine wp_region_still_tail 20 (by kernel_rfl) (by kernel_rfl) ?_
            simp only [List.take_succ_cons, List.take_zero, List.drop_succ_cons, List.drop_zero]
            rw [show ({ w2 with drawn := w2.drawn + 1 } : World) = w2.drew from rfl]
            repeat still_step
            still_call (lowest_int _ _ l _ rfl hU2.1 hU2.2 (by have := HPB.out; omega))
            repeat still_step
            refine wpStill_nil ?_
            go_wp2
            go_roundw
            case rel =>
              have F := put_fin (p := l) (Y := bits .or .u8 L (IntKind.u64.wrap (U / 2 ^ done % 2 ^ l) % 256)) (Z := 8 * (k : Int) + l) HH.out HS.out HL.out HB.out hk1 HI.out.1 HI.out.2 HK.out HPB.out.2.1 HPB.out.2.2.2.1 HX.out.1 HX.out.2 (by rw [Int.pow_zero, Int.mul_one]) (by have := HPB.out; first | omega | (rw [Int.natCast_mul]; rfl))
              refine ⟨done + l, l - l, by have := HD.out; have := HPB.out; omega, congrArg (Value.int .u64) (by rw [ediv_pow]; first | done | rfl), congrArg (Value.int .i64) (by have := HPB.out; omega), g2, zs2.set k (L + U / 2 ^ done % 2 ^ l * 2 ^ 0), ?_, ?_, HG2.out, HF2.out.trans ?_ HG2.out⟩
              · rw [← Nat.add_assoc, ← HC.out]
                exact F.1
              · rw [← Nat.add_assoc, ← HC.out, put_sum, ← HC.out]
                exact F.2.1
              · exact F.2.2
            case measure => have := HPB.out; simp only [intOf]; omega
          · have hmn' : 8 < l := by omega
            go_wp2_with (at_builtin; go_must (refine wpList_append_sl rfl _ _ 22 rfl 5 i0 (.int .u8 0) 1 Try.underlying22 hi hz0 hz1 hz2 rfl _ g1 (vals zs1) rfl (HS0.out.same fun q hq => Below.heap_alloc wr _ q (HS0.out.lt hq)) ⟨wr.heap.size, 0, none⟩ 1 1 [.int .u8 0] rfl rfl (cell_one_new _ _ _) (by intro y hy; simp at hy; subst hy; rfl) (by rw [vals_len, HK1.out]; omega) (by rw [vals_len, HK1.out]; unfold maxLen; omega) ?_))
            intro v' w1 g2 hsl hg2 hgrow
            have hsl2 : Sl w1 5 v' g2 (vals (zs1 ++ [0])) := by rw [vals_append]; exact hsl
            have hvx : ∃ b off cq, v' = .slice (some ⟨b, off, none⟩) (k + 1) cq := by
              have hlx : (vals (zs1 ++ [0])).length = k + 1 := by rw [vals_len, List.length_append, HK1.out]; rfl
              rcases hsl2 with ⟨_, _, hx⟩ | ⟨b, off, cq, cur, h, _⟩
              · rw [hx] at hlx; simp at hlx
              · rw [hlx] at h; exact ⟨b, off, cq, h⟩
            obtain ⟨b, off, cv2, hv⟩ := hvx
            rw [hv]
            rw [hv] at hsl2
            have hh1 : w1.heap[r]? = some (.cells #[.slice av k cv, .int .i64 (8 * k)] 89 (0, 0)) := by
              refine (hgrow.block r (by have := lt_of_block HH0.out; simp; omega) (fun e => HP.out e.symm)).trans ((Below.heap_alloc wr _ r (lt_of_block HH0.out)).trans HH0.out)
            obtain ⟨p0, p1, e0, e1⟩ := two_cells hh1
            have hnr : g2 ≠ some r := by
              rcases hg2 with e | ⟨q, e, hq⟩
              · rw [e]; exact HP.out
              · rw [e]; have := lt_of_block HH0.out; simp; omega
            have HG2 : Hid (g2 = g ∨ ∃ k, g2 = some k ∧ w.heap.size ≤ k) := by
              rcases hg2 with e | ⟨q, e, hq⟩
              · rw [e]; exact HG0.out
              · have := HF0.out.size; exact .inr ⟨q, e, by omega⟩
            have HFX : Hid (Fr wr w1 r g1) := (Fr.of_heap ((Below.refl _ _).alloc (Nat.le_refl _) _)).trans (Fr.grown hgrow) (.inl rfl)
            have HH1 : Hid (w1.heap[r]? = some (.cells #[.slice av k cv, .int .i64 (8 * k)] 89 (0, 0))) := hh1
            have HS1 : Hid (Sl w1 5 (.slice (some ⟨b, off, none⟩) (k + 1) cv2) g2 (vals (zs1 ++ [0]))) := hsl2
            have HNR : Hid (g2 ≠ some r) := hnr
            clear hv hsl hg2 hgrow hh1 hsl2 hnr q0 q1 f0 f1
            go_wp2
            obtain ⟨w2, hw2⟩ : ∃ w2, w2 = w1.setCell ⟨r, 0, none⟩ (.slice (some ⟨b, off, none⟩) (k + 1) cv2) := ⟨_, rfl⟩
            rw [← hw2]
            have hh : w2.heap[r]? = some (.cells #[.slice (some ⟨b, off, none⟩) (k + 1) cv2, .int .i64 (8 * k)] 89 (0, 0)) := by rw [hw2]; exact two_set0 HH1.out
            have hs : Sl w2 5 (.slice (some ⟨b, off, none⟩) (k + 1) cv2) g2 (vals (zs1 ++ [0])) := by rw [hw2]; exact HS1.out.same fun q hq => Below.heap_setCell _ _ _ q (fun e => HNR.out (by rw [hq, e]))
            have HF2 : Hid (Fr w w2 r g) := by rw [hw2]; exact HF0.out.trans (HFX.out.trans (Fr.set r 0 _ g1) (.inl rfl)) HG0.out
            clear HP
            have HP : Hid (g2 ≠ some r) := HNR.out
            clear hw2 p0 p1 e0 e1 HH1 HS1 HNR HFX
            obtain ⟨zs2, hz2'⟩ : ∃ zs2, zs2 = zs1 ++ [0] := ⟨_, rfl⟩
            have hk1 : zs2.length = k + 1 := by rw [hz2', List.length_append, HK1.out]; rfl
            have hby : Bytes zs2 := by rw [hz2']; exact HB0.out.append (by intro z hz; simp at hz; omega)
            have HI : Hid (litN zs2 = W + U % 2 ^ done * 2 ^ count ∧ W + U % 2 ^ done * 2 ^ count < 2 ^ (8 * k)) := by
              rw [hz2', litN_snoc]; exact ⟨by rw [Int.zero_mul, Int.add_zero]; exact HI0.out.1, HI0.out.2⟩
            rw [← hz2'] at hs
            clear hz2'
            have hgb : g2 = some b := by
              rcases hs with ⟨h, _⟩ | ⟨b', off', cq, cur, h, h', _⟩
              · cases h
              · simp only [Value.slice.injEq, Option.some.injEq, Addr.mk.injEq] at h; rw [h', h.1.1]
            have hrb : r ≠ b := fun e => HP.out (by rw [hgb, e])
            obtain ⟨q0, q1, f0, f1⟩ := two_cells hh
            have hq' : ∀ x, (w2.setCell ⟨b, off + k, none⟩ x).cell? ⟨r, 1, none⟩ = some (.int .i64 (8 * k)) ∧ (w2.setCell ⟨b, off + k, none⟩ x).frozen? ⟨r, 1, none⟩ = false := fun x => by
              have := two_cells ((Below.heap_setCell w2 ⟨b, off + k, none⟩ x r hrb).trans hh)
              exact ⟨this.2.1, this.2.2.2⟩
            have hq1 := fun x => (hq' x).1
            have hf1 := fun x => (hq' x).2
            have hck : w2.cell? ⟨b, off + k, none⟩ = some (.int .u8 (zs2[k]?.getD 0)) := by
              rw [hs.cell k (by rw [vals_len]; omega), vals_at _ _ (by omega)]
            have hfk : w2.frozen? ⟨b, off + k, none⟩ = false := hs.frozen _
            have HB : Hid (Bytes zs2) := hby
            generalize hL : zs2[k]?.getD 0 = L at *
            have HL : Hid (zs2[k]?.getD 0 = L) := hL
            have HH : Hid (w2.heap[r]? = some (.cells #[.slice (some ⟨b, off, none⟩) (k + 1) cv2, .int .i64 (8 * k)] 89 (0, 0))) := hh
            have HS : Hid (Sl w2 5 (.slice (some ⟨b, off, none⟩) (k + 1) cv2) g2 (vals zs2)) := hs
            have hkb : k ≤ 1000032 := by have := HK.out; omega
            have hk0 : (0 : Int) ≤ (k : Int) := by omega
            have hkk : (k : Int) < (k : Int) + 1 := by omega
            have hwk : IntKind.i64.wrap (k : Int) = (k : Int) := by rw [IntKind.wrap_i64]; omega
            have hwk2 : IntKind.i64.wrap ((k : Int) + 1 - 1) = (k : Int) := by rw [IntKind.wrap_i64]; omega
            clear hh hs hL hq' hgb hby
            have HPB : Hid (8 ≤ 8 ∧ 0 + 8 ≤ 8 ∧ 8 ≤ l ∧ 1 ≤ 8 ∧ (8 : Int) = ((8 : Nat) : Int)) := ⟨by omega, by omega, by omega, by omega, by omega⟩
            have hX0 := Int.emod_nonneg (U / 2 ^ done) (show (2 : Int) ^ 8 ≠ 0 by have := two_pos 8; omega)
            have hX1 := Int.emod_lt_of_pos (U / 2 ^ done) (two_pos 8)
            have HX : Hid (0 ≤ U / 2 ^ done % 2 ^ 8 ∧ U / 2 ^ done % 2 ^ 8 < 2 ^ 8) := ⟨hX0, hX1⟩
            clear hX0 hX1
            go_wp2
            refine wp_region_still_tail 20 (by kernel_rfl) (by kernel_rfl) ?_
            simp only [List.take_succ_cons, List.take_zero, List.drop_succ_cons, List.drop_zero]
            rw [show ({ w2 with drawn := w2.drawn + 1 } : World) = w2.drew from rfl]
            repeat still_step
            still_call (lowest_int _ _ 8 _ rfl hU2.1 hU2.2 (by have := HPB.out; omega))
            repeat still_step
            refine wpStill_nil ?_
            go_wp2
            go_roundw
            case rel =>
              have F := put_fin (p := 8) (Y := bits .or .u8 L (U / 2 ^ done % 256)) (Z := 8 * (k : Int) + 8) HH.out HS.out HL.out HB.out hk1 HI.out.1 HI.out.2 HK.out HPB.out.2.1 HPB.out.2.2.2.1 HX.out.1 HX.out.2 (yy8 _ _) (by have := HPB.out; first | omega | (rw [Int.natCast_mul]; rfl))
              refine ⟨done + 8, l - 8, by have := HD.out; have := HPB.out; omega, congrArg (Value.int .u64) (by rw [ediv_pow]; first | done | rfl), congrArg (Value.int .i64) (by have := HPB.out; omega), g2, zs2.set k (L + U / 2 ^ done % 2 ^ 8 * 2 ^ 0), ?_, ?_, HG2.out, HF2.out.trans ?_ HG2.out⟩
              · rw [← Nat.add_assoc, ← HC.out]
                exact F.1
              · rw [← Nat.add_assoc, ← HC.out, put_sum, ← HC.out]
                exact F.2.1
              · exact F.2.2
            case measure => have := HPB.out; simp only [intOf]; omega
        · have hne : ((u : Int) == 0) = false := by simp; omega
          have hk1 : zs1.length = k + 1 := by have := HK.out; omega
          rw [hk1] at hh hs hl1'
          have hsome : ∃ b off, av = some ⟨b, off, none⟩ := by
            rcases hs with ⟨_, _, hx⟩ | ⟨b, off, cq, cur, h, _⟩
            · have := congrArg List.length hx
              rw [vals_len, hk1] at this
              simp at this
            · simp only [Value.slice.injEq] at h; exact ⟨b, off, h.1⟩
          obtain ⟨b, off, rfl⟩ := hsome
          obtain ⟨w2, hw2⟩ : ∃ w2, w2 = wr := ⟨_, rfl⟩
          subst hw2
          obtain ⟨g2, hg2⟩ : ∃ g2, g2 = g1 := ⟨_, rfl⟩
          subst hg2
          obtain ⟨zs2, hz2⟩ : ∃ zs2, zs2 = zs1 := ⟨_, rfl⟩
          subst hz2
          have HG2 : Hid (g2 = g ∨ ∃ k, g2 = some k ∧ w.heap.size ≤ k) := hg1
          have HF2 : Hid (Fr w w2 r g) := hfr
          have HI : Hid (litN zs2 = W + U % 2 ^ done * 2 ^ count ∧ W + U % 2 ^ done * 2 ^ count < 2 ^ c) := ⟨hlit, hltw⟩
          clear hg1 hfr hlit hltw
          obtain ⟨cv2, hcv2⟩ : ∃ cv2, cv2 = cv := ⟨_, rfl⟩
          subst hcv2
          have hgb : g2 = some b := by
            rcases hs with ⟨h, _⟩ | ⟨b', off', cq, cur, h, h', _⟩
            · cases h
            · simp only [Value.slice.injEq, Option.some.injEq, Addr.mk.injEq] at h; rw [h', h.1.1]
          have hrb : r ≠ b := fun e => HP.out (by rw [hgb, e])
          obtain ⟨q0, q1, f0, f1⟩ := two_cells hh
          have hq' : ∀ x, (w2.setCell ⟨b, off + k, none⟩ x).cell? ⟨r, 1, none⟩ = some (.int .i64 c) ∧ (w2.setCell ⟨b, off + k, none⟩ x).frozen? ⟨r, 1, none⟩ = false := fun x => by
            have := two_cells ((Below.heap_setCell w2 ⟨b, off + k, none⟩ x r hrb).trans hh)
            exact ⟨this.2.1, this.2.2.2⟩
          have hq1 := fun x => (hq' x).1
          have hf1 := fun x => (hq' x).2
          have hck : w2.cell? ⟨b, off + k, none⟩ = some (.int .u8 (zs2[k]?.getD 0)) := by
            rw [hs.cell k (by rw [vals_len]; omega), vals_at _ _ (by omega)]
          have hfk : w2.frozen? ⟨b, off + k, none⟩ = false := hs.frozen _
          have HB : Hid (Bytes zs2) := hby
          generalize hL : zs2[k]?.getD 0 = L at *
          have HL : Hid (zs2[k]?.getD 0 = L) := hL
          have HH : Hid (w2.heap[r]? = some (.cells #[.slice (some ⟨b, off, none⟩) (k + 1) cv2, .int .i64 c] 89 (0, 0))) := hh
          have HS : Hid (Sl w2 5 (.slice (some ⟨b, off, none⟩) (k + 1) cv2) g2 (vals zs2)) := hs
          have hkb : k ≤ 1000032 := by have := HK.out; omega
          have hk0 : (0 : Int) ≤ (k : Int) := by omega
          have hkk : (k : Int) < (k : Int) + 1 := by omega
          have hwk : IntKind.i64.wrap (k : Int) = (k : Int) := by rw [IntKind.wrap_i64]; omega
          have hwk2 : IntKind.i64.wrap ((k : Int) + 1 - 1) = (k : Int) := by rw [IntKind.wrap_i64]; omega
          clear hh hs hL hq' hgb hby
          by_cases hmn : (l : Int) ≤ 8 - u
          · have hmn' : l ≤ 8 - u := by omega
            have HPB : Hid (l ≤ 8 ∧ u + l ≤ 8 ∧ l ≤ l ∧ 1 ≤ l ∧ (l : Int) = ((l : Nat) : Int)) := ⟨by omega, by omega, by omega, by omega, by omega⟩
            have hX0 := Int.emod_nonneg (U / 2 ^ done) (show (2 : Int) ^ l ≠ 0 by have := two_pos l; omega)
            have hX1 := Int.emod_lt_of_pos (U / 2 ^ done) (two_pos l)
            have HX : Hid (0 ≤ U / 2 ^ done % 2 ^ l ∧ U / 2 ^ done % 2 ^ l < 2 ^ l) := ⟨hX0, hX1⟩
            clear hX0 hX1
            go_wp2
            refine wp_region_still_tail 20 (by kernel_rfl) (by kernel_rfl) ?_
            simp only [List.take_succ_cons, List.take_zero, List.drop_succ_cons, List.drop_zero]
            rw [show ({ w2 with drawn := w2.drawn + 1 } : World) = w2.drew from rfl]
            repeat still_step
            still_call (lowest_int _ _ l _ rfl hU2.1 hU2.2 (by have := HPB.out; omega))
            repeat still_step
            refine wpStill_nil ?_
            go_wp2
            go_roundw
            case rel =>
              have F := put_fin (p := l) (Y := bits .or .u8 L (IntKind.u64.wrap (U / 2 ^ done % 2 ^ l * 2 ^ u) % 256)) (Z := (c : Int) + l) HH.out HS.out HL.out HB.out hk1 HI.out.1 HI.out.2 HK.out HPB.out.2.1 HPB.out.2.2.2.1 HX.out.1 HX.out.2 rfl (by have := HPB.out; first | omega | (rw [Int.natCast_mul]; rfl))
              refine ⟨done + l, l - l, by have := HD.out; have := HPB.out; omega, congrArg (Value.int .u64) (by rw [ediv_pow]; first | done | rfl), congrArg (Value.int .i64) (by have := HPB.out; omega), g2, zs2.set k (L + U / 2 ^ done % 2 ^ l * 2 ^ u), ?_, ?_, HG2.out, HF2.out.trans ?_ HG2.out⟩
              · rw [← Nat.add_assoc, ← HC.out]
                exact F.1
              · rw [← Nat.add_assoc, ← HC.out, put_sum, ← HC.out]
                exact F.2.1
              · exact F.2.2
            case measure => have := HPB.out; simp only [intOf]; omega
          · have hmn' : 8 - u < l := by omega
            have HPB : Hid ((8 - u) ≤ 8 ∧ u + (8 - u) ≤ 8 ∧ (8 - u) ≤ l ∧ 1 ≤ (8 - u) ∧ 8 - (u : Int) = (((8 - u) : Nat) : Int)) := ⟨by omega, by omega, by omega, by omega, by omega⟩
            have hX0 := Int.emod_nonneg (U / 2 ^ done) (show (2 : Int) ^ (8 - u) ≠ 0 by have := two_pos (8 - u); omega)
            have hX1 := Int.emod_lt_of_pos (U / 2 ^ done) (two_pos (8 - u))
            have HX : Hid (0 ≤ U / 2 ^ done % 2 ^ (8 - u) ∧ U / 2 ^ done % 2 ^ (8 - u) < 2 ^ (8 - u)) := ⟨hX0, hX1⟩
            clear hX0 hX1
            go_wp2
            refine wp_region_still_tail 20 (by kernel_rfl) (by kernel_rfl) ?_
            simp only [List.take_succ_cons, List.take_zero, List.drop_succ_cons, List.drop_zero]
            rw [show ({ w2 with drawn := w2.drawn + 1 } : World) = w2.drew from rfl]
            repeat still_step
            still_call (lowest_int _ _ (8 - u) _ HPB.out.2.2.2.2 hU2.1 hU2.2 (by have := HPB.out; omega))
            repeat still_step
            refine wpStill_nil ?_
            go_wp2
            go_roundw
            case rel =>
              have F := put_fin (p := (8 - u)) (Y := bits .or .u8 L (IntKind.u64.wrap (U / 2 ^ done % 2 ^ (8 - u) * 2 ^ u) % 256)) (Z := (c : Int) + (8 - (u : Int))) HH.out HS.out HL.out HB.out hk1 HI.out.1 HI.out.2 HK.out HPB.out.2.1 HPB.out.2.2.2.1 HX.out.1 HX.out.2 rfl (by have := HPB.out; first | omega | (rw [Int.natCast_mul]; rfl))
              refine ⟨done + (8 - u), l - (8 - u), by have := HD.out; have := HPB.out; omega, congrArg (Value.int .u64) (by rw [ediv_pow]; first | done | rfl), congrArg (Value.int .i64) (by have := HPB.out; omega), g2, zs2.set k (L + U / 2 ^ done % 2 ^ (8 - u) * 2 ^ u), ?_, ?_, HG2.out, HF2.out.trans ?_ HG2.out⟩
              · rw [← Nat.add_assoc, ← HC.out]
                exact F.1
              · rw [← Nat.add_assoc, ← HC.out, put_sum, ← HC.out]
                exact F.2.1
              · exact F.2.2
            case measure => have := HPB.out; simp only [intOf]; omega
end Go.Proofs.Ytcbmlioeeoghkaa
