/- A line's places are made known, or none. -/
import Derived.Test.YtjheipfcehddhaaCvB
namespace Go.Proofs.Ytjheipfcehddhaa
open Go.RowKit
/-- What mark leaves. -/
def MkPost (w : World) (c p k : Nat) (W H : Int) (N : Nat) (F : Nat → Col) (M : Nat → Bool) (n : Int) (S : List (Int × Int)) (e : Ending) (w' : World) : Prop :=
  e = .returned (.bool (frB W M S S.length)) ∧ F3 c p k w w' ∧ Cv w' c p k W H N F (if frB W M S S.length then mkM W M S S.length else M) n
theorem frB_stop {W : Int} {M : Nat → Bool} {S : List (Int × Int)} {i : Nat} (h : mkM W M S i (ixC W (spA S i)) = true) : ∀ j, i < j → frB W M S j = false
  | 0, hj => absurd hj (by omega)
  | j + 1, hj => by
    cases hq : frB W M S (j + 1) with
    | false => rfl
    | true => rw [(frB_at hq i hj).2] at h; cases h
set_option maxHeartbeats 3200000 in
theorem mark_any {w : World} {c p k : Nat} {W H : Int} {N : Nat} {F : Nat → Col} {M : Nat → Bool} {n : Int} (h : Cv w c p k W H N F M n) (S : List (Int × Int)) (a : Option Addr) (cap : Nat) (hs : ∀ w', F3 c p k w w' → SpRow w' a S) (hl : S.length ≤ 1000000) (hcap : S.length ≤ cap) (ha : S.all (onC W H) = true) :
    Calls Try.prog 28 #[.pointer (some ⟨c, 0, none⟩), .slice a S.length cap] w fun e w' => MkPost w c p k W H N F M n S e w' := by
  have HS : Hid (∀ w', F3 c p k w w' → SpRow w' a S) := hs
  have HA : Hid (S.all (onC W H) = true) := ha
  have HC : Hid (Cv w c p k W H N F M n) := h
  clear h hs ha
  obtain ⟨L, hL⟩ : ∃ L, S.length = L := ⟨_, rfl⟩
  have HL : Hid (S.length = L) := hL
  rw [hL] at hl hcap ⊢
  clear hL
  go_enter Try.func28, Try.ntmps28
  go_wp2
  go_loopw [5, 6, 9] (fun _ _ v wr => ∃ i : Nat, i ≤ L ∧ v = .int .i64 i ∧ Hid (F3 c p k w wr ∧ Cv wr c p k W H N F (mkM W M S i) n ∧ frB W M S i = true)) (fun _ _ v _ => L - (intOf v).toNat)
  case atStart => exact ⟨0, Nat.zero_le _, rfl, F3.refl _ _ _ _, HC.out, rfl⟩
  case round =>
    obtain ⟨i, hi, rfl, HB⟩ := hrel
    by_cases hlt : i < L
    · have hsr : SpRow wr a S := HS.out _ HB.out.1
      have hi' : i < S.length := by have := HL.out; omega
      obtain ⟨b, off, rfl, c0, c1⟩ := hsr.at hi'
      have hon := all_at HA.out hi'
      obtain ⟨-, -, -, hI⟩ := HB.out.2.1.sz.ix hon
      have CH := fun (w1 : World) (hb : Below wr.heap.size wr w1) => cindex_any (HB.out.2.1.old hb) (spA S i).1 (spA S i).2 hon
      have hN := HB.out.2.1.sz.m
      have e0 : ixC W ((spA S i).1, (spA S i).2) = ixC W (spA S i) := rfl
      simp only [e0] at CH
      obtain ⟨I, hIe⟩ : ∃ I, I = ixC W (spA S i) := ⟨_, rfl⟩
      have HI : Hid (I = ixC W (spA S i)) := hIe
      have hcapi : i ≤ cap := by omega
      rw [← hIe] at CH hI
      clear hIe e0 hon hi' hsr
      generalize (spA S i).1 = x at *
      generalize (spA S i).2 = y at *
      go_upto_region 4 with fail
      obtain ⟨m0, m1⟩ := two_new wr (.int .i64 x) (.int .i64 y) 58
      have HB2 : Hid (Below wr.heap.size wr (wr.alloc (.cells #[.int .i64 x, .int .i64 y] 58))) := below_new _ _
      have CHD : Hid (∀ m, Calls Try.prog 29 #[.pointer (some ⟨c, 0, none⟩), .int .i64 x, .int .i64 y] ((wr.alloc (.cells #[.int .i64 x, .int .i64 y] 58)).drewN m) fun e w' => e = .returned (.int .i64 I) ∧ w' = (wr.alloc (.cells #[.int .i64 x, .int .i64 y] 58)).drewN m) := fun m => CH _ (HB2.out.trans ⟨rfl, rfl, rfl, Nat.le_refl _, fun _ _ => rfl⟩)
      clear CH c0 c1
      generalize wr.alloc (.cells #[.int .i64 x, .int .i64 y] 58) = w2 at *
      have HV : Hid (Cv w2 c p k W H N F (mkM W M S i) n) := HB.out.2.1.old HB2.out
      obtain ⟨k0, k1, k2, k3, k4, -⟩ := HV.out.cells
      have kk := HV.out.kn.cell hI
      have kf := HV.out.kn.frozen I
      have hI0 : (I : Int) < (N : Int) := by omega
      obtain ⟨mb, hmb⟩ : ∃ mb, mkM W M S i I = mb := ⟨_, rfl⟩
      rw [hmb] at kk
      have HM : Hid (mkM W M S i I = mb) := hmb
      clear hmb
      refine wp_region_still_tail 11 (by kernel_rfl) (by kernel_rfl) ?_
      simp only [List.take_succ_cons, List.take_zero, List.drop_succ_cons, List.drop_zero]
      rw [show ({ w2 with drawn := w2.drawn + 1 } : World) = w2.drew from rfl]
      repeat still_step
      still_call (CHD.out 1)
      repeat still_step
      refine wpStill_nil ?_
      cases mb with
      | true =>
        have hsr2 : ∀ w', F3 c p k w2.drew w' → SpRow w' (some ⟨b, off, none⟩) (S.take i) := fun w' hf => (HS.out _ (HB.out.1.trans ((F3.of_below (HB2.out.trans ((below_drew _).mono HB2.out.size))).trans hf))).take i
        have hti : (S.take i).length = i := by rw [List.length_take]; have := HL.out; omega
        have CU := unmark_any (HV.out.old (below_drew _)) (S.take i) (some ⟨b, off, none⟩) cap hsr2 (by omega) (all_take HA.out i)
        rw [hti] at CU
        clear hsr2 hti k0 k1 k2 k3 k4 m0 m1 CHD
        go_wp2_with fail
        refine CU.mono ?_
        clear CU kk kf
        rintro e w4 ⟨⟨v, rfl⟩, hf, hv⟩
        have HQ : Hid (MkPost w c p k W H N F M n S (.returned (.bool false)) w4) := by
          have hst := frB_stop (W := W) (M := M) (S := S) (i := i) (by rw [← HI.out]; exact HM.out) S.length (by rw [HL.out]; exact hlt)
          refine ⟨by rw [hst], HB.out.1.trans ((F3.of_below (HB2.out.trans ((below_drew _).mono HB2.out.size))).trans hf), ?_⟩
          rw [hst]
          exact ⟨hv.st, hv.px, hv.kn.congr (fun q _ => un_mk HB.out.2.2 q), hv.sz⟩
        clear hf hv HV HM HB HB2
        go_wp2
        go_ret
        exact HQ.out
      | false =>
        have hk0 : w2.drew.cell? ⟨c, 3, none⟩ = some (.slice (some ⟨k, 0, none⟩) N N) := k3
        go_upto_region 7 with fail
        refine wp_region_still_tail 11 (by kernel_rfl) (by kernel_rfl) ?_
        simp only [List.take_succ_cons, List.take_zero, List.drop_succ_cons, List.drop_zero]
        rw [show ({ w2.drew with drawn := w2.drew.drawn + 1 } : World) = w2.drew.drew from rfl]
        repeat still_step
        still_call (CHD.out 2)
        repeat still_step
        refine wpStill_nil ?_
        go_wp2
        go_roundw
        case rel =>
          refine ⟨i + 1, by omega, by go_num, HB.out.1.trans ((F3.of_below HB2.out).trans ((F3.set w2 k I _ (.inr (.inr rfl))).trans (F3.of_below ⟨rfl, rfl, rfl, Nat.le_refl _, fun _ _ => rfl⟩))), ?_, ?_⟩
          · rw [mkM, ← HI.out]
            exact (HV.out.mark hI true).same rfl rfl rfl
          · rw [frB, ← HI.out, HM.out, HB.out.2.2]; rfl
        case measure => simp [intOf]; omega
    · obtain rfl : i = L := by omega
      have HQ : Hid (MkPost w c p k W H N F M n S (.returned (.bool true)) wr) := by
        unfold MkPost
        rw [HL.out, HB.out.2.2]
        exact ⟨rfl, HB.out.1, HB.out.2.1⟩
      clear HB
      go_wp2
      go_ret
      exact HQ.out
end Go.Proofs.Ytjheipfcehddhaa
