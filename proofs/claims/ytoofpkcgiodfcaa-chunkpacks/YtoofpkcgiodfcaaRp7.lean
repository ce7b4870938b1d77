/- Chunks are packed as the document says: the law. -/
import Derived.Test.YtoofpkcgiodfcaaRp6
namespace Go.Proofs.Ytoofpkcgiodfcaa
open Go.RowKit
/-- What holds of the copies. -/
def PkI (w1 : World) (F : Nat → Ck) (k : Nat) (v : Value) (wr : World) : Prop := k ≤ 101 ∧ sumL F k ≤ 5000 ∧ Below w1.heap.size w1 wr ∧ ∃ G, CkOwn w1.heap.size wr v k G ∧ ∀ i, i < k → (G i).kind = (F i).kind ∧ (G i).z = (F i).z
theorem pk_one {w w' : World} {G F : Nat → Ck} {k : Nat} {e : Ending} (h : PkPost w G k e w') (hG : ∀ i, i < k → (G i).kind = (F i).kind ∧ (G i).z = (F i).z) : ∃ ab cb, e = .returned (.tuple #[.slice ab (if (∀ i, i < k → isK (kb (F i).kind) = true) then packB F k else []).length cb, .int .i64 (if (∀ i, i < k → isK (kb (F i).kind) = true) then 0 else 1)]) ∧ Row w' ab (if (∀ i, i < k → isK (kb (F i).kind) = true) then packB F k else []) ∧ Below w.heap.size w w' := by
  obtain ⟨hb, h1, h2⟩ := h
  by_cases hk : ∀ i, i < k → isK (kb (F i).kind) = true
  · obtain ⟨a', c', rfl, hl, hm, hn, hr, _⟩ := h1 ((okK_congr k hG).2 hk)
    rw [packB_congr k hG] at hr ⊢
    rw [if_pos hk, if_pos hk]
    exact ⟨a', c', rfl, hr, hb⟩
  · rw [if_neg hk, if_neg hk]
    exact ⟨none, 0, h2 (fun h => hk ((okK_congr k hG).1 h)), .inl rfl, hb⟩
set_option maxHeartbeats 6400000 in
set_option maxRecDepth 20000 in
theorem cpacks_walk (a : Option Addr) (len cap : Nat) (F : Nat → Ck) (w : World) (h : CkIn w a len cap F) : Calls Try.prog 4 #[.slice a len cap] w fun e w' => e = .returned (.bool true) ∧ Below w.heap.size w w' := by
  have C := kfixed_any w
  have HA : Hid (CkIn w a len cap F) := h
  have hlm : len ≤ 9223372036854775807 := by have := h.1.1; have := h.1.2.1; unfold maxLen at this; omega
  clear h
  go_enter Try.func4, Try.ntmps4
  go_wp2_with fail
  refine C.mono ?_
  clear C
  rintro e w1 ⟨rfl, hb1⟩
  have H1 : Hid (Below w.heap.size w w1 ∧ CkArg w1 a len cap F) := ⟨hb1, HA.out.1.old hb1⟩
  clear hb1
  go_wp2
  go_loopw [3, 4, 5, 6, 16] (fun n v _ _ t wr => ∃ k : Nat, k ≤ len ∧ t = .int .i64 k ∧ n = .int .i64 (sumL F k : Nat) ∧ Hid (PkI w1 F k v wr)) (fun _ _ _ _ t _ => len - (intOf t).toNat)
  case atStart => exact ⟨0, Nat.zero_le _, rfl, rfl, by omega, by show 0 ≤ _; omega, Below.refl _ _, F, ⟨World.ownsRow_nil _ _ _ _, fun i hi => absurd hi (by omega)⟩, fun i hi => absurd hi (by omega)⟩
  case round =>
    obtain ⟨k, hk, rfl, rfl, HI⟩ := hrel
    obtain ⟨hk1, hk5, hb, G, hown, hG⟩ := HI.out
    clear HI
    by_cases hlt : k < len
    · obtain ⟨b, off, rfl, hc⟩ := H1.out.2.2.2 (by omega)
      obtain ⟨h1, h2, h3⟩ := hc k hlt
      have hbl : b < w1.heap.size := cell_lt h1
      have k1 : wr.cell? ⟨b, off + k * 2, none⟩ = some (.string (F k).kind) := (World.cell?_of_block (a := ⟨b, off + k * 2, none⟩) (hb.block b hbl)).trans h1
      have k2 : wr.cell? ⟨b, off + k * 2 + 1, none⟩ = some (.slice (F k).a (F k).z.length (F k).c) := (World.cell?_of_block (a := ⟨b, off + k * 2 + 1, none⟩) (hb.block b hbl)).trans h2
      obtain ⟨kd, hkd⟩ : ∃ kd, (F k).kind = kd := ⟨_, rfl⟩
      obtain ⟨z, hz⟩ : ∃ z, (F k).z = z := ⟨_, rfl⟩
      obtain ⟨fa, hfa⟩ : ∃ fa, (F k).a = fa := ⟨_, rfl⟩
      obtain ⟨fc, hfc⟩ : ∃ fc, (F k).c = fc := ⟨_, rfl⟩
      obtain ⟨Z, hZ⟩ : ∃ Z, z.length = Z := ⟨_, rfl⟩
      obtain ⟨e1, e2, ⟨e3, e3'⟩, e4, e5⟩ := h3
      simp only [Ck.pt] at e1 e2 e3 e3' e4 e5
      rw [hkd] at k1
      rw [hfa, hz, hfc, hZ] at k2
      rw [hz] at e1 e2 e3 e5
      rw [hfc] at e2 e3' e4
      rw [hfa] at e4 e5
      rw [hZ] at e2 e3
      obtain ⟨S, hS⟩ : ∃ S, sumL F k = S := ⟨_, rfl⟩
      have HS : Hid (sumL F k = S ∧ sumL F (k + 1) = S + Z) := ⟨hS, by rw [sumL, hS, hz, hZ]⟩
      have HF : Hid ((F k).kind = kd ∧ (F k).z = z ∧ z.length = Z ∧ Row w1 fa z ∧ (fa = none → fc = 0)) := ⟨hkd, hz, hZ, e5, e4⟩
      obtain ⟨wv, hwv⟩ : ∃ wv, wr.alloc (.cells #[.string kd, .slice fa Z fc] 40) = wv := ⟨_, rfl⟩
      have hbv : Below wr.heap.size wr wv := by rw [← hwv]; exact (Below.refl _ _).alloc (Nat.le_refl _) _
      have hVV : wv.heap[wr.heap.size]? = some (.cells #[.string kd, .slice fa Z fc] 40 (0, 0)) := by rw [← hwv]; exact heap_alloc_new _ _
      obtain ⟨c0, c1⟩ := two_cellsT hVV
      have HV : Hid (Below w1.heap.size w1 wv ∧ CkOwn w1.heap.size wv u4 k G ∧ (∀ i, i < k → (G i).kind = (F i).kind ∧ (G i).z = (F i).z) ∧ wv.heap[wr.heap.size]? = some (.cells #[.string kd, .slice fa Z fc] 40 (0, 0))) := ⟨chainB hb hbv hb.size, hown.old hbv, hG, hVV⟩
      rw [hS] at hk5 ⊢
      have HE : Hid (Below w.heap.size w wv) := chainB H1.out.1 (chainB hb hbv hb.size) H1.out.1.size
      clear h1 h2 hc hbl hb hown hG hkd hz hfa hfc hZ e1 e2 e3' e4 e5 hS hbv hVV
      by_cases hgo : S + Z ≤ 5000
      · by_cases hk100 : k ≤ 100
        · have i1 : ¬ (5000 : Int) < (S : Int) + (Z : Int) := by omega
          have i2 : ¬ (100 : Int) < (k : Int) := by omega
          have HBe : Hid (∀ w5, (wv.drew.alloc (.cells #[] 5)).grownBy w5 (some wv.heap.size) → Below wv.heap.size wv w5) := by
            intro w5 hg
            have hsz : (wv.drew.alloc (.cells #[] 5)).heap.size = wv.heap.size + 1 := by simp
            exact ⟨hg.os, hg.tape, hg.output, by have := hg.size; omega, fun k hk => (hg.block k (by omega) (by simp; omega)).trans (((Below.refl wv.heap.size wv.drew).alloc (Nat.le_refl _) (.cells #[] 5)).block k hk)⟩
          have hbe := ((Below.refl wv.heap.size wv).alloc (Nat.le_refl _) (.cells #[] 5)).block _ (lt_of_block HV.out.2.2.2)
          have n0 : (wv.alloc (.cells #[] 5)).cell? ⟨wr.heap.size, 0, none⟩ = some (.string kd) := (World.cell?_of_block (a := ⟨wr.heap.size, 0, none⟩) hbe).trans c0
          have n1 : (wv.alloc (.cells #[] 5)).cell? ⟨wr.heap.size, 1, none⟩ = some (.slice fa Z fc) := (World.cell?_of_block (a := ⟨wr.heap.size, 1, none⟩) hbe).trans c1
          clear hbe
          go_wp2
          go_region_law (first
            | (refine step_more rfl _ _ rfl (.slice (some ⟨wv.heap.size, 0, none⟩) 0 0) (some wv.heap.size) [] rfl (Sl.empty wv.drew 5) fa Z fc z rfl HF.out.2.2.2.2 HF.out.2.2.1 (((HF.out.2.2.2.1.old HV.out.1).same fun _ _ _ => rfl).alloc _) (by show 0 + Z ≤ _; omega) ?_; intro v5 w5 g5 hs5 hg5 hgr5; rw [List.nil_append] at hs5; obtain ⟨a5, c5, hv5, -⟩ := hs5.shape; rw [vals_len, HF.out.2.2.1] at hv5; subst hv5; have b5 : Below wv.heap.size wv w5 := HBe.out w5 hgr5; obtain ⟨d0, d1⟩ := two_cellsT ((b5.block _ (lt_of_block HV.out.2.2.2)).trans HV.out.2.2.2); clear hgr5 hg5)
            | (refine step_chunk rfl _ _ rfl w1.heap.size k u4 G ⟨kd, a5, c5, z⟩ rfl ((HV.out.2.1.old b5).old ((Below.refl _ _).alloc (Nat.le_refl _) _)) g5 (by show Sl _ 5 (.slice a5 z.length c5) g5 (vals z); rw [HF.out.2.2.1]; exact hs5.same fun q hq => ((Below.refl w5.heap.size w5).alloc (Nat.le_refl _) _).block q (hs5.lt hq)) ⟨w5.heap.size, 0, none⟩ 1 rfl (by intro j u hj; rw [Addr.add_lit, World.cell?_alloc_mark, Nat.zero_add]; simp only [HF.out.2.2.1] at hj; simpa using hj) (by omega) (by have := HV.out.1.size; have := b5.size; simp; omega) ?_; intro v6 w6 F6 ho6 hF6 hk6 hb6)
            | fail)
          all_goals
            have HN : Hid (PkI w1 F (k + 1) v6 w6) := by
              refine ⟨by omega, by rw [HS.out.2]; exact hgo, ?_, F6, ho6, fun i hi => ?_⟩
              · have e1 : Below w1.heap.size w1 w5 := chainB HV.out.1 b5 HV.out.1.size
                exact (e1.alloc e1.size _).trans hb6
              · by_cases hik : i = k
                · rw [hik, hk6]; exact ⟨HF.out.1.symm, HF.out.2.1.symm⟩
                · rw [hF6 i (by omega)]; exact HV.out.2.2.1 i (by omega)
            clear ho6 hF6 hk6 hb6 b5 hs5
            go_wp2
            go_roundw
            case rel => exact ⟨k + 1, by omega, by go_num, by rw [HS.out.2]; go_num, HN.out⟩
            case measure => simp [intOf]; omega
        · have i1 : ¬ (5000 : Int) < (S : Int) + (Z : Int) := by omega
          have i2 : (100 : Int) < (k : Int) := by omega
          go_wp2
          go_ret
          exact ⟨rfl, HE.out⟩
      · have i1 : (5000 : Int) < (S : Int) + (Z : Int) := by omega
        go_wp2
        go_ret
        exact ⟨rfl, HE.out⟩
    · obtain rfl : k = len := by omega
      obtain ⟨a4, c4, rfl, _⟩ := hown.shape
      have hall : ∀ i, i < k → Bytes (G i).z ∧ (G i).z.length ≤ 5000 := by
        intro i hi
        rw [(hG i hi).2]
        obtain ⟨b, off, _, hc⟩ := H1.out.2.2.2 (by omega)
        obtain ⟨_, _, h3⟩ := hc i hi
        refine ⟨h3.1, ?_⟩
        have := sumL_at F hi
        omega
      have C2 := pack_any a4 k c4 G wr hk1 (by rw [sumL_congr k hG]; exact hk5) (hown.arg hall)
      have HG : Hid ((∀ i, i < k → (G i).kind = (F i).kind ∧ (G i).z = (F i).z) ∧ CkArg wr a4 k c4 G ∧ CkArg wr a k cap F ∧ Below w.heap.size w wr ∧ sumL F k ≤ 5000) := ⟨hG, hown.arg hall, H1.out.2.old hb, chainB H1.out.1 hb H1.out.1.size, hk5⟩
      clear hall hown hG hb hk5
      go_wp2_with fail
      refine C2.mono ?_
      clear C2
      intro e w2 hp2
      obtain ⟨L, hL⟩ : ∃ L, (if (∀ i, i < k → isK (kb (F i).kind) = true) then packB F k else []) = L := ⟨_, rfl⟩
      obtain ⟨er, her⟩ : ∃ er : Int, (if (∀ i, i < k → isK (kb (F i).kind) = true) then (0 : Int) else 1) = er := ⟨_, rfl⟩
      obtain ⟨a2, c2, rfl, hr2, hb2⟩ := pk_one hp2 HG.out.1
      rw [hL] at hr2 ⊢
      rw [her]
      have C3 := rpack_any a k cap F w2 hk1 HG.out.2.2.2.2 HA.out.2 (HG.out.2.2.1.old hb2)
      have HLE : Hid ((if (∀ i, i < k → isK (kb (F i).kind) = true) then packB F k else []) = L ∧ (if (∀ i, i < k → isK (kb (F i).kind) = true) then (0 : Int) else 1) = er) := ⟨hL, her⟩
      have H2 : Hid (Below wr.heap.size wr w2 ∧ Row w2 a2 L) := ⟨hb2, hr2⟩
      clear hp2 hL her hr2 hb2
      go_wp2_with fail
      refine C3.mono ?_
      clear C3
      intro e w3 hp3
      obtain ⟨a3, c3, rfl, hr3, hb3⟩ := pk_one hp3 (fun i _ => ⟨rfl, rfl⟩)
      rw [HLE.out.1] at hr3 ⊢
      rw [HLE.out.2]
      have hb23 : Below wr.heap.size wr w3 := chainB H2.out.1 hb3 H2.out.1.size
      have H3 : Hid (Row w3 a2 L ∧ Row w3 a3 L ∧ CkArg w3 a4 k c4 G ∧ CkArg w3 a k cap F ∧ Below w.heap.size w w3) := ⟨H2.out.2.old hb3, hr3, HG.out.2.1.old hb23, HG.out.2.2.1.old hb23, chainB HG.out.2.2.2.1 hb23 HG.out.2.2.2.1.size⟩
      clear hp3 hr3 hb3 hb23 H2
      go_wp2
      go_loopw [11, 55] (fun _ t wq => ∃ j : Nat, j ≤ k ∧ t = .int .i64 j ∧ Hid (Below w3.heap.size w3 wq)) (fun _ t _ => k - (intOf t).toNat)
      case atStart => exact ⟨0, Nat.zero_le _, rfl, Below.refl _ _⟩
      case round =>
        obtain ⟨j, hj, rfl, HQ⟩ := hrel
        by_cases hlt : j < k
        · obtain ⟨b, off, rfl, hc⟩ := H3.out.2.2.1.2.2 (by omega)
          obtain ⟨b', off', rfl, hc'⟩ := H3.out.2.2.2.1.2.2 (by omega)
          obtain ⟨h1, h2, h3⟩ := hc j hlt
          obtain ⟨h1', h2', h3'⟩ := hc' j hlt
          obtain ⟨g1, g2⟩ := HG.out.1 j hlt
          have k1 := (World.cell?_of_block (a := ⟨b, off + j * 2, none⟩) (HQ.out.block b (cell_lt h1))).trans h1
          have k2 := (World.cell?_of_block (a := ⟨b, off + j * 2 + 1, none⟩) (HQ.out.block b (cell_lt h1))).trans h2
          have l1 := (World.cell?_of_block (a := ⟨b', off' + j * 2, none⟩) (HQ.out.block b' (cell_lt h1'))).trans h1'
          have l2 := (World.cell?_of_block (a := ⟨b', off' + j * 2 + 1, none⟩) (HQ.out.block b' (cell_lt h1'))).trans h2'
          have r1 : Row wr (G j).a (F j).z := by rw [← g2]; exact h3.2.2.2.2.old HQ.out
          have r2 : Row wr (F j).a (F j).z := h3'.2.2.2.2.old HQ.out
          rw [g1] at k1
          rw [g2] at k2
          have HSm : Hid (∀ n, Calls Try.prog 17 #[.slice (G j).a (F j).z.length (G j).c, .slice (F j).a (F j).z.length (F j).c] (wr.drewN n) fun e w' => e = .returned (.bool true) ∧ w' = wr.drewN n) := fun n => same_any (G j).a (F j).a (F j).z.length (G j).c (F j).c (F j).z (wr.drewN n) rfl (r1.same fun _ _ _ => rfl) (r2.same fun _ _ _ => rfl)
          clear h1 h2 h3 h1' h2' h3' hc hc' g1 g2 r1 r2
          generalize (F j).kind = kd at *
          generalize (F j).z.length = Z at *
          generalize (F j).a = fa at *
          generalize (F j).c = fc at *
          generalize (G j).a = ga at *
          generalize (G j).c = gc at *
          go_wp2
          go_region_held3 (fun u => u.cell? ⟨b, off + j * 2, none⟩ = some (.string kd) ∧ u.cell? ⟨b, off + j * 2 + 1, none⟩ = some (.slice ga Z gc) ∧ u.cell? ⟨b', off' + j * 2, none⟩ = some (.string kd) ∧ u.cell? ⟨b', off' + j * 2 + 1, none⟩ = some (.slice fa Z fc)) (go_keep) (first
            | (go_at_call 17; refine Calls.mono (HSm.out _) ?_; rintro e wq ⟨rfl, hwq⟩; rw [hwq]; clear hwq)
            | fail)
          all_goals
            go_wp2
            go_roundw
            case rel => exact ⟨j + 1, by omega, by go_num, ⟨HQ.out.os, HQ.out.tape, HQ.out.output, HQ.out.size, HQ.out.block⟩⟩
            case measure => simp [intOf]; omega
        · have SA := same_any a2 a3 L.length c2 c3 L wr rfl (H3.out.1.old HQ.out) (H3.out.2.1.old HQ.out)
          have HE : Hid (Below w.heap.size w wr) := chainB H3.out.2.2.2.2 HQ.out H3.out.2.2.2.2.size
          generalize L.length = LL at *
          go_wp2_with (go_at_call 17; refine SA.mono ?_; rintro e wq ⟨rfl, hwq⟩; rw [hwq]; clear hwq)
          go_ret
          exact ⟨rfl, HE.out⟩
end Go.Proofs.Ytoofpkcgiodfcaa
