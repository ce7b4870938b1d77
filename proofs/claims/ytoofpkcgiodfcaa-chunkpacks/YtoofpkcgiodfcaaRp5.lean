/- The reference's Pack. -/
import Derived.Test.YtoofpkcgiodfcaaRp4
namespace Go.Proofs.Ytoofpkcgiodfcaa
open Go.RowKit
theorem own_done {w : World} {F : Nat → Ck} {len : Nat} {v : Value} {wr : World} (h1 : wr.ownsRow w.heap.size 5 1 v (packB F len).length (vals (packB F len))) (hok : okK F len) (hb : Below w.heap.size w wr) : PkPost w F len (.returned (.tuple #[v, .int .i64 0])) wr := by
  refine ⟨hb, fun _ => ?_, fun hn => absurd hok hn⟩
  obtain ⟨g, hs, hg⟩ := Sl.of_owns h1
  obtain ⟨a', c', rfl, hl, hm, hn⟩ := hs.shape
  rw [vals_len] at hl
  refine ⟨a', c', by rw [vals_len], hl, by unfold maxLen at hm; omega, hn, hs.row rfl, ?_, fun _ => ⟨g, by rw [vals_len] at hs; exact hs, hg⟩⟩
  intro x hx
  subst hx
  rcases h1.2 with ⟨hv, _⟩ | ⟨g', cap, cur, hv, hb', _⟩
  · cases hv
  · simp only [Value.slice.injEq, Option.some.injEq] at hv
    rw [hv.1]; exact hb'
theorem own_first (w : World) (B : Nat) (hB : B ≤ w.heap.size) : (w.alloc (.cells #[.int .u8 137, .int .u8 80, .int .u8 78, .int .u8 71, .int .u8 13, .int .u8 10, .int .u8 26, .int .u8 10] 5)).ownsRow B 5 1 (.slice (some ⟨w.heap.size, 0, none⟩) 8 8) first8.length (vals first8) :=
  ⟨rfl, .inr ⟨w.heap.size, 8, _, rfl, hB, heap_alloc_new _ _, Nat.le_refl _, by unfold maxLen; omega, rfl, rfl⟩⟩
set_option maxHeartbeats 6400000 in
set_option maxRecDepth 20000 in
theorem rpack_any (a : Option Addr) (len cap : Nat) (F : Nat → Ck) (w : World) (hl : len ≤ 101) (hs : sumL F len ≤ 5000) (hks : ∀ i, i < len → (F i).kind.size ≤ 9223372036854775807) (h : CkArg w a len cap F) :
    Calls Try.prog 16 #[.slice a len cap] w fun e w' => PkPost w F len e w' := by
  have HA : Hid (CkArg w a len cap F) := h
  have HS : Hid (sumL F len ≤ 5000 ∧ len ≤ 101 ∧ ∀ i, i < len → (F i).kind.size ≤ 9223372036854775807) := ⟨hs, hl, hks⟩
  clear h hs hks
  go_enter Try.func16, Try.ntmps16
  go_wp2
  go_loopw [5, 13] (fun _ t wr => ∃ k : Nat, k ≤ len ∧ t = .int .i64 k ∧ Hid (okK F k ∧ Below w.heap.size w wr)) (fun _ t _ => len - (intOf t).toNat)
  case atStart => exact ⟨0, Nat.zero_le _, rfl, fun i hi => by omega, Below.refl _ _⟩
  case round =>
    obtain ⟨k, hk, rfl, H⟩ := hrel
    obtain ⟨hok, hb⟩ := H.out
    clear H
    have HB : Hid (okK F k ∧ Below w.heap.size w wr) := ⟨hok, hb⟩
    by_cases hlt : k < len
    · obtain ⟨b, off, rfl, hc⟩ := HA.out.2.2 (by omega)
      obtain ⟨h1, h2, h3⟩ := hc k hlt
      have hbl : b < w.heap.size := cell_lt h1
      have k1 : wr.cell? ⟨b, off + k * 2, none⟩ = some (.string (F k).kind) := (World.cell?_of_block (a := ⟨b, off + k * 2, none⟩) (hb.block b hbl)).trans h1
      have k2 : wr.cell? ⟨b, off + k * 2 + 1, none⟩ = some (.slice (F k).a (F k).z.length (F k).c) := (World.cell?_of_block (a := ⟨b, off + k * 2 + 1, none⟩) (hb.block b hbl)).trans h2
      obtain ⟨kd, hkd⟩ : ∃ kd, (F k).kind = kd := ⟨_, rfl⟩
      have HKD : Hid ((F k).kind = kd) := hkd
      have hkz := HS.out.2.2 k hlt
      rw [hkd] at k1 hkz
      have C := fun u => rkindr_any kd hkz u
      clear h1 h2 h3 hc hb hok hkd hkz
      generalize (F k).z.length = Z at *
      generalize (F k).a = fa at *
      generalize (F k).c = fc at *
      cases hK : isK (kb kd) with
      | true =>
        have HK : Hid (isK (kb kd) = true) := hK
        rw [hK] at C
        clear hK
        go_wp2_with (go_at_call 22; refine (C _).mono ?_; rintro e w1 ⟨rfl, rfl⟩)
        go_roundw
        case rel =>
          refine ⟨k + 1, by omega, by go_num, fun i hi => ?_, HB.out.2.alloc (by have := HB.out.2.size; omega) _⟩
          by_cases hik : i = k
          · rw [hik, HKD.out]; exact HK.out
          · exact HB.out.1 i (by omega)
        case measure => simp [intOf]; omega
      | false =>
        have HK : Hid (isK (kb kd) = false) := hK
        rw [hK] at C
        clear hK
        go_wp2_with (go_at_call 22; refine (C _).mono ?_; rintro e w1 ⟨rfl, rfl⟩)
        go_ret2
        refine ⟨HB.out.2.alloc (by have := HB.out.2.size; omega) _, fun hh => ?_, fun _ => rfl⟩
        have := hh k hlt
        rw [HKD.out, HK.out] at this
        cases this
    · obtain rfl : k = len := by omega
      have CF := rfirst_any wr
      obtain ⟨wf, hwf⟩ : ∃ wf, wr.alloc (.cells #[.int .u8 137, .int .u8 80, .int .u8 78, .int .u8 71, .int .u8 13, .int .u8 10, .int .u8 26, .int .u8 10] 5) = wf := ⟨_, rfl⟩
      rw [hwf] at CF
      have HF : Hid (Below w.heap.size w wf ∧ wf.ownsRow w.heap.size 5 1 (.slice (some ⟨wr.heap.size, 0, none⟩) 8 8) first8.length (vals first8)) := by
        rw [← hwf]
        exact ⟨hb.alloc hb.size _, own_first wr _ hb.size⟩
      have HOK : Hid (okK F k) := hok
      obtain ⟨bf, hbf⟩ : ∃ bf, wr.heap.size = bf := ⟨_, rfl⟩
      rw [hbf] at CF HF
      clear hb hok HB hwf hbf
      go_wp2_with (go_at_call 19; refine CF.mono ?_; rintro e wq ⟨rfl, hwq⟩; rw [hwq]; clear hwq)
      clear CF
      go_loopw [8, 25] (fun _ t wq => ∃ j : Nat, j ≤ k ∧ t = .int .i64 j ∧ Hid (Below w.heap.size w wq ∧ wq.ownsRow w.heap.size 5 1 (.slice (some ⟨bf, 0, none⟩) 8 8) first8.length (vals first8))) (fun _ t _ => k - (intOf t).toNat)
      case atStart => exact ⟨0, Nat.zero_le _, rfl, HF.out.1, HF.out.2⟩
      case round =>
        obtain ⟨j, hj, rfl, HQ⟩ := hrel
        by_cases hlt : j < k
        · obtain ⟨b, off, rfl, hc⟩ := HA.out.2.2 (by omega)
          obtain ⟨h1, h2, h3⟩ := hc j hlt
          have hbl : b < w.heap.size := cell_lt h1
          have k1 : wr.cell? ⟨b, off + j * 2, none⟩ = some (.string (F j).kind) := (World.cell?_of_block (a := ⟨b, off + j * 2, none⟩) (HQ.out.1.block b hbl)).trans h1
          have k2 : wr.cell? ⟨b, off + j * 2 + 1, none⟩ = some (.slice (F j).a (F j).z.length (F j).c) := (World.cell?_of_block (a := ⟨b, off + j * 2 + 1, none⟩) (HQ.out.1.block b hbl)).trans h2
          have hz5 : (F j).z.length ≤ 5000 := by have := sumL_at F hlt; have := HS.out.1; omega
          clear h1 h2 h3 hc hbl
          generalize (F j).kind = kd at *
          generalize (F j).z.length = Z at *
          generalize (F j).a = fa at *
          generalize (F j).c = fc at *
          have hz5i : ¬ (1048576 : Int) < (Z : Int) := by omega
          go_wp2
          go_roundw
          case rel => exact ⟨j + 1, by omega, by go_num, HQ.out.1.alloc HQ.out.1.size _, own_keep HQ.out.2 ((Below.refl _ _).alloc (Nat.le_refl _) _)⟩
          case measure => simp [intOf]; omega
        · go_wp2
          clear hlt
          go_loopw [6, 10, 36] (fun v6 _ t wq => ∃ j : Nat, j ≤ k ∧ t = .int .i64 j ∧ Hid (∃ a6 c6, v6 = .slice a6 (packB F j).length c6 ∧ Below w.heap.size w wq ∧ wq.ownsRow w.heap.size 5 1 v6 (packB F j).length (vals (packB F j)))) (fun _ _ t _ => k - (intOf t).toNat)
          case atStart => exact ⟨0, Nat.zero_le _, rfl, _, _, rfl, HQ.out.1, HQ.out.2⟩
          case round =>
            clear HQ HF
            obtain ⟨j, hj, rfl, HR⟩ := hrel
            obtain ⟨a6, c6, rfl, hb, hown⟩ := HR.out
            clear HR
            by_cases hlt : j < k
            · obtain ⟨b, off, rfl, hc⟩ := HA.out.2.2 (by omega)
              obtain ⟨h1, h2, h3⟩ := hc j hlt
              have hbl : b < w.heap.size := cell_lt h1
              have k1 : wr.cell? ⟨b, off + j * 2, none⟩ = some (.string (F j).kind) := (World.cell?_of_block (a := ⟨b, off + j * 2, none⟩) (hb.block b hbl)).trans h1
              have k2 : wr.cell? ⟨b, off + j * 2 + 1, none⟩ = some (.slice (F j).a (F j).z.length (F j).c) := (World.cell?_of_block (a := ⟨b, off + j * 2 + 1, none⟩) (hb.block b hbl)).trans h2
              have hz5 : (F j).z.length ≤ 5000 := by have := sumL_at F hlt; have := HS.out.1; omega
              have hkj := HOK.out j hlt
              have hk4 : (F j).kind.size = 4 := by
                rw [← kb_len]
                simp only [isK, Bool.and_eq_true, decide_eq_true_eq] at hkj
                exact hkj.1
              have hpl : (packB F j).length ≤ 10000 := by
                rw [packB_len F j (fun i hi => HOK.out i (by omega))]
                have := sumL_le F (show j ≤ k by omega)
                have := HS.out
                omega
              obtain ⟨wv, hwv⟩ : ∃ wv, wr.alloc (.cells #[.string (F j).kind, .slice (F j).a (F j).z.length (F j).c] 40) = wv := ⟨_, rfl⟩
              have hbv : Below wr.heap.size wr wv := by rw [← hwv]; exact (Below.refl _ _).alloc (Nat.le_refl _) _
              obtain ⟨c0, c1⟩ := two_cellsT (show wv.heap[wr.heap.size]? = some (.cells #[.string (F j).kind, .slice (F j).a (F j).z.length (F j).c] 40 (0, 0)) by rw [← hwv]; exact heap_alloc_new _ _)
              have hbw : Below w.heap.size w wv := chainB hb hbv hb.size
              have CO := rone_any (F j).kind (F j).a (F j).z.length (F j).c (F j).z wv rfl (h3.old hbw) hk4 hz5
              have HO : Hid (wv.ownsRow w.heap.size 5 1 (.slice a6 (packB F j).length c6) (packB F j).length (vals (packB F j)) ∧ Below w.heap.size w wv ∧ w.heap.size ≤ wv.heap.size ∧ packB F (j + 1) = packB F j ++ chB (kb (F j).kind) (F j).z ∧ (chB (kb (F j).kind) (F j).z).length = 8 + 4 + (F j).z.length) := by
                refine ⟨own_keep hown hbv, hbw, hbw.size, rfl, ?_⟩
                rw [chB_len, kb_len, hk4]
              clear h1 h2 h3 hc hbl hb hown hkj hk4 hbv hbw
              obtain ⟨PB, hPB⟩ : ∃ PB, packB F j = PB := ⟨_, rfl⟩
              obtain ⟨CB, hCB⟩ : ∃ CB, chB (kb (F j).kind) (F j).z = CB := ⟨_, rfl⟩
              rw [hPB] at HO hpl
              rw [hCB] at HO CO
              rw [hPB]
              clear hPB hCB
              generalize (F j).kind = kd at *
              generalize (F j).z.length = Z at *
              generalize (F j).a = fa at *
              generalize (F j).c = fc at *
              have hbig : ¬ (1048576 : Int) < (PB.length : Int) + (Z : Int) + 12 := by omega
              obtain ⟨PL, hPL⟩ : ∃ PL, PB.length = PL := ⟨_, rfl⟩
              have HPL : Hid (PB.length = PL) := hPL
              rw [hPL] at hpl hbig ⊢
              rw [hPL] at HO
              clear hPL
              go_wp2_with (first
                | (go_at_call 28; refine CO.mono ?_; clear CO; rintro e w2 ⟨a2, c2, rfl, hl2, hm2, hn2, hr2, hb2⟩)
                | (at_builtin; refine own_more rfl _ _ rfl w.heap.size (.slice a6 PL c6) PB rfl (by rw [HPL.out]; exact own_keep HO.out.1 hb2) a2 CB.length c2 CB rfl hn2 rfl hr2 (by have := HO.out.2.2.2.2; have := HPL.out; omega) (Nat.le_trans HO.out.2.2.1 hb2.size) ?_; intro v3 w3 ho3 hg3; have hb3 : Below w.heap.size w w3 := (chainB HO.out.2.1 hb2 HO.out.2.2.1).grown hg3 (Nat.le_trans HO.out.2.2.1 hb2.size) (own_blk HO.out.1)))
              have HN : Hid (∃ a6 c6, v3 = .slice a6 (packB F (j + 1)).length c6 ∧ Below w.heap.size w w3 ∧ w3.ownsRow w.heap.size 5 1 v3 (packB F (j + 1)).length (vals (packB F (j + 1)))) := by
                rw [HO.out.2.2.2.1]
                obtain ⟨g, hs, _⟩ := Sl.of_owns ho3
                obtain ⟨a', c', hv, _⟩ := hs.shape
                rw [vals_len] at hv
                exact ⟨a', c', hv, hb3, ho3⟩
              clear ho3 hg3 hb3
              go_roundw
              case rel => exact ⟨j + 1, by omega, by go_num, HN.out⟩
              case measure => simp [intOf]; omega
            · obtain rfl : j = k := by omega
              have HPF : Hid (PkPost w F j (.returned (.tuple #[.slice a6 (packB F j).length c6, .int .i64 0])) wr) := own_done hown HOK.out hb
              clear hown hb
              go_wp2
              go_ret2
              exact HPF.out
end Go.Proofs.Ytoofpkcgiodfcaa
