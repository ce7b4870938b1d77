/- The document's Lay: the walk. -/
import Derived.Test.YtjheipfcehddhaaCvP
namespace Go.Proofs.Ytjheipfcehddhaa
open Go.RowKit
set_option maxHeartbeats 6400000 in
set_option maxRecDepth 100000 in
theorem rlay_any {w : World} {c p k : Nat} {W H : Int} {N : Nat} {F : Nat → Col} {M : Nat → Bool} (h : Rv w c p k W H N F M) (l : Ln) (ho : LnOk l) (hs : ∀ w', F3 c p k w w' → LnM w' l) :
    Calls Try.prog 13 #[.pointer (some ⟨c, 0, none⟩), l.V] w fun e w' => RLayPost w c p k W H N F M l e w' := by
  obtain ⟨ps, sa, sc, S, ca, cc, C⟩ := l
  have HS : Hid (∀ w', F3 c p k w w' → SpRow w' sa S ∧ CoRow w' ca C) := fun w' h => ⟨(hs w' h).s, (hs w' h).c⟩
  obtain ⟨o1, o2, o3, o4⟩ := ho
  simp only at o1 o2 o3 o4
  have HC : Hid (Rv w c p k W H N F M) := h
  have HLT : Hid (c < w.heap.size ∧ p < w.heap.size ∧ k < w.heap.size) := ⟨lt_of_block h.st, h.px.lt, h.kn.lt⟩
  clear h hs
  obtain ⟨b0, b1, b2⟩ := three_new w (.int .i64 ps) (.slice sa S.length sc) (.slice ca C.length cc) 35
  have HB1 : Hid (Below w.heap.size w (w.alloc (.cells #[.int .i64 ps, .slice sa S.length sc, .slice ca C.length cc] 35)) ∧ (w.alloc (.cells #[.int .i64 ps, .slice sa S.length sc, .slice ca C.length cc] 35)).heap[w.heap.size]? = some (.cells #[.int .i64 ps, .slice sa S.length sc, .slice ca C.length cc] 35 (0, 0))) := ⟨below_new _ _, World.alloc_heap_new w _⟩
  unfold Ln.V
  obtain ⟨w1, hw1⟩ : ∃ w1, w.alloc (.cells #[.int .i64 ps, .slice sa S.length sc, .slice ca C.length cc] 35) = w1 := ⟨_, rfl⟩
  rw [hw1] at b0 b1 b2 HB1
  by_cases hcl : C.length = S.length
  · rw [hcl] at b2 hw1 ⊢
    have HCL : Hid (C.length = S.length) := hcl
    rw [hcl] at HB1
    clear hcl
    obtain ⟨L, hL⟩ : ∃ L, S.length = L := ⟨_, rfl⟩
    have HL : Hid (S.length = L) := hL
    rw [hL] at o1 o2 b1 b2 HB1 HCL hw1 ⊢
    clear hL
    go_enter Try.func13, Try.ntmps13
    go_wp2
    clear hw1
    go_loopw [6, 23] (fun _ v wr => ∃ i : Nat, i ≤ L ∧ v = .int .i64 i ∧ Hid (Below w1.heap.size w1 wr ∧ ∀ j, j < i → onC W H (spA S j) = true)) (fun _ v _ => L - (intOf v).toNat)
    case atStart => exact ⟨0, Nat.zero_le _, rfl, Below.refl _ _, fun j hj => absurd hj (by omega)⟩
    case round =>
      clear b0 b1 b2
      obtain ⟨i, hi, rfl, HB⟩ := hrel
      have HBW : Hid (Below w.heap.size w wr) := HB1.out.1.trans (HB.out.1.mono HB1.out.1.size)
      by_cases hlt : i < L
      · have hsr : SpRow wr sa S := (HS.out _ (F3.of_below HBW.out)).1
        obtain ⟨b, off, rfl, c0, c1⟩ := hsr.at (i := i) (by have := HL.out; omega)
        have CH := fun (w1 : World) (hb : Below wr.heap.size wr w1) => ron_any ((HC.out.old HBW.out).old hb) (spA S i).1 (spA S i).2
        obtain ⟨o, ho⟩ : ∃ o, onC W H (spA S i) = o := ⟨_, rfl⟩
        have HO : Hid (onC W H (spA S i) = o) := ho
        have he : onC W H ((spA S i).1, (spA S i).2) = o := ho
        simp only [he] at CH
        clear ho he
        generalize (spA S i).1 = x at *
        generalize (spA S i).2 = y at *
        clear hsr
        go_upto_region 6 with fail
        obtain ⟨m0, m1⟩ := two_new wr (.int .i64 x) (.int .i64 y) 58
        have CH2 := CH _ (below_new wr (.cells #[.int .i64 x, .int .i64 y] 58))
        have HB2 : Hid (Below wr.heap.size wr (wr.alloc (.cells #[.int .i64 x, .int .i64 y] 58))) := below_new _ _
        clear CH c0 c1
        generalize wr.alloc (.cells #[.int .i64 x, .int .i64 y] 58) = w2 at *
        go_wp2_with fail
        refine CH2.mono ?_
        clear CH2
        rintro e w3 ⟨rfl, rfl⟩
        cases o with
        | true =>
          go_wp2
          go_roundw
          case rel =>
            refine ⟨i + 1, by omega, by go_num, HB.out.1.trans (HB2.out.mono HB.out.1.size), fun j hj => ?_⟩
            by_cases hji : j < i
            · exact HB.out.2 j hji
            · obtain rfl : j = i := by omega
              exact HO.out
          case measure => simp [intOf]; omega
        | false =>
          have HF : Hid (RLayPost w c p k W H N F M ⟨ps, some ⟨b, off, none⟩, sc, S, ca, cc, C⟩ (.returned (.int .i64 1)) w3) := RLayPost.no (by unfold layE; rw [if_neg (fun q => by have := not_all (by rw [HL.out]; exact hlt) HO.out; rw [this] at q; exact absurd q.2 (by simp))]) (by decide) (HBW.out.trans (HB2.out.mono HBW.out.size)) ((HC.out.old HBW.out).old HB2.out)
          clear HB HB2
          go_wp2
          go_ret
          exact HF.out
      · obtain rfl : i = L := by omega
        have HAL : Hid (S.all (onC W H) = true) := all_of (fun j hj => HB.out.2 j (by rw [HL.out] at hj; exact hj))
        have HBX : Hid (wr.heap[w.heap.size]? = some (.cells #[.int .i64 ps, .slice sa i sc, .slice ca i cc] 35 (0, 0))) := (HB.out.1.block _ (lt_of_block HB1.out.2)).trans HB1.out.2
        have hb1 : wr.cell? ⟨w.heap.size, 1, none⟩ = some (.slice sa i sc) := by simp [World.cell?, HBX.out]
        obtain ⟨w5, hw5⟩ : ∃ w5, w5 = wr := ⟨_, rfl⟩
        subst hw5
        go_wp2
        clear hb1
        go_loopw [38] (fun v wr => ∃ j : Nat, j ≤ i ∧ v = .int .i64 j ∧ Hid (Below w5.heap.size w5 wr ∧ frB W M S j = true)) (fun v _ => i - (intOf v).toNat)
        case atStart => exact ⟨0, Nat.zero_le _, rfl, Below.refl _ _, rfl⟩
        case round =>
          obtain ⟨j, hj, rfl, HJ⟩ := hrel
          have HBR : Hid (Below w.heap.size w wr) := HBW.out.trans (HJ.out.1.mono HBW.out.size)
          have HBXr : Hid (wr.heap[w.heap.size]? = some (.cells #[.int .i64 ps, .slice sa i sc, .slice ca i cc] 35 (0, 0))) := (HJ.out.1.block _ (lt_of_block HBX.out)).trans HBX.out
          by_cases hlt2 : j < i
          · have hsr : SpRow wr sa S := (HS.out _ (F3.of_below HBR.out)).1
            have hj' : j < S.length := by have := HL.out; omega
            obtain ⟨b, off, rfl, c0, c1⟩ := hsr.at hj'
            have hon := all_at HAL.out hj'
            obtain ⟨i0, i1, i2, hI⟩ := HC.out.sz.ix hon
            have hN := HC.out.sz.m
            obtain ⟨I, hIe⟩ : ∃ I, ixC W (spA S j) = I := ⟨_, rfl⟩
            have HI : Hid (ixC W (spA S j) = I) := hIe
            rw [hIe] at i2 hI
            clear hIe hon hj' hsr
            obtain ⟨x, hx⟩ : ∃ x, (spA S j).1 = x := ⟨_, rfl⟩
            obtain ⟨y, hy⟩ : ∃ y, (spA S j).2 = y := ⟨_, rfl⟩
            rw [hx] at c0 i2
            rw [hy] at c1 i0 i1 i2
            have HXY : Hid ((spA S j).1 = x ∧ (spA S j).2 = y) := ⟨hx, hy⟩
            clear hx hy
            have wm1 : IntKind.i64.wrap (y * W) = y * W := by rw [IntKind.wrap_i64]; omega
            have wm2 : IntKind.i64.wrap (y * W + x) = (I : Int) := by rw [i2, IntKind.wrap_i64]; omega
            clear i0 i1 i2
            go_upto_region 12 with fail
            obtain ⟨m0, m1⟩ := two_new wr (.int .i64 x) (.int .i64 y) 58
            have HB2 : Hid (Below wr.heap.size wr (wr.alloc (.cells #[.int .i64 x, .int .i64 y] 58)) ∧ (wr.alloc (.cells #[.int .i64 x, .int .i64 y] 58)).heap[wr.heap.size]? = some (.cells #[.int .i64 x, .int .i64 y] 58 (0, 0))) := ⟨below_new _ _, World.alloc_heap_new wr _⟩
            generalize wr.alloc (.cells #[.int .i64 x, .int .i64 y] 58) = w6 at *
            have HV6 : Hid (Rv w6 c p k W H N F M) := (HC.out.old HBR.out).old HB2.out.1
            obtain ⟨k0, k1, k2, k3⟩ := HV6.out.cells
            have kk := HV6.out.kn.cell hI
            have hI0 : (I : Int) < (N : Int) := by omega
            have HBX6 : Hid (w6.heap[w.heap.size]? = some (.cells #[.int .i64 ps, .slice (some ⟨b, off, none⟩) i sc, .slice ca i cc] 35 (0, 0))) := (HB2.out.1.block _ (lt_of_block HBXr.out)).trans HBXr.out
            have hb1 : w6.cell? ⟨w.heap.size, 1, none⟩ = some (.slice (some ⟨b, off, none⟩) i sc) := by simp [World.cell?, HBX6.out]
            obtain ⟨mb, hmb⟩ : ∃ mb, M I = mb := ⟨_, rfl⟩
            rw [hmb] at kk
            have HM : Hid (M I = mb) := hmb
            clear hmb c0 c1
            have HBD : Hid (Below w.heap.size w w6.drew ∧ Below w5.heap.size w5 w6.drew) := ⟨below_undrew2 (HBR.out.trans (HB2.out.1.mono HBR.out.size)), below_undrew2 (HJ.out.1.trans (HB2.out.1.mono HJ.out.1.size))⟩
            generalize wr.heap.size = sb at *
            refine wp_region_still_tail 15 (by kernel_rfl) (by kernel_rfl) ?_
            simp only [List.take_succ_cons, List.take_zero, List.drop_succ_cons, List.drop_zero]
            rw [show ({ w6 with drawn := w6.drawn + 1 } : World) = w6.drew from rfl]
            repeat still_step
            refine wpStill_nil ?_
            cases mb with
            | true =>
              have HF : Hid (RLayPost w c p k W H N F M ⟨ps, some ⟨b, off, none⟩, sc, S, ca, cc, C⟩ (.returned (.int .i64 10)) w6.drew) := RLayPost.no (by unfold layE; rw [if_pos ⟨by rw [HCL.out, HL.out], HAL.out⟩, fr_known (i := j) (by rw [HL.out]; exact hlt2) (by rw [HI.out]; exact HM.out)]; rfl) (by decide) HBD.out.1 (HV6.out.old (below_drew _))
              clear HB2 HBX6 HV6 HBD
              go_wp2
              go_ret
              exact HF.out
            | false =>
              have hsc : j ≤ sc := by omega
              go_wp2
              have HSB : Hid (w6.drew.heap[sb]? = some (.cells #[.int .i64 x, .int .i64 y] 58 (0, 0))) := HB2.out.2
              clear hb1 kk k0 k1 k2 k3 m0 m1 HB2
              go_loopw [64] (fun v wx => ∃ q : Nat, q ≤ j ∧ v = .int .i64 q ∧ Hid (Below w6.drew.heap.size w6.drew wx ∧ ∀ r, r < q → spA S r ≠ spA S j)) (fun v _ => j - (intOf v).toNat)
              case atStart => exact ⟨0, Nat.zero_le _, rfl, Below.refl _ _, fun r hr => absurd hr (by omega)⟩
              case round =>
                obtain ⟨q, hq, rfl, HR⟩ := hrel
                have HBq : Hid (Below w.heap.size w wr) := HBD.out.1.trans (HR.out.1.mono HBD.out.1.size)
                by_cases hlt3 : q < j
                · have hsr : SpRow wr (some ⟨b, off, none⟩) S := (HS.out _ (F3.of_below HBq.out)).1
                  obtain ⟨b', off', he, c0, c1⟩ := hsr.at (i := q) (by have := HL.out; omega)
                  simp only [Option.some.injEq, Addr.mk.injEq, and_true] at he
                  obtain ⟨rfl, rfl⟩ := he
                  obtain ⟨x2, hx⟩ : ∃ x2, (spA S q).1 = x2 := ⟨_, rfl⟩
                  obtain ⟨y2, hy⟩ : ∃ y2, (spA S q).2 = y2 := ⟨_, rfl⟩
                  rw [hx] at c0
                  rw [hy] at c1
                  have HXY2 : Hid ((spA S q).1 = x2 ∧ (spA S q).2 = y2) := ⟨hx, hy⟩
                  clear hx hy hsr
                  go_upto_region 17 with fail
                  obtain ⟨m0, m1⟩ := two_new wr (.int .i64 x2) (.int .i64 y2) 58
                  have HB7 : Hid (Below wr.heap.size wr (wr.alloc (.cells #[.int .i64 x2, .int .i64 y2] 58))) := below_new _ _
                  generalize wr.alloc (.cells #[.int .i64 x2, .int .i64 y2] 58) = w7 at *
                  have hs7 : w7.heap[sb]? = some (.cells #[.int .i64 x, .int .i64 y] 58 (0, 0)) := by
                    have := (HR.out.1.block _ (lt_of_block HSB.out)).trans HSB.out
                    exact (HB7.out.block _ (lt_of_block this)).trans this
                  obtain ⟨n0, n1, -⟩ := two_cells hs7
                  clear hs7 c0 c1
                  by_cases heq : x = x2 ∧ y = y2
                  · obtain ⟨rfl, rfl⟩ := heq
                    have HF : Hid (RLayPost w c p k W H N F M ⟨ps, some ⟨b, off, none⟩, sc, S, ca, cc, C⟩ (.returned (.int .i64 10)) w7) := RLayPost.no (by unfold layE; rw [if_pos ⟨by rw [HCL.out, HL.out], HAL.out⟩, fr_twice (i := j) (j := q) (by rw [HL.out]; exact hlt2) hlt3 (Prod.ext (by rw [HXY2.out.1, HXY.out.1]) (by rw [HXY2.out.2, HXY.out.2]))]; rfl) (by decide) (HBq.out.trans (HB7.out.mono HBq.out.size)) (((HV6.out.old (below_drew _)).old HR.out.1).old HB7.out)
                    clear HR HB7
                    go_wp2
                    go_ret
                    exact HF.out
                  · have HNE : Hid (spA S q ≠ spA S j) := fun e => heq ⟨by rw [← HXY.out.1, ← HXY2.out.1, e], by rw [← HXY.out.2, ← HXY2.out.2, e]⟩
                    have HR2 : Hid (Below w6.drew.heap.size w6.drew w7 ∧ ∀ r, r < q + 1 → spA S r ≠ spA S j) := by
                      refine ⟨HR.out.1.trans (HB7.out.mono HR.out.1.size), fun r hr => ?_⟩
                      by_cases hrq : r < q
                      · exact HR.out.2 r hrq
                      · obtain rfl : r = q := by omega
                        exact HNE.out
                    clear HR HB7 HNE
                    by_cases h1 : x = x2
                    · have h2 : ¬ y = y2 := fun h2 => heq ⟨h1, h2⟩
                      subst h1
                      have h3 : (y == y2) = false := by simpa using h2
                      clear heq
                      go_wp2
                      go_roundw
                      case rel => exact ⟨q + 1, by omega, by go_num, HR2⟩
                      case measure => simp [intOf]; omega
                    · have h3 : (x == x2) = false := by simpa using h1
                      clear heq
                      go_wp2
                      go_roundw
                      case rel => exact ⟨q + 1, by omega, by go_num, HR2⟩
                      case measure => simp [intOf]; omega
                · obtain rfl : q = j := by omega
                  have HN1 : Hid (Below w5.heap.size w5 wr ∧ frB W M S (q + 1) = true) := by
                    refine ⟨HBD.out.2.trans (HR.out.1.mono HBD.out.2.size), ?_⟩
                    rw [frB, HJ.out.2, fresh_iff HC.out.sz HAL.out (by rw [HL.out]; exact hlt2) (by rw [HI.out]; exact HM.out) HR.out.2]; rfl
                  clear HR
                  go_wp2
                  go_roundw
                  case rel => exact ⟨q + 1, by omega, by go_num, HN1⟩
                  case measure => simp [intOf]; omega
          · obtain rfl : j = i := by omega
            have hb1 : wr.cell? ⟨w.heap.size, 1, none⟩ = some (.slice sa j sc) := by simp [World.cell?, HBXr.out]
            have HFR : Hid (frB W M S j = true) := HJ.out.2
            have HV : Hid (Rv wr c p k W H N F M) := HC.out.old HBR.out
            obtain ⟨w8, hw8⟩ : ∃ w8, w8 = wr := ⟨_, rfl⟩
            subst hw8
            clear HJ
            go_wp2
            clear hb1
            go_loopw [76] (fun v wx => ∃ q : Nat, q ≤ j ∧ v = .int .i64 q ∧ Hid (F3 c p k w8 wx ∧ Rv wx c p k W H N (pxF W F S C q) (mkM W M S q))) (fun v _ => j - (intOf v).toNat)
            case atStart => exact ⟨0, Nat.zero_le _, rfl, F3.refl _ _ _ _, HV.out⟩
            case round =>
              obtain ⟨q, hq, rfl, HR⟩ := hrel
              by_cases hlt3 : q < j
              · have hlm := HS.out _ ((F3.of_below HBR.out).trans HR.out.1)
                have hq' : q < S.length := by have := HL.out; omega
                obtain ⟨b, off, rfl, c0, c1⟩ := hlm.1.at hq'
                obtain ⟨qb, qo, rfl, d0, d1, d2, d3⟩ := hlm.2.at (i := q) (by have := HCL.out; omega)
                have hon := all_at HAL.out hq'
                obtain ⟨i0, i1, i2, hI⟩ := HC.out.sz.ix hon
                have hN := HC.out.sz.m
                obtain ⟨I, hIe⟩ : ∃ I, ixC W (spA S q) = I := ⟨_, rfl⟩
                have HI : Hid (ixC W (spA S q) = I) := hIe
                rw [hIe] at i2 hI
                clear hIe hon hq' hlm
                generalize (spA S q).1 = x at *
                generalize (spA S q).2 = y at *
                obtain ⟨col, hcol⟩ : ∃ col, coA C q = col := ⟨_, rfl⟩
                have HCO : Hid (coA C q = col) := hcol
                rw [hcol] at d0 d1 d2 d3
                clear hcol
                have wm1 : IntKind.i64.wrap (y * W) = y * W := by rw [IntKind.wrap_i64]; omega
                have wm2 : IntKind.i64.wrap (y * W + x) = (I : Int) := by rw [i2, IntKind.wrap_i64]; omega
                clear i0 i1 i2
                have HBX9 : Hid (wr.heap[w.heap.size]? = some (.cells #[.int .i64 ps, .slice (some ⟨b, off, none⟩) j sc, .slice (some ⟨qb, qo, none⟩) j cc] 35 (0, 0))) := (HR.out.1.block _ (lt_of_block HBXr.out) (by have := HLT.out; omega) (by have := HLT.out; omega) (by have := HLT.out; omega)).trans HBXr.out
                go_upto_region 24 with fail
                obtain ⟨m0, m1⟩ := two_new wr (.int .i64 x) (.int .i64 y) 58
                have HB9 : Hid (Below wr.heap.size wr (wr.alloc (.cells #[.int .i64 x, .int .i64 y] 58)) ∧ (wr.alloc (.cells #[.int .i64 x, .int .i64 y] 58)).heap[wr.heap.size]? = some (.cells #[.int .i64 x, .int .i64 y] 58 (0, 0))) := ⟨below_new _ _, World.alloc_heap_new wr _⟩
                generalize wr.alloc (.cells #[.int .i64 x, .int .i64 y] 58) = w9 at *
                have HV9 : Hid (Rv w9 c p k W H N (pxF W F S C q) (mkM W M S q)) := HR.out.2.old HB9.out.1
                obtain ⟨k0, k1, k2, k3⟩ := HV9.out.cells
                have kk := HV9.out.kn.cell hI
                have kf := HV9.out.kn.frozen I
                have hI0 : (I : Int) < (N : Int) := by omega
                have HLW : Hid (c < wr.heap.size ∧ p < wr.heap.size ∧ k < wr.heap.size ∧ qb < wr.heap.size) := ⟨lt_of_block HR.out.2.st, HR.out.2.px.lt, HR.out.2.kn.lt, cell_lt d0⟩
                refine wp_region_still_tail 15 (by kernel_rfl) (by kernel_rfl) ?_
                simp only [List.take_succ_cons, List.take_zero, List.drop_succ_cons, List.drop_zero]
                rw [show ({ w9 with drawn := w9.drawn + 1 } : World) = w9.drew from rfl]
                repeat still_step
                refine wpStill_nil ?_
                go_upto_region 25 with fail
                have HA : Hid (F3 c p k wr (w9.setCell ⟨k, I, none⟩ (.bool true)).drew ∧ Rv (w9.setCell ⟨k, I, none⟩ (.bool true)).drew c p k W H N (pxF W F S C q) (mkM W M S (q + 1)) ∧ (w9.setCell ⟨k, I, none⟩ (.bool true)).drew.heap[wr.heap.size]? = some (.cells #[.int .i64 x, .int .i64 y] 58 (0, 0))) := by
                  refine ⟨(F3.of_below HB9.out.1).trans ((F3.set w9 k I _ (.inr (.inr rfl))).trans (F3.of_below (below_drew _))), ?_, ?_⟩
                  · rw [mkM, HI.out]
                    exact (HV9.out.mark hI true).same rfl rfl rfl
                  · exact (Below.heap_setCell w9 _ _ _ (by show wr.heap.size ≠ k; have := HLW.out; omega)).trans HB9.out.2
                generalize (w9.setCell ⟨k, I, none⟩ (.bool true)).drew = wA at *
                clear k0 k1 k2 k3 kk kf m0 m1 c0 c1
                obtain ⟨k0, k1, k2, k3⟩ := HA.out.2.1.cells
                obtain ⟨m0, m1, -⟩ := two_cells HA.out.2.2
                have HAX := (HS.out _ ((F3.of_below HBR.out).trans (HR.out.1.trans HA.out.1))).2
                obtain ⟨qb', qo', he, e0, e1, e2, e3⟩ := HAX.at (i := q) (by have := HCL.out; omega)
                simp only [Option.some.injEq, Addr.mk.injEq, and_true] at he
                rw [HCO.out, ← he.1, ← he.2] at e0 e1 e2 e3
                have hbA : wA.heap[w.heap.size]? = some (.cells #[.int .i64 ps, .slice (some ⟨b, off, none⟩) j sc, .slice (some ⟨qb, qo, none⟩) j cc] 35 (0, 0)) := (HA.out.1.block _ (lt_of_block HBX9.out) (by have := HLT.out; omega) (by have := HLT.out; omega) (by have := HLT.out; omega)).trans HBX9.out
                obtain ⟨-, -, bb2, -⟩ := three_cells hbA
                obtain ⟨p0, p1, p2, p3⟩ := HA.out.2.1.px.cells hI
                have f0 := HA.out.2.1.px.frozen (I * 4)
                have f1 := HA.out.2.1.px.frozen (I * 4 + 1)
                have f2 := HA.out.2.1.px.frozen (I * 4 + 2)
                have f3 := HA.out.2.1.px.frozen (I * 4 + 3)
                have HFI : Hid (F3 c p k w8 (setPx wA p I col) ∧ Rv (setPx wA p I col) c p k W H N (pxF W F S C (q + 1)) (mkM W M S (q + 1))) := by
                  refine ⟨(HR.out.1.trans HA.out.1).trans (F3.setPx _ _ _), ?_⟩
                  rw [pxF, HI.out, HCO.out]
                  exact HA.out.2.1.pix hI col
                generalize pxF W F S C q I = pf at *
                obtain ⟨pf1, pf2, pf3, pf4⟩ := pf
                obtain ⟨col1, col2, col3, col4⟩ := col
                simp only at p0 p1 p2 p3 e0 e1 e2 e3
                clear hbA HAX he d0 d1 d2 d3 HA HB9 HV9
                generalize wr.heap.size = sb at *
                refine wp_region_still_tail 20 (by kernel_rfl) (by kernel_rfl) ?_
                simp only [List.take_succ_cons, List.take_zero, List.drop_succ_cons, List.drop_zero]
                rw [show ({ wA with drawn := wA.drawn + 1 } : World) = wA.drew from rfl]
                repeat still_step
                refine wpStill_nil ?_
                go_wp2
                go_roundw
                case rel =>
                  exact ⟨q + 1, by omega, by go_num, HFI.out.1.trans (F3.of_below ⟨rfl, rfl, rfl, Nat.le_refl _, fun _ _ => rfl⟩), HFI.out.2.same rfl rfl rfl⟩
                case measure => simp [intOf]; omega
              · obtain rfl : q = j := by omega
                have HE : Hid (RLayPost w c p k W H N F M ⟨ps, sa, sc, S, ca, cc, C⟩ (.returned (.int .i64 0)) wr) := by
                  have he : layE W H M S C.length = 0 := by unfold layE; rw [if_pos ⟨by rw [HCL.out, HL.out], HAL.out⟩, HL.out, HFR.out]; rfl
                  unfold RLayPost layF layM
                  simp only [he, if_true]
                  refine ⟨trivial, (F3.of_below HBR.out).trans HR.out.1, ?_⟩
                  rw [HL.out]
                  exact HR.out.2
                clear HR
                go_wp2
                go_ret
                exact HE.out
  · have hne : ¬ (S.length : Int) = (C.length : Int) := by omega
    have hne2 : ((S.length : Int) == (C.length : Int)) = false := by simp; omega
    have hne3 : ((S.length : Int) != (C.length : Int)) = true := by simp; omega
    have HF : Hid (RLayPost w c p k W H N F M ⟨ps, sa, sc, S, ca, cc, C⟩ (.returned (.int .i64 1)) w1) := by
      exact RLayPost.no (by unfold layE; rw [if_neg (fun q => hcl q.1)]) (by decide) HB1.out.1 (HC.out.old HB1.out.1)
    rw [← hw1] at HF b0 b1 b2
    clear hw1 HB1
    go_enter Try.func13, Try.ntmps13
    go_wp2
    go_ret
    exact HF.out
end Go.Proofs.Ytjheipfcehddhaa
