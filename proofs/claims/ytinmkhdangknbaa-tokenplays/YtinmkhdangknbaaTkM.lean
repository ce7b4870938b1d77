/- The law on acts: its walk. -/
import Derived.Test.YtinmkhdangknbaaTkP
namespace Go.Proofs.Ytinmkhdangknbaa
open Go.RowKit
theorem tplays_big (a : Option Addr) (len cap : Nat) (w : World) (hn : 200 < (len : Int)) : Calls Try.prog 6 #[.slice a len cap] w fun e w' => e = .returned (.bool true) ∧ Below w.heap.size w w' := by
  have HF : Hid _ := tfixed_any w
  go_enter Try.func6, Try.ntmps6
  go_wp2_with fail
  refine Calls.mono HF.out ?_
  rintro e w1 ⟨rfl, b1⟩
  go_wp2
  go_ret
  exact ⟨rfl, b1⟩
set_option maxRecDepth 20000 in
set_option maxHeartbeats 32000000 in
theorem tplays_all (a : Option Addr) (len cap : Nat) (F : Nat → Ac) (w : World) (hF : AcArg w a len cap F) (hn : ¬ 200 < (len : Int)) : Calls Try.prog 6 #[.slice a len cap] w fun e w' => e = .returned (.bool true) ∧ Below w.heap.size w w' := by
  have HF : Hid _ := tfixed_any w
  have HA : Hid (AcArg w a len cap F) := hF
  clear hF
  go_enter Try.func6, Try.ntmps6
  go_upto_region 5 with (go_at_call 9; refine Calls.mono HF.out ?_; rintro e w1 ⟨rfl, b1⟩; have HB1 : Hid (Below w.heap.size w w1) := b1; clear b1 HF)
  go_upto_region 6 with (go_at_call 18; refine Calls.mono (store_new w1) ?_; rintro e w2 ⟨b, rfl, p2, b2, f2⟩)
  have HI2 : Hid (PlI w b w2.heap.size hPt0 hPt0 hPt0 hPt0 false (w2.alloc (.cells #[.slice none 0 0, .slice none 0 0, .bool false] 45))) := by
    have hb := HB1.out.trans (b2.mono HB1.out.size)
    have hA := below_allocQ w2 (.cells #[.slice none 0 0, .slice none 0 0, .bool false] 45)
    exact ⟨p2.old hA, ⟨heap_alloc_newT w2 _, hPt0_ok _, hPt0_ok _⟩, rfl, (fun h => by cases h), hb.trans (hA.mono hb.size), Nat.le_trans HB1.out.size f2, hb.size, Nat.ne_of_lt (lt_of_block p2.ce)⟩
  obtain ⟨c, hc⟩ : ∃ c, w2.heap.size = c := ⟨_, rfl⟩
  obtain ⟨w3, hw3⟩ : ∃ w3, w2.alloc (.cells #[.slice none 0 0, .slice none 0 0, .bool false] 45) = w3 := ⟨_, rfl⟩
  rw [hw3, hc] at HI2
  try rw [hw3]
  try rw [hc]
  clear p2 b2 f2 hw3 hc HB1
  go_wp2
  go_loopw [21] (fun iv wr => ∃ (k : Nat) (K B K' B' : Pt) (s : Bool), k ≤ len ∧ iv = .int .i64 k ∧ Hid (PlI w b c K B K' B' s wr)) (fun iv _ => len - (intOf iv).toNat)
  case atStart => exact ⟨0, _, _, _, _, _, Nat.zero_le _, rfl, HI2.out⟩
  case round =>
    clear HI2
    obtain ⟨k, K, B, K', B', s, hk, rfl, HP⟩ := hrel
    by_cases hlt : k < len
    · obtain ⟨ab, aoff, rfl, hc⟩ := (HA.out.old HP.out.be).2.2 (by omega)
      obtain ⟨c0, c1, c2, c3⟩ := hc k hlt
      obtain ⟨it, hit⟩ : ∃ it, F k = it := ⟨_, rfl⟩
      rw [hit] at c0 c1 c2 c3
      clear hc hit
      obtain ⟨kd, pa, pc, pz⟩ := it
      simp only at c0 c1 c2 c3
      obtain ⟨n, hnz⟩ : ∃ n, pz.length = n := ⟨_, rfl⟩
      rw [hnz] at c1
      have hkd : 0 ≤ kd ∧ kd ≤ 255 := by simpa [Lit.wf, IntKind.min, IntKind.max, IntKind.bits, IntKind.signed] using c2
      have ht : kd.tmod 4 = kd % 4 := Int.tmod_eq_emod_of_nonneg hkd.1
      have HLz : Hid (pz.length = n) := hnz
      have HC3 : Hid (BOk wr pa n pc pz) := ⟨hnz, c3.1, by rw [← hnz]; exact c3.2.1, by rw [← hnz]; exact c3.2.2.1, c3.2.2.2.1, c3.2.2.2.2⟩
      have HLTs0 : Hid (b < wr.heap.size ∧ c < wr.heap.size ∧ w.heap.size ≤ wr.heap.size ∧ (∀ x, K.a = some x → K.z ≠ [] → x.block < wr.heap.size) ∧ (∀ x, K'.a = some x → K'.z ≠ [] → x.block < wr.heap.size) ∧ (∀ x, B.a = some x → B.z ≠ [] → x.block < wr.heap.size) ∧ (∀ x, B'.a = some x → B'.z ≠ [] → x.block < wr.heap.size)) := ⟨lt_of_block HP.out.ps.ce, lt_of_block HP.out.rs.ce, HP.out.be.size, fun x hx hz => HP.out.ps.k.2.2.2.2.lt x hx hz, fun x hx hz => HP.out.rs.k.2.2.2.2.lt x hx hz, fun x hx hz => HP.out.ps.b.2.2.2.2.lt x hx hz, fun x hx hz => HP.out.rs.b.2.2.2.2.lt x hx hz⟩
      have hbb := below_allocQ wr (.cells #[.int .u8 kd, .slice pa n pc] 47)
      obtain ⟨wb, hwb⟩ : ∃ wb, wr.alloc (.cells #[.int .u8 kd, .slice pa n pc] 47) = wb := ⟨_, rfl⟩
      have hbx := heap_alloc_newT wr (.cells #[.int .u8 kd, .slice pa n pc] 47)
      rw [hwb] at hbb hbx
      have HX : Hid (wb.heap[wr.heap.size]? = some (.cells #[.int .u8 kd, .slice pa n pc] 47 (0, 0))) := hbx
      have HPb : Hid (PlI w b c K B K' B' s wb) := HP.out.old hbb
      have HCb : Hid (BOk wb pa n pc pz) := HC3.out.old hbb
      have HBb : Hid (Below wr.heap.size wr wb) := hbb
      have hI2 : ∀ {q0 q1 : Value} {u : World}, u.heap[wr.heap.size]? = some (.cells #[q0, q1] 47 (0, 0)) → u.cell? ⟨wr.heap.size, 0, none⟩ = some q0 ∧ u.cell? ⟨wr.heap.size, 1, none⟩ = some q1 := fun h => by refine ⟨?_, ?_⟩ <;> simp [World.cell?, h]
      have HI2 : Hid (∀ {q0 q1 : Value} {u : World}, u.heap[wr.heap.size]? = some (.cells #[q0, q1] 47 (0, 0)) → u.cell? ⟨wr.heap.size, 0, none⟩ = some q0 ∧ u.cell? ⟨wr.heap.size, 1, none⟩ = some q1) := hI2
      obtain ⟨d0, d1⟩ := hI2 HX.out
      by_cases h2 : 2000 < (n : Int)
      · clear c2 c3 hkd ht hbb hbx
        go_wp2
        go_ret
        try rw [hwb]
        exact ⟨rfl, HPb.out.be⟩
      · go_upto_region 9 with fail
        try rw [hwb]
        clear c0 c1 c2 c3 hbb hbx hwb hnz hI2 HC3 HP
        rcases (show kd % 4 = 0 ∨ kd % 4 = 1 ∨ kd % 4 = 2 ∨ kd % 4 = 3 by omega) with h4 | h4 | h4 | h4
        · rw [h4] at ht
          clear h4 hkd
          have HAl : Hid (Below wb.heap.size wb (wb.alloc (.cells #[] 5))) := below_allocQ wb _
          obtain ⟨d0a, d1a⟩ := HI2.out ((HAl.out.block _ (lt_of_block HX.out)).trans HX.out)
          go_upto_region 16 with (at_builtin; refine wpList_more rfl _ _ rfl _ _ [] rfl (Sl.empty wb 5) pa n pc pz rfl HCb.out.2.2.2.2.1 HCb.out.1 (HCb.out.2.2.2.2.2.old HAl.out) (by simp; omega) ?_; intro v1 x1 g1 sl1 hg1 hw1; obtain ⟨a1, e1, hv1, hv2, hv3, hv4⟩ := sl1.shape; have hl1 : (vals ([] ++ pz)).length = n := (by rw [vals_len, List.nil_append]; exact HCb.out.1); rw [hl1] at hv1 hv2; subst hv1; have HB1 : Hid (Below wb.heap.size wb x1) := HAl.out.grown hw1 HAl.out.size (fun k hk => by cases hk; exact Nat.le_refl _); have HO1 : Hid (Sl x1 5 (.slice a1 n e1) g1 (vals pz) ∧ n ≤ e1 ∧ e1 ≤ maxLen ∧ (a1 = none → e1 = 0) ∧ ∀ k, g1 = some k → wb.heap.size ≤ k) := ⟨sl1, hv2, hv3, hv4, fun k hk => by
            rcases hg1 with e | ⟨q, e, hq⟩
            · rw [e] at hk; cases hk; exact Nat.le_refl _
            · rw [e] at hk; cases hk; simp at hq; omega⟩; have HP1 : Hid (PlI w b c K B K' B' s x1) := HPb.out.old HB1.out; have HX1 : Hid (x1.heap[wr.heap.size]? = some (.cells #[.int .u8 kd, .slice pa n pc] 47 (0, 0))) := (HB1.out.block _ (lt_of_block HX.out)).trans HX.out; clear sl1 hg1 hw1 hl1 hv2 hv3 hv4)
          have HC1 : Hid (BOk x1 pa n pc pz ∧ BOk x1 a1 n e1 pz) := ⟨HCb.out.old HB1.out, HCb.out.1, HCb.out.2.1, HO1.out.2.1, ⟨by omega, by have := HO1.out.2.2.1; unfold maxLen at this; omega⟩, HO1.out.2.2.2.1, HO1.out.1.row rfl⟩
          have HP1d : Hid (PlI w b c K B K' B' s x1.drew) := HP1.out.old (below_drewQ _)
          have HC1d : Hid (BOk x1.drew pa n pc pz ∧ BOk x1.drew a1 n e1 pz) := ⟨HC1.out.1.old (below_drewQ _), HC1.out.2.old (below_drewQ _)⟩
          have HX1d : Hid (x1.drew.heap[wr.heap.size]? = some (.cells #[.int .u8 kd, .slice pa n pc] 47 (0, 0))) := HX1.out
          obtain ⟨d2, d3⟩ := HI2.out HX1.out
          obtain ⟨d4, d5⟩ := HI2.out HX1d.out
          have HS1 : Hid (wr.heap.size < wb.heap.size ∧ b < wr.heap.size ∧ c < wr.heap.size ∧ wb.heap.size ≤ x1.heap.size) := ⟨lt_of_block HX.out, (HLTs0.out.1), (HLTs0.out.2.1), HB1.out.size⟩
          clear d0 d1 d0a d1a HX HPb HCb HAl HC1 HP1
          cases s
          · have CP : Hid _ := put_ok HP1d.out.ps HC1d.out.2
            go_region_held3 (fun u => u.cell? ⟨wr.heap.size, 1, none⟩ = some (.slice pa n pc))
              (first | (with_reducible assumption) | go_keep) (first
              | (go_at_call 19; refine Calls.mono CP.out ?_; rintro e x3 ⟨Q, rfl, hQ, p3, g3, f3⟩; have HR3 : Hid (RS x3 c K' B' false) := HP1d.out.rs.step HP1d.out.ps HP1d.out.ne g3; have HQ : Hid (Q.z = pz ∧ PS x3 b K Q true ∧ x1.drew.grownBy x3 (some b) ∧ ∀ x, Q.a = some x → x1.heap.size ≤ x.block) := ⟨hQ, p3, g3, f3⟩; have HC3 : Hid (BOk x3 pa n pc pz) := HC1d.out.1.same (fun x hx hz => g3.block _ (HC1d.out.1.2.2.2.2.2.lt x hx hz) (fun e => apart_three HP1d.out.ps.ce HC1d.out.1.2.2.2.2.2 hz x hx (by simpa using e))); have HX3 : Hid (x3.heap[wr.heap.size]? = some (.cells #[.int .u8 kd, .slice pa n pc] 47 (0, 0))) := (g3.block _ (lt_of_block HX1d.out) (by have := HS1.out; simp; omega)).trans HX1d.out; obtain ⟨d6, d7⟩ := HI2.out HX3.out; clear hQ p3 g3 f3)
              | (go_at_call 20; refine Calls.mono (rput_ok HR3.out HC3.out) ?_; rintro e x4 ⟨R, rfl, hR, p4, g4, f4⟩; have HX4 : Hid (x4.heap[wr.heap.size]? = some (.cells #[.int .u8 kd, .slice pa n pc] 47 (0, 0))) := (g4.block _ (lt_of_block HX3.out) (by have := HS1.out; simp; omega)).trans HX3.out; have HP4 : Hid (PlI w b c K Q K' R true x4) := ⟨HQ.out.2.1.step HR3.out HP1d.out.ne g4, p4, HP1d.out.kk, (fun _ => HQ.out.1.trans hR.symm), (HP1d.out.be.grown HQ.out.2.2.1 HP1d.out.be.size (fun k hk => by cases hk; exact HP1d.out.fb)).grown g4 (Nat.le_trans HP1d.out.be.size HQ.out.2.2.1.size) (fun k hk => by cases hk; exact HP1d.out.fc), HP1d.out.fb, HP1d.out.fc, HP1d.out.ne⟩; have HW4 : Hid (Sl x4 5 (.slice a1 n e1) g1 (vals pz) ∧ (∀ k, g1 = some k → wb.heap.size ≤ k ∧ k < x1.heap.size) ∧ (∀ x, R.a = some x → x1.heap.size ≤ x.block)) := ⟨(HO1.out.1.same (fun k hk => HQ.out.2.2.1.block k (HO1.out.1.lt hk) (by have := HO1.out.2.2.2.2 k hk; have := HS1.out; simp; omega))).same (fun k hk => g4.block k (Nat.lt_of_lt_of_le (HO1.out.1.lt hk) HQ.out.2.2.1.size) (by have := HO1.out.2.2.2.2 k hk; have := HS1.out; simp; omega)), fun k hk => ⟨HO1.out.2.2.2.2 k hk, HO1.out.1.lt hk⟩, fun x hx => Nat.le_trans HQ.out.2.2.1.size (f4 x hx)⟩; obtain ⟨d8, d9⟩ := HI2.out HX4.out; clear hR p4 g4 f4))
            have HDn : Hid (∀ ob, g1 = some ob → w.heap.size ≤ ob ∧ ob ≠ b ∧ ob ≠ c ∧ Dn ob K ∧ Dn ob Q ∧ Dn ob K' ∧ Dn ob R) := fun ob hob => by
              obtain ⟨h1, h2⟩ := HW4.out.2.1 ob hob
              have h3 := HS1.out
              have h4 := (HLTs0.out.2.2.1)
              exact ⟨by omega, by omega, by omega, fun x hx hz => by have := (HLTs0.out.2.2.2.1) x hx hz; omega, Dn.of_new HQ.out.2.2.2 h2, fun x hx hz => by have := (HLTs0.out.2.2.2.2.1) x hx hz; omega, Dn.of_new HW4.out.2.2 h2⟩
            clear CP HP1d HC1d HX1d HX1 HR3 HQ HC3 HX3 HX4 HO1 HB1 HS1 d2 d3 d4 d5 d6 d7 d8 d9
            go_upto_region 17 with fail
            go_wp2
            go_loopw [59] (fun jv wx => ∃ (j : Nat) (l : List Int), j ≤ n ∧ jv = .int .i64 j ∧ l.length = n ∧ Hid (PlI w b c K Q K' R true wx ∧ Sl wx 5 (.slice a1 n e1) g1 (vals l))) (fun jv _ => n - (intOf jv).toNat)
            case atStart => exact ⟨0, pz, Nat.zero_le _, rfl, HLz.out, HP4.out, HW4.out.1⟩
            case round =>
              clear HP4
              obtain ⟨j, l, hj, rfl, hll, HJ⟩ := hrel
              by_cases hjl : j < n
              · obtain ⟨og, oo, oc, rfl, rfl, hog, cc, fc⟩ := row_cell0 HJ.out.2 hll j hjl
                obtain ⟨n1, n2, n3, n4, n5, n6, n7⟩ := HDn.out og hog
                have gsv := fun v => grownBy_set wr og (oo + j) v
                have HJ2 : Hid (∀ v : Int, PlI w b c K Q K' R true (wr.setCell ⟨og, oo + j, none⟩ (.int .u8 v)) ∧ Sl (wr.setCell ⟨og, oo + j, none⟩ (.int .u8 v)) 5 (.slice (some ⟨og, oo, none⟩) n oc) g1 (vals (l.set j v))) := fun v => ⟨HJ.out.1.own (grownBy_set _ _ _ _) n2 n3 n1 n4 n5 n6 n7, by rw [vals_set]; exact HJ.out.2.setAt j _⟩
                have HLl : Hid (l.length = n) := hll
                clear n1 n2 n3 n4 n5 n6 n7 gsv HJ hll
                go_wp2
                go_roundw
                case rel => exact ⟨j + 1, _, by omega, by go_num, by rw [List.length_set]; exact HLl.out, HJ2.out _⟩
                case measure => simp [intOf]; omega
              · obtain rfl : j = n := by omega
                have HP5 : Hid (PlI w b c K Q K' R true wr) := HJ.out.1
                clear HJ hll
                obtain ⟨r0, r1, r2⟩ := three_cells HP5.out.rs.ce
                have q0 : wr.drew.cell? ⟨c, 0, none⟩ = some (ptV K') := r0
                have q2 : wr.drew.cell? ⟨c, 2, none⟩ = some (.bool true) := r2
                unfold ptV at r0 r1 q0
                have HPd : Hid (PlI w b c K Q K' R true wr.drew) := HP5.out.old (below_drewQ _)
                have CG : Hid _ := get_any HPd.out.ps
                clear HP5
                go_upto_region 27 with fail
                go_region_held3 (fun u => u.cell? ⟨c, 0, none⟩ = some (.slice K'.a K'.z.length K'.c) ∧ u.cell? ⟨c, 2, none⟩ = some (.bool true))
                  (first | (with_reducible exact ⟨by with_reducible assumption, by with_reducible assumption⟩) | go_keep) (first
                  | (go_at_call 24; refine Calls.mono CG.out ?_; rintro e x7 ⟨g, rfl, hg, hgp, hgb, -⟩; have HP7 : Hid (PlI w b c K Q K' R true x7) := HPd.out.old hgb; have hge : g.z = K'.z := hg.trans HP7.out.kk; have hgl : g.z.length = K'.z.length := (by rw [hge]); have CS : Hid _ := same_any g.a K'.a K'.z.length g.c K'.c K'.z x7 rfl (by rw [← hge]; exact hgp.2.2.2.2) HP7.out.rs.k.2.2.2.2; have CB : Hid _ := busy_any HP7.out.ps; obtain ⟨t0, t1, t2⟩ := three_cells HP7.out.rs.ce; unfold ptV at t0 t1; unfold ptV; rw [hgl]; clear hg hgp hgb hge hgl)
                  | (go_at_call 12; refine Calls.mono CS.out ?_; rintro e x ⟨rfl, hx⟩; have hx2 := hx.symm; clear hx; subst hx2)
                  | (go_at_call 25; refine Calls.mono CB.out ?_; rintro e x ⟨rfl, hx⟩; have hx2 := hx.symm; clear hx; subst hx2))
                clear CG CS CB
                go_wp2
                go_roundw
                case rel => exact ⟨k + 1, K, Q, K', R, true, by omega, by go_num, HP7.out⟩
                case measure => first | (show len - ((k : Int) + 1).toNat < len - ((k : Int)).toNat; omega) | (simp [intOf]; omega)
          · have CP : Hid _ := put_busy HP1d.out.ps (.slice a1 n e1)
            go_region_held3 (fun u => u.cell? ⟨wr.heap.size, 1, none⟩ = some (.slice pa n pc))
              (first | (with_reducible assumption) | go_keep) (first
              | (go_at_call 19; refine Calls.mono CP.out ?_; rintro e x ⟨rfl, hx⟩; have hx2 := hx.symm; clear hx; subst hx2)
              | (go_at_call 20; refine Calls.mono (rput_busy HP1d.out.rs (.slice pa n pc)) ?_; rintro e x ⟨rfl, hx⟩; have hx2 := hx.symm; clear hx; subst hx2))
            have HW4 : Hid (Sl x1.drew 5 (.slice a1 n e1) g1 (vals pz)) := HO1.out.1.same (fun _ _ => rfl)
            have HDn : Hid (∀ ob, g1 = some ob → w.heap.size ≤ ob ∧ ob ≠ b ∧ ob ≠ c ∧ Dn ob K ∧ Dn ob B ∧ Dn ob K' ∧ Dn ob B') := fun ob hob => by
              have h1 := HO1.out.2.2.2.2 ob hob
              have h3 := HS1.out
              have h4 := (HLTs0.out.2.2.1)
              exact ⟨by omega, by omega, by omega, fun x hx hz => by have := (HLTs0.out.2.2.2.1) x hx hz; omega, fun x hx hz => by have := (HLTs0.out.2.2.2.2.2.1) x hx hz; omega, fun x hx hz => by have := (HLTs0.out.2.2.2.2.1) x hx hz; omega, fun x hx hz => by have := (HLTs0.out.2.2.2.2.2.2) x hx hz; omega⟩
            have HP4 : Hid (PlI w b c K B K' B' true x1.drew) := HP1d.out
            obtain ⟨x4, hx4⟩ : ∃ x4, x1.drew = x4 := ⟨_, rfl⟩
            rw [hx4] at HW4 HP4
            try rw [hx4]
            clear CP HP1d HC1d HX1d HX1 HO1 HB1 HS1 d2 d3 d4 d5 hx4
            go_upto_region 17 with fail
            go_wp2
            go_loopw [59] (fun jv wx => ∃ (j : Nat) (l : List Int), j ≤ n ∧ jv = .int .i64 j ∧ l.length = n ∧ Hid (PlI w b c K B K' B' true wx ∧ Sl wx 5 (.slice a1 n e1) g1 (vals l))) (fun jv _ => n - (intOf jv).toNat)
            case atStart => exact ⟨0, pz, Nat.zero_le _, rfl, HLz.out, HP4.out, HW4.out⟩
            case round =>
              clear HP4
              obtain ⟨j, l, hj, rfl, hll, HJ⟩ := hrel
              by_cases hjl : j < n
              · obtain ⟨og, oo, oc, rfl, rfl, hog, cc, fc⟩ := row_cell0 HJ.out.2 hll j hjl
                obtain ⟨n1, n2, n3, n4, n5, n6, n7⟩ := HDn.out og hog
                have gsv := fun v => grownBy_set wr og (oo + j) v
                have HJ2 : Hid (∀ v : Int, PlI w b c K B K' B' true (wr.setCell ⟨og, oo + j, none⟩ (.int .u8 v)) ∧ Sl (wr.setCell ⟨og, oo + j, none⟩ (.int .u8 v)) 5 (.slice (some ⟨og, oo, none⟩) n oc) g1 (vals (l.set j v))) := fun v => ⟨HJ.out.1.own (grownBy_set _ _ _ _) n2 n3 n1 n4 n5 n6 n7, by rw [vals_set]; exact HJ.out.2.setAt j _⟩
                have HLl : Hid (l.length = n) := hll
                clear n1 n2 n3 n4 n5 n6 n7 gsv HJ hll
                go_wp2
                go_roundw
                case rel => exact ⟨j + 1, _, by omega, by go_num, by rw [List.length_set]; exact HLl.out, HJ2.out _⟩
                case measure => simp [intOf]; omega
              · obtain rfl : j = n := by omega
                have HP5 : Hid (PlI w b c K B K' B' true wr) := HJ.out.1
                clear HJ hll
                obtain ⟨r0, r1, r2⟩ := three_cells HP5.out.rs.ce
                have q0 : wr.drew.cell? ⟨c, 0, none⟩ = some (ptV K') := r0
                have q2 : wr.drew.cell? ⟨c, 2, none⟩ = some (.bool true) := r2
                unfold ptV at r0 r1 q0
                have HPd : Hid (PlI w b c K B K' B' true wr.drew) := HP5.out.old (below_drewQ _)
                have CG : Hid _ := get_any HPd.out.ps
                clear HP5
                go_upto_region 27 with fail
                go_region_held3 (fun u => u.cell? ⟨c, 0, none⟩ = some (.slice K'.a K'.z.length K'.c) ∧ u.cell? ⟨c, 2, none⟩ = some (.bool true))
                  (first | (with_reducible exact ⟨by with_reducible assumption, by with_reducible assumption⟩) | go_keep) (first
                  | (go_at_call 24; refine Calls.mono CG.out ?_; rintro e x7 ⟨g, rfl, hg, hgp, hgb, -⟩; have HP7 : Hid (PlI w b c K B K' B' true x7) := HPd.out.old hgb; have hge : g.z = K'.z := hg.trans HP7.out.kk; have hgl : g.z.length = K'.z.length := (by rw [hge]); have CS : Hid _ := same_any g.a K'.a K'.z.length g.c K'.c K'.z x7 rfl (by rw [← hge]; exact hgp.2.2.2.2) HP7.out.rs.k.2.2.2.2; have CB : Hid _ := busy_any HP7.out.ps; obtain ⟨t0, t1, t2⟩ := three_cells HP7.out.rs.ce; unfold ptV at t0 t1; unfold ptV; rw [hgl]; clear hg hgp hgb hge hgl)
                  | (go_at_call 12; refine Calls.mono CS.out ?_; rintro e x ⟨rfl, hx⟩; have hx2 := hx.symm; clear hx; subst hx2)
                  | (go_at_call 25; refine Calls.mono CB.out ?_; rintro e x ⟨rfl, hx⟩; have hx2 := hx.symm; clear hx; subst hx2))
                clear CG CS CB
                go_wp2
                go_roundw
                case rel => exact ⟨k + 1, K, B, K', B', true, by omega, by go_num, HP7.out⟩
                case measure => first | (show len - ((k : Int) + 1).toNat < len - ((k : Int)).toNat; omega) | (simp [intOf]; omega)
        · rw [h4] at ht
          clear h4 hkd HCb
          cases s
          · have C1 : Hid _ := settle_not HPb.out.ps
            have C2 : Hid _ := rcrash_any HPb.out.rs true
            go_upto_region 27 with (first
              | (go_at_call 21; refine Calls.mono C1.out ?_; rintro e x ⟨rfl, hx⟩; have hx2 := hx.symm; clear hx; subst hx2)
              | (go_at_call 22; refine Calls.mono C2.out ?_; rintro e x4 ⟨rfl, p4, g4⟩; have HP4 : Hid (PlI w b c K B K' B' false x4) := ⟨HPb.out.ps.step HPb.out.rs HPb.out.ne g4, p4, HPb.out.kk, (fun h => by cases h), HPb.out.be.grown g4 HPb.out.be.size (fun k hk => by cases hk; exact HPb.out.fc), HPb.out.fb, HPb.out.fc, HPb.out.ne⟩; clear p4 g4))
            clear C1 C2 HPb HX d0 d1
            obtain ⟨r0, r1, r2⟩ := three_cells HP4.out.rs.ce
            have q0 : x4.drew.cell? ⟨c, 0, none⟩ = some (ptV K') := r0
            have q2 : x4.drew.cell? ⟨c, 2, none⟩ = some (.bool false) := r2
            unfold ptV at r0 r1 q0
            have HPd : Hid (PlI w b c K B K' B' false x4.drew) := HP4.out.old (below_drewQ _)
            have CG : Hid _ := get_any HPd.out.ps
            clear HP4
            go_upto_region 27 with fail
            go_region_held3 (fun u => u.cell? ⟨c, 0, none⟩ = some (.slice K'.a K'.z.length K'.c) ∧ u.cell? ⟨c, 2, none⟩ = some (.bool false))
              (first | (with_reducible exact ⟨by with_reducible assumption, by with_reducible assumption⟩) | go_keep) (first
              | (go_at_call 24; refine Calls.mono CG.out ?_; rintro e x7 ⟨g, rfl, hg, hgp, hgb, -⟩; have HP7 : Hid (PlI w b c K B K' B' false x7) := HPd.out.old hgb; have hge : g.z = K'.z := hg.trans HP7.out.kk; have hgl : g.z.length = K'.z.length := (by rw [hge]); have CS : Hid _ := same_any g.a K'.a K'.z.length g.c K'.c K'.z x7 rfl (by rw [← hge]; exact hgp.2.2.2.2) HP7.out.rs.k.2.2.2.2; have CB : Hid _ := busy_any HP7.out.ps; obtain ⟨t0, t1, t2⟩ := three_cells HP7.out.rs.ce; unfold ptV at t0 t1; unfold ptV; rw [hgl]; clear hg hgp hgb hge hgl)
              | (go_at_call 12; refine Calls.mono CS.out ?_; rintro e x ⟨rfl, hx⟩; have hx2 := hx.symm; clear hx; subst hx2)
              | (go_at_call 25; refine Calls.mono CB.out ?_; rintro e x ⟨rfl, hx⟩; have hx2 := hx.symm; clear hx; subst hx2))
            clear CG CS CB
            go_wp2
            go_roundw
            case rel => exact ⟨k + 1, K, B, K', B', false, by omega, by go_num, HP7.out⟩
            case measure => first | (show len - ((k : Int) + 1).toNat < len - ((k : Int)).toNat; omega) | (simp [intOf]; omega)
          · have C1 : Hid _ := settle_yes HPb.out.ps
            go_upto_region 27 with (first
              | (go_at_call 21; refine Calls.mono C1.out ?_; rintro e x3 ⟨rfl, p3, g3⟩; have HR3 : Hid (RS x3 c K' B' true) := HPb.out.rs.step HPb.out.ps HPb.out.ne g3; have HP3 : Hid (PS x3 b B hPt0 false ∧ wb.grownBy x3 (some b)) := ⟨p3, g3⟩; have HX3 : Hid (x3.heap[wr.heap.size]? = some (.cells #[.int .u8 kd, .slice pa n pc] 47 (0, 0))) := (g3.block _ (lt_of_block HX.out) (by have := (HLTs0.out.1); simp; omega)).trans HX.out; obtain ⟨d6, d7⟩ := HI2.out HX3.out; clear p3 g3)
              | (go_at_call 22; refine Calls.mono (rcrash_any HR3.out true) ?_; rintro e x4 ⟨rfl, p4, g4⟩; have HP4 : Hid (PlI w b c B hPt0 B' B' false x4) := ⟨HP3.out.1.step HR3.out HPb.out.ne g4, p4, HPb.out.bb rfl, (fun h => by cases h), (HPb.out.be.grown HP3.out.2 HPb.out.be.size (fun k hk => by cases hk; exact HPb.out.fb)).grown g4 (Nat.le_trans HPb.out.be.size HP3.out.2.size) (fun k hk => by cases hk; exact HPb.out.fc), HPb.out.fb, HPb.out.fc, HPb.out.ne⟩; clear p4 g4))
            clear C1 HPb HR3 HP3 HX HX3 d0 d1
            obtain ⟨r0, r1, r2⟩ := three_cells HP4.out.rs.ce
            have q0 : x4.drew.cell? ⟨c, 0, none⟩ = some (ptV B') := r0
            have q2 : x4.drew.cell? ⟨c, 2, none⟩ = some (.bool false) := r2
            unfold ptV at r0 r1 q0
            have HPd : Hid (PlI w b c B hPt0 B' B' false x4.drew) := HP4.out.old (below_drewQ _)
            have CG : Hid _ := get_any HPd.out.ps
            clear HP4
            go_upto_region 27 with fail
            go_region_held3 (fun u => u.cell? ⟨c, 0, none⟩ = some (.slice B'.a B'.z.length B'.c) ∧ u.cell? ⟨c, 2, none⟩ = some (.bool false))
              (first | (with_reducible exact ⟨by with_reducible assumption, by with_reducible assumption⟩) | go_keep) (first
              | (go_at_call 24; refine Calls.mono CG.out ?_; rintro e x7 ⟨g, rfl, hg, hgp, hgb, -⟩; have HP7 : Hid (PlI w b c B hPt0 B' B' false x7) := HPd.out.old hgb; have hge : g.z = B'.z := hg.trans HP7.out.kk; have hgl : g.z.length = B'.z.length := (by rw [hge]); have CS : Hid _ := same_any g.a B'.a B'.z.length g.c B'.c B'.z x7 rfl (by rw [← hge]; exact hgp.2.2.2.2) HP7.out.rs.k.2.2.2.2; have CB : Hid _ := busy_any HP7.out.ps; obtain ⟨t0, t1, t2⟩ := three_cells HP7.out.rs.ce; unfold ptV at t0 t1; unfold ptV; rw [hgl]; clear hg hgp hgb hge hgl)
              | (go_at_call 12; refine Calls.mono CS.out ?_; rintro e x ⟨rfl, hx⟩; have hx2 := hx.symm; clear hx; subst hx2)
              | (go_at_call 25; refine Calls.mono CB.out ?_; rintro e x ⟨rfl, hx⟩; have hx2 := hx.symm; clear hx; subst hx2))
            clear CG CS CB
            go_wp2
            go_roundw
            case rel => exact ⟨k + 1, B, hPt0, B', B', false, by omega, by go_num, HP7.out⟩
            case measure => first | (show len - ((k : Int) + 1).toNat < len - ((k : Int)).toNat; omega) | (simp [intOf]; omega)
        · rw [h4] at ht
          clear h4 hkd HCb
          cases s
          · have C1 : Hid _ := crash_not HPb.out.ps true
            have C2 : Hid _ := rcrash_any HPb.out.rs true
            go_upto_region 27 with (first
              | (go_at_call 23; refine Calls.mono C1.out ?_; rintro e x ⟨rfl, hx⟩; have hx2 := hx.symm; clear hx; subst hx2)
              | (go_at_call 22; refine Calls.mono C2.out ?_; rintro e x4 ⟨rfl, p4, g4⟩; have HP4 : Hid (PlI w b c K B K' B' false x4) := ⟨HPb.out.ps.step HPb.out.rs HPb.out.ne g4, p4, HPb.out.kk, (fun h => by cases h), HPb.out.be.grown g4 HPb.out.be.size (fun k hk => by cases hk; exact HPb.out.fc), HPb.out.fb, HPb.out.fc, HPb.out.ne⟩; clear p4 g4))
            clear C1 C2 HPb HX d0 d1
            obtain ⟨r0, r1, r2⟩ := three_cells HP4.out.rs.ce
            have q0 : x4.drew.cell? ⟨c, 0, none⟩ = some (ptV K') := r0
            have q2 : x4.drew.cell? ⟨c, 2, none⟩ = some (.bool false) := r2
            unfold ptV at r0 r1 q0
            have HPd : Hid (PlI w b c K B K' B' false x4.drew) := HP4.out.old (below_drewQ _)
            have CG : Hid _ := get_any HPd.out.ps
            clear HP4
            go_upto_region 27 with fail
            go_region_held3 (fun u => u.cell? ⟨c, 0, none⟩ = some (.slice K'.a K'.z.length K'.c) ∧ u.cell? ⟨c, 2, none⟩ = some (.bool false))
              (first | (with_reducible exact ⟨by with_reducible assumption, by with_reducible assumption⟩) | go_keep) (first
              | (go_at_call 24; refine Calls.mono CG.out ?_; rintro e x7 ⟨g, rfl, hg, hgp, hgb, -⟩; have HP7 : Hid (PlI w b c K B K' B' false x7) := HPd.out.old hgb; have hge : g.z = K'.z := hg.trans HP7.out.kk; have hgl : g.z.length = K'.z.length := (by rw [hge]); have CS : Hid _ := same_any g.a K'.a K'.z.length g.c K'.c K'.z x7 rfl (by rw [← hge]; exact hgp.2.2.2.2) HP7.out.rs.k.2.2.2.2; have CB : Hid _ := busy_any HP7.out.ps; obtain ⟨t0, t1, t2⟩ := three_cells HP7.out.rs.ce; unfold ptV at t0 t1; unfold ptV; rw [hgl]; clear hg hgp hgb hge hgl)
              | (go_at_call 12; refine Calls.mono CS.out ?_; rintro e x ⟨rfl, hx⟩; have hx2 := hx.symm; clear hx; subst hx2)
              | (go_at_call 25; refine Calls.mono CB.out ?_; rintro e x ⟨rfl, hx⟩; have hx2 := hx.symm; clear hx; subst hx2))
            clear CG CS CB
            go_wp2
            go_roundw
            case rel => exact ⟨k + 1, K, B, K', B', false, by omega, by go_num, HP7.out⟩
            case measure => first | (show len - ((k : Int) + 1).toNat < len - ((k : Int)).toNat; omega) | (simp [intOf]; omega)
          · have C1 : Hid _ := crash_yes HPb.out.ps true
            go_upto_region 27 with (first
              | (go_at_call 23; refine Calls.mono C1.out ?_; rintro e x3 ⟨rfl, p3, g3⟩; have HR3 : Hid (RS x3 c K' B' true) := HPb.out.rs.step HPb.out.ps HPb.out.ne g3; have HP3 : Hid (PS x3 b B hPt0 false ∧ wb.grownBy x3 (some b)) := ⟨p3, g3⟩; have HX3 : Hid (x3.heap[wr.heap.size]? = some (.cells #[.int .u8 kd, .slice pa n pc] 47 (0, 0))) := (g3.block _ (lt_of_block HX.out) (by have := (HLTs0.out.1); simp; omega)).trans HX.out; obtain ⟨d6, d7⟩ := HI2.out HX3.out; clear p3 g3)
              | (go_at_call 22; refine Calls.mono (rcrash_any HR3.out true) ?_; rintro e x4 ⟨rfl, p4, g4⟩; have HP4 : Hid (PlI w b c B hPt0 B' B' false x4) := ⟨HP3.out.1.step HR3.out HPb.out.ne g4, p4, HPb.out.bb rfl, (fun h => by cases h), (HPb.out.be.grown HP3.out.2 HPb.out.be.size (fun k hk => by cases hk; exact HPb.out.fb)).grown g4 (Nat.le_trans HPb.out.be.size HP3.out.2.size) (fun k hk => by cases hk; exact HPb.out.fc), HPb.out.fb, HPb.out.fc, HPb.out.ne⟩; clear p4 g4))
            clear C1 HPb HR3 HP3 HX HX3 d0 d1
            obtain ⟨r0, r1, r2⟩ := three_cells HP4.out.rs.ce
            have q0 : x4.drew.cell? ⟨c, 0, none⟩ = some (ptV B') := r0
            have q2 : x4.drew.cell? ⟨c, 2, none⟩ = some (.bool false) := r2
            unfold ptV at r0 r1 q0
            have HPd : Hid (PlI w b c B hPt0 B' B' false x4.drew) := HP4.out.old (below_drewQ _)
            have CG : Hid _ := get_any HPd.out.ps
            clear HP4
            go_upto_region 27 with fail
            go_region_held3 (fun u => u.cell? ⟨c, 0, none⟩ = some (.slice B'.a B'.z.length B'.c) ∧ u.cell? ⟨c, 2, none⟩ = some (.bool false))
              (first | (with_reducible exact ⟨by with_reducible assumption, by with_reducible assumption⟩) | go_keep) (first
              | (go_at_call 24; refine Calls.mono CG.out ?_; rintro e x7 ⟨g, rfl, hg, hgp, hgb, -⟩; have HP7 : Hid (PlI w b c B hPt0 B' B' false x7) := HPd.out.old hgb; have hge : g.z = B'.z := hg.trans HP7.out.kk; have hgl : g.z.length = B'.z.length := (by rw [hge]); have CS : Hid _ := same_any g.a B'.a B'.z.length g.c B'.c B'.z x7 rfl (by rw [← hge]; exact hgp.2.2.2.2) HP7.out.rs.k.2.2.2.2; have CB : Hid _ := busy_any HP7.out.ps; obtain ⟨t0, t1, t2⟩ := three_cells HP7.out.rs.ce; unfold ptV at t0 t1; unfold ptV; rw [hgl]; clear hg hgp hgb hge hgl)
              | (go_at_call 12; refine Calls.mono CS.out ?_; rintro e x ⟨rfl, hx⟩; have hx2 := hx.symm; clear hx; subst hx2)
              | (go_at_call 25; refine Calls.mono CB.out ?_; rintro e x ⟨rfl, hx⟩; have hx2 := hx.symm; clear hx; subst hx2))
            clear CG CS CB
            go_wp2
            go_roundw
            case rel => exact ⟨k + 1, B, hPt0, B', B', false, by omega, by go_num, HP7.out⟩
            case measure => first | (show len - ((k : Int) + 1).toNat < len - ((k : Int)).toNat; omega) | (simp [intOf]; omega)
        · rw [h4] at ht
          clear h4 hkd HCb
          cases s
          · have C1 : Hid _ := crash_not HPb.out.ps false
            have C2 : Hid _ := rcrash_any HPb.out.rs false
            go_upto_region 27 with (first
              | (go_at_call 23; refine Calls.mono C1.out ?_; rintro e x ⟨rfl, hx⟩; have hx2 := hx.symm; clear hx; subst hx2)
              | (go_at_call 22; refine Calls.mono C2.out ?_; rintro e x4 ⟨rfl, p4, g4⟩; have HP4 : Hid (PlI w b c K B K' B' false x4) := ⟨HPb.out.ps.step HPb.out.rs HPb.out.ne g4, p4, HPb.out.kk, (fun h => by cases h), HPb.out.be.grown g4 HPb.out.be.size (fun k hk => by cases hk; exact HPb.out.fc), HPb.out.fb, HPb.out.fc, HPb.out.ne⟩; clear p4 g4))
            clear C1 C2 HPb HX d0 d1
            obtain ⟨r0, r1, r2⟩ := three_cells HP4.out.rs.ce
            have q0 : x4.drew.cell? ⟨c, 0, none⟩ = some (ptV K') := r0
            have q2 : x4.drew.cell? ⟨c, 2, none⟩ = some (.bool false) := r2
            unfold ptV at r0 r1 q0
            have HPd : Hid (PlI w b c K B K' B' false x4.drew) := HP4.out.old (below_drewQ _)
            have CG : Hid _ := get_any HPd.out.ps
            clear HP4
            go_upto_region 27 with fail
            go_region_held3 (fun u => u.cell? ⟨c, 0, none⟩ = some (.slice K'.a K'.z.length K'.c) ∧ u.cell? ⟨c, 2, none⟩ = some (.bool false))
              (first | (with_reducible exact ⟨by with_reducible assumption, by with_reducible assumption⟩) | go_keep) (first
              | (go_at_call 24; refine Calls.mono CG.out ?_; rintro e x7 ⟨g, rfl, hg, hgp, hgb, -⟩; have HP7 : Hid (PlI w b c K B K' B' false x7) := HPd.out.old hgb; have hge : g.z = K'.z := hg.trans HP7.out.kk; have hgl : g.z.length = K'.z.length := (by rw [hge]); have CS : Hid _ := same_any g.a K'.a K'.z.length g.c K'.c K'.z x7 rfl (by rw [← hge]; exact hgp.2.2.2.2) HP7.out.rs.k.2.2.2.2; have CB : Hid _ := busy_any HP7.out.ps; obtain ⟨t0, t1, t2⟩ := three_cells HP7.out.rs.ce; unfold ptV at t0 t1; unfold ptV; rw [hgl]; clear hg hgp hgb hge hgl)
              | (go_at_call 12; refine Calls.mono CS.out ?_; rintro e x ⟨rfl, hx⟩; have hx2 := hx.symm; clear hx; subst hx2)
              | (go_at_call 25; refine Calls.mono CB.out ?_; rintro e x ⟨rfl, hx⟩; have hx2 := hx.symm; clear hx; subst hx2))
            clear CG CS CB
            go_wp2
            go_roundw
            case rel => exact ⟨k + 1, K, B, K', B', false, by omega, by go_num, HP7.out⟩
            case measure => first | (show len - ((k : Int) + 1).toNat < len - ((k : Int)).toNat; omega) | (simp [intOf]; omega)
          · have C1 : Hid _ := crash_yes HPb.out.ps false
            go_upto_region 27 with (first
              | (go_at_call 23; refine Calls.mono C1.out ?_; rintro e x3 ⟨rfl, p3, g3⟩; have HR3 : Hid (RS x3 c K' B' true) := HPb.out.rs.step HPb.out.ps HPb.out.ne g3; have HP3 : Hid (PS x3 b K hPt0 false ∧ wb.grownBy x3 (some b)) := ⟨p3, g3⟩; have HX3 : Hid (x3.heap[wr.heap.size]? = some (.cells #[.int .u8 kd, .slice pa n pc] 47 (0, 0))) := (g3.block _ (lt_of_block HX.out) (by have := (HLTs0.out.1); simp; omega)).trans HX.out; obtain ⟨d6, d7⟩ := HI2.out HX3.out; clear p3 g3)
              | (go_at_call 22; refine Calls.mono (rcrash_any HR3.out false) ?_; rintro e x4 ⟨rfl, p4, g4⟩; have HP4 : Hid (PlI w b c K hPt0 K' B' false x4) := ⟨HP3.out.1.step HR3.out HPb.out.ne g4, p4, HPb.out.kk, (fun h => by cases h), (HPb.out.be.grown HP3.out.2 HPb.out.be.size (fun k hk => by cases hk; exact HPb.out.fb)).grown g4 (Nat.le_trans HPb.out.be.size HP3.out.2.size) (fun k hk => by cases hk; exact HPb.out.fc), HPb.out.fb, HPb.out.fc, HPb.out.ne⟩; clear p4 g4))
            clear C1 HPb HR3 HP3 HX HX3 d0 d1
            obtain ⟨r0, r1, r2⟩ := three_cells HP4.out.rs.ce
            have q0 : x4.drew.cell? ⟨c, 0, none⟩ = some (ptV K') := r0
            have q2 : x4.drew.cell? ⟨c, 2, none⟩ = some (.bool false) := r2
            unfold ptV at r0 r1 q0
            have HPd : Hid (PlI w b c K hPt0 K' B' false x4.drew) := HP4.out.old (below_drewQ _)
            have CG : Hid _ := get_any HPd.out.ps
            clear HP4
            go_upto_region 27 with fail
            go_region_held3 (fun u => u.cell? ⟨c, 0, none⟩ = some (.slice K'.a K'.z.length K'.c) ∧ u.cell? ⟨c, 2, none⟩ = some (.bool false))
              (first | (with_reducible exact ⟨by with_reducible assumption, by with_reducible assumption⟩) | go_keep) (first
              | (go_at_call 24; refine Calls.mono CG.out ?_; rintro e x7 ⟨g, rfl, hg, hgp, hgb, -⟩; have HP7 : Hid (PlI w b c K hPt0 K' B' false x7) := HPd.out.old hgb; have hge : g.z = K'.z := hg.trans HP7.out.kk; have hgl : g.z.length = K'.z.length := (by rw [hge]); have CS : Hid _ := same_any g.a K'.a K'.z.length g.c K'.c K'.z x7 rfl (by rw [← hge]; exact hgp.2.2.2.2) HP7.out.rs.k.2.2.2.2; have CB : Hid _ := busy_any HP7.out.ps; obtain ⟨t0, t1, t2⟩ := three_cells HP7.out.rs.ce; unfold ptV at t0 t1; unfold ptV; rw [hgl]; clear hg hgp hgb hge hgl)
              | (go_at_call 12; refine Calls.mono CS.out ?_; rintro e x ⟨rfl, hx⟩; have hx2 := hx.symm; clear hx; subst hx2)
              | (go_at_call 25; refine Calls.mono CB.out ?_; rintro e x ⟨rfl, hx⟩; have hx2 := hx.symm; clear hx; subst hx2))
            clear CG CS CB
            go_wp2
            go_roundw
            case rel => exact ⟨k + 1, K, hPt0, K', B', false, by omega, by go_num, HP7.out⟩
            case measure => first | (show len - ((k : Int) + 1).toNat < len - ((k : Int)).toNat; omega) | (simp [intOf]; omega)
    · obtain rfl : k = len := by omega
      go_wp2
      go_ret
      exact ⟨rfl, HP.out.be⟩
theorem tplays_walk (a : Option Addr) (len cap : Nat) (F : Nat → Ac) (w : World) (hF : AcArg w a len cap F) : Calls Try.prog 6 #[.slice a len cap] w fun e w' => e = .returned (.bool true) ∧ Below w.heap.size w w' := by
  by_cases hn : 200 < (len : Int)
  · exact tplays_big a len cap w hn
  · exact tplays_all a len cap F w hF hn
end Go.Proofs.Ytinmkhdangknbaa
