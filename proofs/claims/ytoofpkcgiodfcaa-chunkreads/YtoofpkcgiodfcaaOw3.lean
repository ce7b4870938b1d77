/- ChunkReads: the law, walked. -/
import Derived.Test.YtoofpkcgiodfcaaOw2
namespace Go.Proofs.Ytoofpkcgiodfcaa
open Go.RowKit
def ChAt (w : World) (p k : Nat) (bad : Bool) (v4 v5 : Value) (wr : World) : Prop :=
  ∃ A S O vo ga go BT, ChM w p A S [] O v4 v5 (.slice none 0 0) vo ga go BT wr ∧ ChB wr p A (S.map Sm.s) bad ∧ Bytes A ∧ A.length ≤ 600 * k
set_option maxHeartbeats 6400000 in
set_option maxRecDepth 100000 in
theorem creads_walk (a : Option Addr) (len cap : Nat) (F : Nat → Pt) (w : World) (h : PtArg w a len cap F) :
    Calls Try.prog 3 #[.slice a len cap] w fun e w' => e = .returned (.bool true) ∧ Below w.heap.size w w' := by
  obtain ⟨hl, hm, hF⟩ := h
  unfold maxLen at hm
  have HF : Hid (0 < len → ∃ b off, a = some ⟨b, off, none⟩ ∧ ∀ i, i < len → w.cell? ⟨b, off + i, none⟩ = some (.slice (F i).a (F i).z.length (F i).c) ∧ PtOk w (F i)) := hF
  clear hF
  go_enter Try.func3, Try.ntmps3
  go_wp2_with fail
  refine (kfixed_any _).mono ?_
  rintro e w1 ⟨rfl, hb1⟩
  by_cases h12 : 12 < (len : Int)
  · go_wp2
    go_ret
    exact ⟨rfl, hb1⟩
  have HB1 : Hid (Below w.heap.size w w1) := hb1
  clear hb1
  go_wp2_with fail
  refine (cnew_any w1).mono ?_
  rintro e w2 ⟨rfl, hr2, hb2⟩
  obtain ⟨p, hp⟩ : ∃ p, w1.heap.size = p := ⟨_, rfl⟩
  have HS : Hid (ChAt w p 0 false (.slice none 0 0) (.slice none 0 0) w2) := by
    rw [hp] at hr2
    have hbe : Below w.heap.size w w2 := HB1.out.trans (hb2.mono HB1.out.size)
    exact ⟨[], [], [], .slice none 0 0, none, none, p + 1, ⟨Sl.nil _ _, Sl.nil _ _, World.ownsRow_nil _ _ _ _, ⟨(fun x hx => by cases hx), List.Pairwise.nil⟩, ⟨World.ownsRow_nil _ _ _ _, (fun x hx => by cases hx), fun x hx => by cases hx⟩, (by intro k hk; cases hk), (by intro k hk; cases hk), (fun x hx => by cases hx), (fun x hx => by cases hx), (by intro k hk; cases hk), Nat.lt_succ_self _, hbe, by rw [← hp]; exact HB1.out.size, hr2.lt⟩, .inl ⟨rfl, [], 0, [], hr2, rfl⟩, Bytes.nil, by simp⟩
  rw [hp]
  clear hr2 hb2 hp
  go_wp2
  go_loopw [4, 5, 6, 8, 9, 10, 11, 12, 13, 14, 15, 16, 25] (fun v4 v5 v6 _ _ _ _ _ _ _ _ _ v wr => ∃ k : Nat, k ≤ len ∧ v = .int .i64 k ∧ ∃ bad, v6 = .bool bad ∧ ∃ a4 n4 c4 a5 n5 c5, v4 = .slice a4 n4 c4 ∧ v5 = .slice a5 n5 c5 ∧ Hid (ChAt w p k bad (.slice a4 n4 c4) (.slice a5 n5 c5) wr)) (fun _ _ _ _ _ _ _ _ _ _ _ _ v _ => len - (intOf v).toNat)
  case atStart => exact ⟨0, by omega, rfl, false, rfl, none, 0, 0, none, 0, 0, rfl, rfl, HS.out⟩
  case round =>
    clear HS
    obtain ⟨k, hk, rfl, bad, rfl, a4, n4, c4, a5, n5, c5, rfl, rfl, HR⟩ := hrel
    by_cases hlt : k < len
    · obtain ⟨A, S, O, vo, ga, go, BT, hch, hcb, hbA, hAl⟩ := HR.out
      obtain ⟨b, off, rfl, hc⟩ := HF.out (by omega)
      obtain ⟨hck, hq1, hq2, hq3, hq4, hq5⟩ := hc k hlt
      have hck' : wr.cell? ⟨b, off + k, none⟩ = some (.slice (F k).a (F k).z.length (F k).c) := (hch.be.cell (p := ⟨b, _, none⟩) (cell_lt hck)).trans hck
      clear hc hck
      generalize F k = f at *
      obtain ⟨fa, fc, fz⟩ := f
      simp only at hck' hq1 hq2 hq3 hq4 hq5
      have HCH : Hid (ChM w p A S [] O (.slice a4 n4 c4) (.slice a5 n5 c5) (.slice none 0 0) vo ga go BT wr ∧ ChB wr p A (S.map Sm.s) bad) := ⟨hch, hcb⟩
      have HQ : Hid (Bytes fz ∧ (fa = none → fc = 0) ∧ Row w fa fz ∧ Bytes A ∧ A.length ≤ 600 * k) := ⟨hq1, hq4, hq5, hbA, hAl⟩
      obtain ⟨FL, hFL⟩ : ∃ FL, fz.length = FL := ⟨_, rfl⟩
      have HFL : Hid (fz.length = FL) := hFL
      rw [hFL] at hck' hq2 hq3
      have HSz : Hid (S.length ≤ 8000 ∧ ∀ x ∈ S, x.s.data.length ≤ 8000) := by
        obtain ⟨f0, hf0⟩ : ∃ f0, ofAll A = (S.map Sm.s, f0) := by
          rcases hcb with ⟨_, L, now, cur, h1, h2⟩ | ⟨_, er, _, _, h2⟩
          · exact ⟨_, by rw [h2]; exact h1.2.1.say h1.1⟩
          · exact ⟨_, h2⟩
        obtain ⟨h2, h3⟩ := ofAll_small A
        rw [hf0] at h2 h3
        rw [List.length_map] at h2
        exact ⟨by omega, fun x hx => by have := h3 x.s (List.mem_map_of_mem hx); omega⟩
      clear hch hcb hq1 hq4 hq5 hbA hAl hFL HR
      have hki : (k : Int) < (len : Int) := by omega
      by_cases h600 : 600 < (FL : Int)
      · have HP : Hid (Below w.heap.size w wr) := HCH.out.1.be
        clear HCH
        go_wp2
        go_ret
        exact ⟨rfl, HP.out⟩
      have HRwr : Hid (Row wr fa fz) := HQ.out.2.2.1.old HCH.out.1.be
      go_upto_region 15 with (at_builtin; refine wpList_copy rfl _ _ rfl fa FL fc fz rfl rfl HQ.out.2.1 HFL.out HRwr.out (by omega) ?_; intro a7 c7 w7 g7 hs7 hg7 hb7; have HE : Hid (ChM w p A S [] fz (.slice a4 n4 c4) (.slice a5 n5 c5) (.slice none 0 0) (.slice a7 FL c7) ga g7 BT w7 ∧ ChB w7 p A (S.map Sm.s) bad) := ⟨HCH.out.1.copy hs7 hg7 hb7, HCH.out.2.same (hb7.block p HCH.out.1.pl)⟩; clear hs7 hg7 hb7)
      clear HCH HRwr hck'
      go_wp2_with fail
      refine (HE.out.1.pushes HE.out.2 HQ.out.1 HFL.out (by omega)).mono ?_
      rintro e w8 ⟨at', ct, T, er, rfl, hcm, hcr, hT0, hTl⟩
      obtain ⟨B, hB⟩ : ∃ B, (if bad = true then A else A ++ fz) = B := ⟨_, rfl⟩
      rw [hB] at hcr
      have HB : Hid ((if bad = true then A else A ++ fz) = B ∧ Bytes B ∧ B.length ≤ 600 * (k + 1) ∧ (bad = true → T = []) ∧ T.length ≤ 601) := by
        refine ⟨hB, ?_, ?_, hT0, hTl⟩
        · rw [← hB]
          split
          · exact HQ.out.2.2.2.1
          · exact HQ.out.2.2.2.1.app HQ.out.1
        · have h1 := HQ.out.2.2.2.2
          rw [← hB]
          split
          · omega
          · rw [List.length_append, HFL.out]; omega
      obtain ⟨TN, hTN⟩ : ∃ TN, T.length = TN := ⟨_, rfl⟩
      rw [hTN] at hcm ⊢
      have HTN : Hid (T.length = TN ∧ TN ≤ 601) := ⟨hTN, by omega⟩
      have hTNb : TN ≤ 601 := by omega
      obtain ⟨BQ, hBQ⟩ : ∃ BQ, w7.heap.size = BQ := ⟨_, rfl⟩
      rw [hBQ] at hcm
      have HI0 : Hid (∃ O, O.length = FL ∧ ChM w p A S T O (.slice a4 n4 c4) (.slice a5 n5 c5) (.slice at' TN ct) (.slice a7 FL c7) ga g7 BQ w8 ∧ ChR w8 p B (S.map Sm.s) T er) := ⟨fz, HFL.out, hcm, hcr⟩
      clear hcm hcr hT0 hTl hTN hBQ hB HE
      go_wp2
      go_loopg [12, 43] FL (fun fu _ i wq => ∃ j : Nat, j ≤ FL ∧ fu = FL - j ∧ i = .int .i64 j ∧ Hid (∃ O, O.length = FL ∧ ChM w p A S T O (.slice a4 n4 c4) (.slice a5 n5 c5) (.slice at' TN ct) (.slice a7 FL c7) ga g7 BQ wq ∧ ChR wq p B (S.map Sm.s) T er))
      case atStart => exact ⟨0, Nat.zero_le _, rfl, rfl, HI0.out⟩
      case round =>
        clear HI0
        obtain ⟨j, hj, hfj, rfl, HZ⟩ := hrel
        by_cases hjN : j < FL
        · have hjNi : (j : Int) < (FL : Int) := by omega
          obtain ⟨O, hO, hch, hcr⟩ := HZ.out
          obtain ⟨bq, offq, rfl, hcq⟩ : ∃ b off, a7 = some ⟨b, off, none⟩ ∧ wr.cell? ⟨b, off + j, none⟩ = some (.int .u8 (O[j]?.getD 0)) := by
            rcases hch.so.row rfl with h | ⟨b, off, rfl, hc⟩
            · rw [h] at hO; simp at hO; omega
            · exact ⟨b, off, rfl, hc j (by omega)⟩
          have hgq : g7 = some bq := hch.so.dblk
          have hfq : wr.frozen? ⟨bq, offq + j, none⟩ = false := by
            obtain ⟨c, e⟩ := hch.so.tagB bq hgq
            simp [World.frozen?, e]
          obtain ⟨z, hz⟩ : ∃ z, O[j]?.getD 0 = z := ⟨_, rfl⟩
          rw [hz] at hcq
          have HN1 : Hid (∀ v : Int, ∃ O, O.length = FL ∧ ChM w p A S T O (.slice a4 n4 c4) (.slice a5 n5 c5) (.slice at' TN ct) (.slice (some ⟨bq, offq, none⟩) FL c7) ga g7 BQ (wr.setCell ⟨bq, offq + j, none⟩ (.int .u8 v)) ∧ ChR (wr.setCell ⟨bq, offq + j, none⟩ (.int .u8 v)) p B (S.map Sm.s) T er) := by
            intro v
            have hpb := hch.op bq hgq
            subst hgq
            exact ⟨O.set j v, by simpa using hO, hch.over (by rw [vals_setO]; exact hch.so.setAt j _), hcr.same (Below.heap_setCell _ _ _ _ (Nat.ne_of_lt hpb))⟩
          have hji : (0 : Int) ≤ (j : Int) := by omega
          clear HZ hO hch hcr hgq hz
          go_wp2
          go_roundg (FL - (j + 1))
          case rel => exact ⟨j + 1, by omega, rfl, by go_num, HN1.out _⟩
          case measure => omega
        · obtain rfl : FL = j := by omega
          have hkNi : ¬ (FL : Int) < (FL : Int) := by omega
          obtain ⟨O, hO, hch, hcr⟩ := HZ.out
          have HCH : Hid (ChM w p A S T O (.slice a4 n4 c4) (.slice a5 n5 c5) (.slice at' TN ct) (.slice a7 FL c7) ga g7 BQ wr ∧ ChR wr p B (S.map Sm.s) T er) := ⟨hch, hcr⟩
          have HRwr : Hid (Row wr fa fz) := HQ.out.2.2.1.old hch.be
          clear HZ hO hch hcr
          cases bad with
          | false =>
            have hBe : A ++ fz = B := by have := HB.out.1; rw [if_neg (by decide)] at this; exact this
            go_upto_region 23 with (at_builtin; refine wpList_more rfl _ _ rfl (.slice a4 n4 c4) ga A rfl HCH.out.1.al fa FL fc fz rfl HQ.out.2.1 HFL.out HRwr.out (by have := HQ.out.2.2.2.2; omega) ?_; intro v9 w9 g9 hs9 hg9 hgr9; obtain ⟨a6, c6, hv9, -⟩ := hs9.shape; rw [vals_len] at hv9; obtain ⟨n6, hn6⟩ : ∃ n6, (A ++ fz).length = n6 := ⟨_, rfl⟩; rw [hn6] at hv9; subst hv9; rw [hBe] at hs9; have HC2 : Hid (ChM w p B S T O (.slice a6 n6 c6) (.slice a5 n5 c5) (.slice at' TN ct) (.slice a7 FL c7) g9 g7 BQ w9 ∧ ChR w9 p B (S.map Sm.s) T er) := ⟨HCH.out.1.all hs9 hg9 hgr9, HCH.out.2.same (hgr9.block p HCH.out.1.pl (fun e => by have := HCH.out.1.gp p e.symm; omega))⟩; clear hs9 hg9 hgr9 hn6)
            clear HCH
            obtain ⟨xo, yo, hvo, hlo6, hmo6, hno6⟩ := HC2.out.1.al.shape
            rw [vals_len] at hvo hlo6
            simp only [Value.slice.injEq] at hvo
            obtain ⟨rfl, hn6, rfl⟩ := hvo
            have HOf : Hid (Calls Try.prog 11 #[.slice a6 n6 c6] w9 fun e w' => OfP w9 B e w') := rofc_any a6 n6 c6 B w9 hn6.symm HB.out.2.1 (HC2.out.1.al.row rfl) (by omega) (by unfold maxLen at hmo6; omega) hno6 (by have := HB.out.2.2.1; omega)
            clear hlo6 hmo6 hno6 hn6
            go_wp2_with fail
            refine HOf.out.mono ?_
            clear HOf
            rintro e wx ⟨vw, W, rfl, hof, hmap⟩
            obtain ⟨aw, cw, hvw, -⟩ := hof.row.shape
            subst hvw
            obtain ⟨G, f, hG, hga, hcase, hnext, hbet⟩ := HC2.out.2.says
            rw [hG] at hmap ⊢
            simp only at hmap
            have hcx := HC2.out.1.old hof.be
            have hpx : wx.heap[p]? = w9.heap[p]? := hof.be.block p HC2.out.1.pl
            have CB := hbet wx hpx
            have HX : Hid (OfM w9 W (.slice aw W.length cw) wx ∧ W.map Sm.s = G ∧ ChM w p B S T O (.slice a6 n6 c6) (.slice a5 n5 c5) (.slice at' TN ct) (.slice a7 FL c7) g9 g7 BQ wx ∧ ChM w p B S T O (.slice a6 n6 c6) (.slice a5 n5 c5) (.slice at' TN ct) (.slice a7 FL c7) g9 g7 BQ w9 ∧ gath (S.map Sm.s) (T.map Pm.q) = some G ∧ (∀ w', w'.heap[p]? = w9.heap[p]? → ChB w' p B G (decide (er ≠ 0))) ∧ wx.heap[p]? = w9.heap[p]? ∧ ofAll B = (G, f)) := ⟨hof, hmap, hcx, HC2.out.1, hga, hnext, hpx, hG⟩
            obtain ⟨WN, hWN⟩ : ∃ WN, W.length = WN := ⟨_, rfl⟩
            have HWN : Hid (W.length = WN) := hWN
            have HGa : Hid (Calls Try.prog 13 #[.slice a5 n5 c5, .slice at' TN ct] wx fun e w' => ∃ v' S', e = .returned (.tuple #[v', .bool true]) ∧ S'.map Sm.s = G ∧ ChM w p B S' [] O (.slice a6 n6 c6) v' (.slice none 0 0) (.slice a7 FL c7) g9 g7 BQ w' ∧ w'.heap[p]? = wx.heap[p]? ∧ FrS wx w' (Value.slice a5 n5 c5).ownBlock S) := by
              have hx := HX.out.2.2.1
              obtain ⟨hs1, hs2⟩ := ofAll_small B
              rw [HX.out.2.2.2.2.2.2.2] at hs1 hs2
              have hb6 := HB.out.2.2.1
              have ht := HTN.out
              rw [← ht.1] at hx ⊢
              refine hx.gather (by have := HSz.out.1; omega) (fun x hx => by have := HSz.out.2 x hx; omega) (fun x hx => ?_) HX.out.2.2.2.2.1
              obtain ⟨s, hs, h1⟩ := (gath_data _ HX.out.2.2.2.2.1).1 x.q (List.mem_map_of_mem hx)
              have := hs2 s hs
              omega
            rw [hWN]
            clear hWN hof hmap hga hnext hcx hpx hG HC2
            rcases hcase with ⟨rfl, rfl | rfl⟩ | ⟨rfl, rfl | rfl | rfl⟩
            · go_wp2_with fail
              have CB2 : Calls Try.prog 12 #[.pointer (some ⟨p, 0, none⟩)] wx fun e w2 => e = .returned (.bool true) ∧ w2 = wx := CB
              refine CB2.mono ?_
              clear CB2
              rintro e wy ⟨rfl, hwy⟩
              rw [hwy]
              clear hwy CB
              go_wp2_with fail
              refine HGa.out.mono ?_
              clear HGa
              rintro e wz ⟨v', S', rfl, hmS, hcz, hpz, hfz⟩
              obtain ⟨az, cz, hvz, -⟩ := hcz.row.shape
              have hSW : S'.length = WN := by have e1 := congrArg List.length hmS; have e2 := congrArg List.length HX.out.2.1; rw [List.length_map] at e1 e2; rw [e1, ← e2]; exact HWN.out
              rw [hSW] at hvz
              subst hvz
              have HSm : Hid (Calls Try.prog 14 #[.slice az WN cz, .slice aw WN cw] wz fun e w' => e = .returned (.bool true) ∧ Below wz.heap.size wz w') := by
                obtain ⟨r1, r2⟩ := HX.out.1.after HX.out.2.2.2.1.row HX.out.2.2.2.1.mem hfz
                rw [HWN.out] at r1
                exact lsame_any (p + 1) w9.heap.size az aw cz cw WN S' W wz hcz.row r1 hSW (by obtain ⟨hs1, hs2⟩ := ofAll_small B; rw [HX.out.2.2.2.2.2.2.2, ← hmS, List.length_map] at hs1; have := HB.out.2.2.1; omega) (hmS.trans HX.out.2.1.symm) (fun x hx => (hcz.mem.1 x hx).1.row rfl) r2
              have HFin : Hid (∀ w', Below wz.heap.size wz w' → ChAt w p (k + 1) false (.slice a6 n6 c6) (.slice az WN cz) w') := fun w' hw => ⟨B, S', O, _, _, _, _, hcz.old hw, by rw [hmS]; exact HX.out.2.2.2.2.2.1 w' ((hw.block p hcz.pl).trans (hpz.trans HX.out.2.2.2.2.2.2.1)), HB.out.2.1, HB.out.2.2.1⟩
              clear hmS hcz hpz hfz hSW
              go_wp2_with fail
              refine HSm.out.mono ?_
              clear HSm
              rintro e w0 ⟨rfl, hb0⟩
              have HFF : Hid _ := HFin.out w0 hb0
              clear hb0 HFin
              go_wp2
              go_roundw
              case rel => exact ⟨k + 1, by omega, by go_num, false, rfl, _, _, _, _, _, _, rfl, rfl, HFF.out⟩
              case measure => simp [intOf]; omega
            · go_wp2_with fail
              have CB2 : Calls Try.prog 12 #[.pointer (some ⟨p, 0, none⟩)] wx fun e w2 => e = .returned (.bool false) ∧ w2 = wx := CB
              refine CB2.mono ?_
              clear CB2
              rintro e wy ⟨rfl, hwy⟩
              rw [hwy]
              clear hwy CB
              go_wp2_with fail
              refine HGa.out.mono ?_
              clear HGa
              rintro e wz ⟨v', S', rfl, hmS, hcz, hpz, hfz⟩
              obtain ⟨az, cz, hvz, -⟩ := hcz.row.shape
              have hSW : S'.length = WN := by have e1 := congrArg List.length hmS; have e2 := congrArg List.length HX.out.2.1; rw [List.length_map] at e1 e2; rw [e1, ← e2]; exact HWN.out
              rw [hSW] at hvz
              subst hvz
              have HSm : Hid (Calls Try.prog 14 #[.slice az WN cz, .slice aw WN cw] wz fun e w' => e = .returned (.bool true) ∧ Below wz.heap.size wz w') := by
                obtain ⟨r1, r2⟩ := HX.out.1.after HX.out.2.2.2.1.row HX.out.2.2.2.1.mem hfz
                rw [HWN.out] at r1
                exact lsame_any (p + 1) w9.heap.size az aw cz cw WN S' W wz hcz.row r1 hSW (by obtain ⟨hs1, hs2⟩ := ofAll_small B; rw [HX.out.2.2.2.2.2.2.2, ← hmS, List.length_map] at hs1; have := HB.out.2.2.1; omega) (hmS.trans HX.out.2.1.symm) (fun x hx => (hcz.mem.1 x hx).1.row rfl) r2
              have HFin : Hid (∀ w', Below wz.heap.size wz w' → ChAt w p (k + 1) false (.slice a6 n6 c6) (.slice az WN cz) w') := fun w' hw => ⟨B, S', O, _, _, _, _, hcz.old hw, by rw [hmS]; exact HX.out.2.2.2.2.2.1 w' ((hw.block p hcz.pl).trans (hpz.trans HX.out.2.2.2.2.2.2.1)), HB.out.2.1, HB.out.2.2.1⟩
              clear hmS hcz hpz hfz hSW
              go_wp2_with fail
              refine HSm.out.mono ?_
              clear HSm
              rintro e w0 ⟨rfl, hb0⟩
              have HFF : Hid _ := HFin.out w0 hb0
              clear hb0 HFin
              go_wp2
              go_roundw
              case rel => exact ⟨k + 1, by omega, by go_num, false, rfl, _, _, _, _, _, _, rfl, rfl, HFF.out⟩
              case measure => simp [intOf]; omega
            · go_wp2_with fail
              have CB2 : Calls Try.prog 12 #[.pointer (some ⟨p, 0, none⟩)] wx fun e w2 => e = .returned (.bool false) ∧ w2 = wx := CB
              refine CB2.mono ?_
              clear CB2
              rintro e wy ⟨rfl, hwy⟩
              rw [hwy]
              clear hwy CB
              go_wp2_with fail
              refine HGa.out.mono ?_
              clear HGa
              rintro e wz ⟨v', S', rfl, hmS, hcz, hpz, hfz⟩
              obtain ⟨az, cz, hvz, -⟩ := hcz.row.shape
              have hSW : S'.length = WN := by have e1 := congrArg List.length hmS; have e2 := congrArg List.length HX.out.2.1; rw [List.length_map] at e1 e2; rw [e1, ← e2]; exact HWN.out
              rw [hSW] at hvz
              subst hvz
              have HSm : Hid (Calls Try.prog 14 #[.slice az WN cz, .slice aw WN cw] wz fun e w' => e = .returned (.bool true) ∧ Below wz.heap.size wz w') := by
                obtain ⟨r1, r2⟩ := HX.out.1.after HX.out.2.2.2.1.row HX.out.2.2.2.1.mem hfz
                rw [HWN.out] at r1
                exact lsame_any (p + 1) w9.heap.size az aw cz cw WN S' W wz hcz.row r1 hSW (by obtain ⟨hs1, hs2⟩ := ofAll_small B; rw [HX.out.2.2.2.2.2.2.2, ← hmS, List.length_map] at hs1; have := HB.out.2.2.1; omega) (hmS.trans HX.out.2.1.symm) (fun x hx => (hcz.mem.1 x hx).1.row rfl) r2
              have HFin : Hid (∀ w', Below wz.heap.size wz w' → ChAt w p (k + 1) true (.slice a6 n6 c6) (.slice az WN cz) w') := fun w' hw => ⟨B, S', O, _, _, _, _, hcz.old hw, by rw [hmS]; exact HX.out.2.2.2.2.2.1 w' ((hw.block p hcz.pl).trans (hpz.trans HX.out.2.2.2.2.2.2.1)), HB.out.2.1, HB.out.2.2.1⟩
              clear hmS hcz hpz hfz hSW
              go_wp2_with fail
              refine HSm.out.mono ?_
              clear HSm
              rintro e w0 ⟨rfl, hb0⟩
              have HFF : Hid _ := HFin.out w0 hb0
              clear hb0 HFin
              go_wp2
              go_roundw
              case rel => exact ⟨k + 1, by omega, by go_num, true, rfl, _, _, _, _, _, _, rfl, rfl, HFF.out⟩
              case measure => simp [intOf]; omega
            · go_wp2_with fail
              have CB2 : Calls Try.prog 12 #[.pointer (some ⟨p, 0, none⟩)] wx fun e w2 => e = .returned (.bool false) ∧ w2 = wx := CB
              refine CB2.mono ?_
              clear CB2
              rintro e wy ⟨rfl, hwy⟩
              rw [hwy]
              clear hwy CB
              go_wp2_with fail
              refine HGa.out.mono ?_
              clear HGa
              rintro e wz ⟨v', S', rfl, hmS, hcz, hpz, hfz⟩
              obtain ⟨az, cz, hvz, -⟩ := hcz.row.shape
              have hSW : S'.length = WN := by have e1 := congrArg List.length hmS; have e2 := congrArg List.length HX.out.2.1; rw [List.length_map] at e1 e2; rw [e1, ← e2]; exact HWN.out
              rw [hSW] at hvz
              subst hvz
              have HSm : Hid (Calls Try.prog 14 #[.slice az WN cz, .slice aw WN cw] wz fun e w' => e = .returned (.bool true) ∧ Below wz.heap.size wz w') := by
                obtain ⟨r1, r2⟩ := HX.out.1.after HX.out.2.2.2.1.row HX.out.2.2.2.1.mem hfz
                rw [HWN.out] at r1
                exact lsame_any (p + 1) w9.heap.size az aw cz cw WN S' W wz hcz.row r1 hSW (by obtain ⟨hs1, hs2⟩ := ofAll_small B; rw [HX.out.2.2.2.2.2.2.2, ← hmS, List.length_map] at hs1; have := HB.out.2.2.1; omega) (hmS.trans HX.out.2.1.symm) (fun x hx => (hcz.mem.1 x hx).1.row rfl) r2
              have HFin : Hid (∀ w', Below wz.heap.size wz w' → ChAt w p (k + 1) true (.slice a6 n6 c6) (.slice az WN cz) w') := fun w' hw => ⟨B, S', O, _, _, _, _, hcz.old hw, by rw [hmS]; exact HX.out.2.2.2.2.2.1 w' ((hw.block p hcz.pl).trans (hpz.trans HX.out.2.2.2.2.2.2.1)), HB.out.2.1, HB.out.2.2.1⟩
              clear hmS hcz hpz hfz hSW
              go_wp2_with fail
              refine HSm.out.mono ?_
              clear HSm
              rintro e w0 ⟨rfl, hb0⟩
              have HFF : Hid _ := HFin.out w0 hb0
              clear hb0 HFin
              go_wp2
              go_roundw
              case rel => exact ⟨k + 1, by omega, by go_num, true, rfl, _, _, _, _, _, _, rfl, rfl, HFF.out⟩
              case measure => simp [intOf]; omega
            · go_wp2_with fail
              have CB2 : Calls Try.prog 12 #[.pointer (some ⟨p, 0, none⟩)] wx fun e w2 => e = .returned (.bool false) ∧ w2 = wx := CB
              refine CB2.mono ?_
              clear CB2
              rintro e wy ⟨rfl, hwy⟩
              rw [hwy]
              clear hwy CB
              go_wp2_with fail
              refine HGa.out.mono ?_
              clear HGa
              rintro e wz ⟨v', S', rfl, hmS, hcz, hpz, hfz⟩
              obtain ⟨az, cz, hvz, -⟩ := hcz.row.shape
              have hSW : S'.length = WN := by have e1 := congrArg List.length hmS; have e2 := congrArg List.length HX.out.2.1; rw [List.length_map] at e1 e2; rw [e1, ← e2]; exact HWN.out
              rw [hSW] at hvz
              subst hvz
              have HSm : Hid (Calls Try.prog 14 #[.slice az WN cz, .slice aw WN cw] wz fun e w' => e = .returned (.bool true) ∧ Below wz.heap.size wz w') := by
                obtain ⟨r1, r2⟩ := HX.out.1.after HX.out.2.2.2.1.row HX.out.2.2.2.1.mem hfz
                rw [HWN.out] at r1
                exact lsame_any (p + 1) w9.heap.size az aw cz cw WN S' W wz hcz.row r1 hSW (by obtain ⟨hs1, hs2⟩ := ofAll_small B; rw [HX.out.2.2.2.2.2.2.2, ← hmS, List.length_map] at hs1; have := HB.out.2.2.1; omega) (hmS.trans HX.out.2.1.symm) (fun x hx => (hcz.mem.1 x hx).1.row rfl) r2
              have HFin : Hid (∀ w', Below wz.heap.size wz w' → ChAt w p (k + 1) true (.slice a6 n6 c6) (.slice az WN cz) w') := fun w' hw => ⟨B, S', O, _, _, _, _, hcz.old hw, by rw [hmS]; exact HX.out.2.2.2.2.2.1 w' ((hw.block p hcz.pl).trans (hpz.trans HX.out.2.2.2.2.2.2.1)), HB.out.2.1, HB.out.2.2.1⟩
              clear hmS hcz hpz hfz hSW
              go_wp2_with fail
              refine HSm.out.mono ?_
              clear HSm
              rintro e w0 ⟨rfl, hb0⟩
              have HFF : Hid _ := HFin.out w0 hb0
              clear hb0 HFin
              go_wp2
              go_roundw
              case rel => exact ⟨k + 1, by omega, by go_num, true, rfl, _, _, _, _, _, _, rfl, rfl, HFF.out⟩
              case measure => simp [intOf]; omega
          | true =>
            obtain rfl : A = B := by have := HB.out.1; rw [if_pos rfl] at this; exact this
            obtain rfl : T = [] := HB.out.2.2.2.1 rfl
            have HC2 : Hid _ := HCH.out
            clear HCH
            go_upto_region 23 with fail
            obtain ⟨xo, yo, hvo, hlo6, hmo6, hno6⟩ := HC2.out.1.al.shape
            rw [vals_len] at hvo hlo6
            simp only [Value.slice.injEq] at hvo
            obtain ⟨rfl, hn6, rfl⟩ := hvo
            have HOf : Hid (Calls Try.prog 11 #[.slice a4 n4 c4] wr fun e w' => OfP wr A e w') := rofc_any a4 n4 c4 A wr hn6.symm HB.out.2.1 (HC2.out.1.al.row rfl) (by omega) (by unfold maxLen at hmo6; omega) hno6 (by have := HB.out.2.2.1; omega)
            clear hlo6 hmo6 hno6 hn6
            go_wp2_with fail
            refine HOf.out.mono ?_
            clear HOf
            rintro e wx ⟨vw, W, rfl, hof, hmap⟩
            obtain ⟨aw, cw, hvw, -⟩ := hof.row.shape
            subst hvw
            obtain ⟨G, f, hG, hga, hcase, hnext, hbet⟩ := HC2.out.2.says
            rw [hG] at hmap ⊢
            simp only at hmap
            have hcx := HC2.out.1.old hof.be
            have hpx : wx.heap[p]? = wr.heap[p]? := hof.be.block p HC2.out.1.pl
            have CB := hbet wx hpx
            obtain rfl : TN = 0 := by have := HTN.out.1; simpa using this.symm
            have HX : Hid (OfM wr W (.slice aw W.length cw) wx ∧ W.map Sm.s = G ∧ ChM w p A S [] O (.slice a4 n4 c4) (.slice a5 n5 c5) (.slice at' 0 ct) (.slice a7 FL c7) ga g7 BQ wx ∧ ChM w p A S [] O (.slice a4 n4 c4) (.slice a5 n5 c5) (.slice at' 0 ct) (.slice a7 FL c7) ga g7 BQ wr ∧ gath (S.map Sm.s) ([].map Pm.q) = some G ∧ (∀ w', w'.heap[p]? = wr.heap[p]? → ChB w' p A G (decide (er ≠ 0))) ∧ wx.heap[p]? = wr.heap[p]? ∧ ofAll A = (G, f)) := ⟨hof, hmap, hcx, HC2.out.1, hga, hnext, hpx, hG⟩
            obtain ⟨WN, hWN⟩ : ∃ WN, W.length = WN := ⟨_, rfl⟩
            have HWN : Hid (W.length = WN) := hWN
            have HGa : Hid (Calls Try.prog 13 #[.slice a5 n5 c5, .slice at' 0 ct] wx fun e w' => ∃ v' S', e = .returned (.tuple #[v', .bool true]) ∧ S'.map Sm.s = G ∧ ChM w p A S' [] O (.slice a4 n4 c4) v' (.slice none 0 0) (.slice a7 FL c7) ga g7 BQ w' ∧ w'.heap[p]? = wx.heap[p]? ∧ FrS wx w' (Value.slice a5 n5 c5).ownBlock S) := by
              have hx := HX.out.2.2.1
              obtain ⟨hs1, hs2⟩ := ofAll_small A
              rw [HX.out.2.2.2.2.2.2.2] at hs1 hs2
              have hb6 := HB.out.2.2.1
              have ht := HTN.out
              refine hx.gather (by have := HSz.out.1; omega) (fun x hx => by have := HSz.out.2 x hx; omega) (fun x hx => ?_) HX.out.2.2.2.2.1
              obtain ⟨s, hs, h1⟩ := (gath_data _ HX.out.2.2.2.2.1).1 x.q (List.mem_map_of_mem hx)
              have := hs2 s hs
              omega
            rw [hWN]
            clear hWN hof hmap hga hnext hcx hpx hG HC2
            rcases hcase with ⟨rfl, rfl | rfl⟩ | ⟨rfl, rfl | rfl | rfl⟩
            · go_wp2_with fail
              have CB2 : Calls Try.prog 12 #[.pointer (some ⟨p, 0, none⟩)] wx fun e w2 => e = .returned (.bool true) ∧ w2 = wx := CB
              refine CB2.mono ?_
              clear CB2
              rintro e wy ⟨rfl, hwy⟩
              rw [hwy]
              clear hwy CB
              go_wp2_with fail
              refine HGa.out.mono ?_
              clear HGa
              rintro e wz ⟨v', S', rfl, hmS, hcz, hpz, hfz⟩
              obtain ⟨az, cz, hvz, -⟩ := hcz.row.shape
              have hSW : S'.length = WN := by have e1 := congrArg List.length hmS; have e2 := congrArg List.length HX.out.2.1; rw [List.length_map] at e1 e2; rw [e1, ← e2]; exact HWN.out
              rw [hSW] at hvz
              subst hvz
              have HSm : Hid (Calls Try.prog 14 #[.slice az WN cz, .slice aw WN cw] wz fun e w' => e = .returned (.bool true) ∧ Below wz.heap.size wz w') := by
                obtain ⟨r1, r2⟩ := HX.out.1.after HX.out.2.2.2.1.row HX.out.2.2.2.1.mem hfz
                rw [HWN.out] at r1
                exact lsame_any (p + 1) wr.heap.size az aw cz cw WN S' W wz hcz.row r1 hSW (by obtain ⟨hs1, hs2⟩ := ofAll_small A; rw [HX.out.2.2.2.2.2.2.2, ← hmS, List.length_map] at hs1; have := HB.out.2.2.1; omega) (hmS.trans HX.out.2.1.symm) (fun x hx => (hcz.mem.1 x hx).1.row rfl) r2
              have HFin : Hid (∀ w', Below wz.heap.size wz w' → ChAt w p (k + 1) false (.slice a4 n4 c4) (.slice az WN cz) w') := fun w' hw => ⟨A, S', O, _, _, _, _, hcz.old hw, by rw [hmS]; exact HX.out.2.2.2.2.2.1 w' ((hw.block p hcz.pl).trans (hpz.trans HX.out.2.2.2.2.2.2.1)), HB.out.2.1, HB.out.2.2.1⟩
              clear hmS hcz hpz hfz hSW
              go_wp2_with fail
              refine HSm.out.mono ?_
              clear HSm
              rintro e w0 ⟨rfl, hb0⟩
              have HFF : Hid _ := HFin.out w0 hb0
              clear hb0 HFin
              go_wp2
              go_roundw
              case rel => exact ⟨k + 1, by omega, by go_num, false, rfl, _, _, _, _, _, _, rfl, rfl, HFF.out⟩
              case measure => simp [intOf]; omega
            · go_wp2_with fail
              have CB2 : Calls Try.prog 12 #[.pointer (some ⟨p, 0, none⟩)] wx fun e w2 => e = .returned (.bool false) ∧ w2 = wx := CB
              refine CB2.mono ?_
              clear CB2
              rintro e wy ⟨rfl, hwy⟩
              rw [hwy]
              clear hwy CB
              go_wp2_with fail
              refine HGa.out.mono ?_
              clear HGa
              rintro e wz ⟨v', S', rfl, hmS, hcz, hpz, hfz⟩
              obtain ⟨az, cz, hvz, -⟩ := hcz.row.shape
              have hSW : S'.length = WN := by have e1 := congrArg List.length hmS; have e2 := congrArg List.length HX.out.2.1; rw [List.length_map] at e1 e2; rw [e1, ← e2]; exact HWN.out
              rw [hSW] at hvz
              subst hvz
              have HSm : Hid (Calls Try.prog 14 #[.slice az WN cz, .slice aw WN cw] wz fun e w' => e = .returned (.bool true) ∧ Below wz.heap.size wz w') := by
                obtain ⟨r1, r2⟩ := HX.out.1.after HX.out.2.2.2.1.row HX.out.2.2.2.1.mem hfz
                rw [HWN.out] at r1
                exact lsame_any (p + 1) wr.heap.size az aw cz cw WN S' W wz hcz.row r1 hSW (by obtain ⟨hs1, hs2⟩ := ofAll_small A; rw [HX.out.2.2.2.2.2.2.2, ← hmS, List.length_map] at hs1; have := HB.out.2.2.1; omega) (hmS.trans HX.out.2.1.symm) (fun x hx => (hcz.mem.1 x hx).1.row rfl) r2
              have HFin : Hid (∀ w', Below wz.heap.size wz w' → ChAt w p (k + 1) false (.slice a4 n4 c4) (.slice az WN cz) w') := fun w' hw => ⟨A, S', O, _, _, _, _, hcz.old hw, by rw [hmS]; exact HX.out.2.2.2.2.2.1 w' ((hw.block p hcz.pl).trans (hpz.trans HX.out.2.2.2.2.2.2.1)), HB.out.2.1, HB.out.2.2.1⟩
              clear hmS hcz hpz hfz hSW
              go_wp2_with fail
              refine HSm.out.mono ?_
              clear HSm
              rintro e w0 ⟨rfl, hb0⟩
              have HFF : Hid _ := HFin.out w0 hb0
              clear hb0 HFin
              go_wp2
              go_roundw
              case rel => exact ⟨k + 1, by omega, by go_num, false, rfl, _, _, _, _, _, _, rfl, rfl, HFF.out⟩
              case measure => simp [intOf]; omega
            · go_wp2_with fail
              have CB2 : Calls Try.prog 12 #[.pointer (some ⟨p, 0, none⟩)] wx fun e w2 => e = .returned (.bool false) ∧ w2 = wx := CB
              refine CB2.mono ?_
              clear CB2
              rintro e wy ⟨rfl, hwy⟩
              rw [hwy]
              clear hwy CB
              go_wp2_with fail
              refine HGa.out.mono ?_
              clear HGa
              rintro e wz ⟨v', S', rfl, hmS, hcz, hpz, hfz⟩
              obtain ⟨az, cz, hvz, -⟩ := hcz.row.shape
              have hSW : S'.length = WN := by have e1 := congrArg List.length hmS; have e2 := congrArg List.length HX.out.2.1; rw [List.length_map] at e1 e2; rw [e1, ← e2]; exact HWN.out
              rw [hSW] at hvz
              subst hvz
              have HSm : Hid (Calls Try.prog 14 #[.slice az WN cz, .slice aw WN cw] wz fun e w' => e = .returned (.bool true) ∧ Below wz.heap.size wz w') := by
                obtain ⟨r1, r2⟩ := HX.out.1.after HX.out.2.2.2.1.row HX.out.2.2.2.1.mem hfz
                rw [HWN.out] at r1
                exact lsame_any (p + 1) wr.heap.size az aw cz cw WN S' W wz hcz.row r1 hSW (by obtain ⟨hs1, hs2⟩ := ofAll_small A; rw [HX.out.2.2.2.2.2.2.2, ← hmS, List.length_map] at hs1; have := HB.out.2.2.1; omega) (hmS.trans HX.out.2.1.symm) (fun x hx => (hcz.mem.1 x hx).1.row rfl) r2
              have HFin : Hid (∀ w', Below wz.heap.size wz w' → ChAt w p (k + 1) true (.slice a4 n4 c4) (.slice az WN cz) w') := fun w' hw => ⟨A, S', O, _, _, _, _, hcz.old hw, by rw [hmS]; exact HX.out.2.2.2.2.2.1 w' ((hw.block p hcz.pl).trans (hpz.trans HX.out.2.2.2.2.2.2.1)), HB.out.2.1, HB.out.2.2.1⟩
              clear hmS hcz hpz hfz hSW
              go_wp2_with fail
              refine HSm.out.mono ?_
              clear HSm
              rintro e w0 ⟨rfl, hb0⟩
              have HFF : Hid _ := HFin.out w0 hb0
              clear hb0 HFin
              go_wp2
              go_roundw
              case rel => exact ⟨k + 1, by omega, by go_num, true, rfl, _, _, _, _, _, _, rfl, rfl, HFF.out⟩
              case measure => simp [intOf]; omega
            · go_wp2_with fail
              have CB2 : Calls Try.prog 12 #[.pointer (some ⟨p, 0, none⟩)] wx fun e w2 => e = .returned (.bool false) ∧ w2 = wx := CB
              refine CB2.mono ?_
              clear CB2
              rintro e wy ⟨rfl, hwy⟩
              rw [hwy]
              clear hwy CB
              go_wp2_with fail
              refine HGa.out.mono ?_
              clear HGa
              rintro e wz ⟨v', S', rfl, hmS, hcz, hpz, hfz⟩
              obtain ⟨az, cz, hvz, -⟩ := hcz.row.shape
              have hSW : S'.length = WN := by have e1 := congrArg List.length hmS; have e2 := congrArg List.length HX.out.2.1; rw [List.length_map] at e1 e2; rw [e1, ← e2]; exact HWN.out
              rw [hSW] at hvz
              subst hvz
              have HSm : Hid (Calls Try.prog 14 #[.slice az WN cz, .slice aw WN cw] wz fun e w' => e = .returned (.bool true) ∧ Below wz.heap.size wz w') := by
                obtain ⟨r1, r2⟩ := HX.out.1.after HX.out.2.2.2.1.row HX.out.2.2.2.1.mem hfz
                rw [HWN.out] at r1
                exact lsame_any (p + 1) wr.heap.size az aw cz cw WN S' W wz hcz.row r1 hSW (by obtain ⟨hs1, hs2⟩ := ofAll_small A; rw [HX.out.2.2.2.2.2.2.2, ← hmS, List.length_map] at hs1; have := HB.out.2.2.1; omega) (hmS.trans HX.out.2.1.symm) (fun x hx => (hcz.mem.1 x hx).1.row rfl) r2
              have HFin : Hid (∀ w', Below wz.heap.size wz w' → ChAt w p (k + 1) true (.slice a4 n4 c4) (.slice az WN cz) w') := fun w' hw => ⟨A, S', O, _, _, _, _, hcz.old hw, by rw [hmS]; exact HX.out.2.2.2.2.2.1 w' ((hw.block p hcz.pl).trans (hpz.trans HX.out.2.2.2.2.2.2.1)), HB.out.2.1, HB.out.2.2.1⟩
              clear hmS hcz hpz hfz hSW
              go_wp2_with fail
              refine HSm.out.mono ?_
              clear HSm
              rintro e w0 ⟨rfl, hb0⟩
              have HFF : Hid _ := HFin.out w0 hb0
              clear hb0 HFin
              go_wp2
              go_roundw
              case rel => exact ⟨k + 1, by omega, by go_num, true, rfl, _, _, _, _, _, _, rfl, rfl, HFF.out⟩
              case measure => simp [intOf]; omega
            · go_wp2_with fail
              have CB2 : Calls Try.prog 12 #[.pointer (some ⟨p, 0, none⟩)] wx fun e w2 => e = .returned (.bool false) ∧ w2 = wx := CB
              refine CB2.mono ?_
              clear CB2
              rintro e wy ⟨rfl, hwy⟩
              rw [hwy]
              clear hwy CB
              go_wp2_with fail
              refine HGa.out.mono ?_
              clear HGa
              rintro e wz ⟨v', S', rfl, hmS, hcz, hpz, hfz⟩
              obtain ⟨az, cz, hvz, -⟩ := hcz.row.shape
              have hSW : S'.length = WN := by have e1 := congrArg List.length hmS; have e2 := congrArg List.length HX.out.2.1; rw [List.length_map] at e1 e2; rw [e1, ← e2]; exact HWN.out
              rw [hSW] at hvz
              subst hvz
              have HSm : Hid (Calls Try.prog 14 #[.slice az WN cz, .slice aw WN cw] wz fun e w' => e = .returned (.bool true) ∧ Below wz.heap.size wz w') := by
                obtain ⟨r1, r2⟩ := HX.out.1.after HX.out.2.2.2.1.row HX.out.2.2.2.1.mem hfz
                rw [HWN.out] at r1
                exact lsame_any (p + 1) wr.heap.size az aw cz cw WN S' W wz hcz.row r1 hSW (by obtain ⟨hs1, hs2⟩ := ofAll_small A; rw [HX.out.2.2.2.2.2.2.2, ← hmS, List.length_map] at hs1; have := HB.out.2.2.1; omega) (hmS.trans HX.out.2.1.symm) (fun x hx => (hcz.mem.1 x hx).1.row rfl) r2
              have HFin : Hid (∀ w', Below wz.heap.size wz w' → ChAt w p (k + 1) true (.slice a4 n4 c4) (.slice az WN cz) w') := fun w' hw => ⟨A, S', O, _, _, _, _, hcz.old hw, by rw [hmS]; exact HX.out.2.2.2.2.2.1 w' ((hw.block p hcz.pl).trans (hpz.trans HX.out.2.2.2.2.2.2.1)), HB.out.2.1, HB.out.2.2.1⟩
              clear hmS hcz hpz hfz hSW
              go_wp2_with fail
              refine HSm.out.mono ?_
              clear HSm
              rintro e w0 ⟨rfl, hb0⟩
              have HFF : Hid _ := HFin.out w0 hb0
              clear hb0 HFin
              go_wp2
              go_roundw
              case rel => exact ⟨k + 1, by omega, by go_num, true, rfl, _, _, _, _, _, _, rfl, rfl, HFF.out⟩
              case measure => simp [intOf]; omega
    · obtain rfl : k = len := by omega
      have HP : Hid (Below w.heap.size w wr) := by obtain ⟨A, S, O, vo, ga, go, BT, hch, _⟩ := HR.out; exact hch.be
      clear HR
      go_wp2
      go_ret
      exact ⟨rfl, HP.out⟩
end Go.Proofs.Ytoofpkcgiodfcaa
