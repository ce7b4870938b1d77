/- Blocks: the law of what is packed and told again. -/
import Derived.Test.YtkfokfjmdkondaaBk10
namespace Go.Proofs.Ytkfokfjmdkondaa
open Go.RowKit
set_option maxHeartbeats 3200000 in
set_option maxRecDepth 100000 in
theorem bback_walk (a : Option Addr) (len cap : Nat) (sz : Int) (ma : Option Addr) (ml mc : Nat) (w : World) (h : BArg w a len cap ∧ cap ≤ 1048576) (hsz : (Lit.int .u8 sz).wf = true) (h2 : BArg w ma ml mc ∧ mc ≤ 1048576) :
    Calls Try.prog 5 #[.slice a len cap, .int .u8 sz, .slice ma ml mc] w fun e w' => e = .returned (.bool true) ∧ Below w.heap.size w w' := by
  obtain ⟨⟨zs, hby, hzl, hlc, _, hc0, hrow⟩, hcap⟩ := h
  obtain ⟨⟨ms, hmby, hmzl, hmlc, _, hmc0, hmrow⟩, hmcap⟩ := h2
  have hszb := bounds_u8 hsz
  obtain ⟨S, rfl⟩ : ∃ S : Nat, sz = S := ⟨sz.toNat, by omega⟩
  obtain ⟨N, hN⟩ : ∃ N : Nat, (1 : Int) + (S : Int) % 255 = N := ⟨1 + S % 255, by omega⟩
  have hN1 : 1 ≤ N ∧ N ≤ 255 := by omega
  have HA : Hid (Bytes zs ∧ zs.length = len ∧ (a = none → cap = 0) ∧ Row w a zs) := ⟨hby, hzl, hc0, hrow⟩
  have HM : Hid (Bytes ms ∧ ms.length = ml ∧ (ma = none → mc = 0) ∧ Row w ma ms) := ⟨hmby, hmzl, hmc0, hmrow⟩
  clear hby hzl hc0 hrow hmby hmzl hmc0 hmrow hsz
  go_enter Try.func5, Try.ntmps5
  go_wp2_with fail
  refine (bfixed_any _).mono ?_
  rintro e w1 ⟨rfl, hb1⟩
  have HB1 : Hid (Below w.heap.size w w1) := hb1
  have C1 := bpack_any zs a len cap N w1 hN1.1 hN1.2 HA.out.2.1 hlc (by omega) (HA.out.2.2.2.old hb1) HA.out.1 (by have := HA.out; omega)
  clear hb1
  go_wp2_with fail
  refine C1.mono ?_
  rintro e w2 ⟨v2, g2, rfl, hs2, hg2, hb2⟩
  have HB2 : Hid (Below w.heap.size w w2) := HB1.out.trans (hb2.mono HB1.out.size)
  obtain ⟨a2, c2, hv2, hl1, hl2, hl3⟩ := hs2.shape
  rw [vals_len] at hv2 hl1
  subst hv2
  obtain ⟨P, hP⟩ : ∃ P, bpk N zs ++ [0] = P := ⟨_, rfl⟩
  have hPl : P.length ≤ 2 * len + 1 := by
    rw [← hP, List.length_append, List.length_singleton]; have := bpk_len hN1.1 zs; have := HA.out; omega
  have HPP : Hid ((∀ i, i < P.length → (bgo bs0 (P.take i)).2.done = false) ∧ bgo bs0 P = (zs, ⟨0, true, P.length, []⟩) ∧ Bytes P) := by
    rw [← hP]
    refine ⟨fun i hi => bgo_ahead hN1.1 zs i hi, bgo_whole hN1.1 zs, ?_⟩
    have hb : ∀ (f : Nat) (l : List Int), Bytes l → Bytes (bpkF N f l) := by
      intro f
      induction f with
      | zero => intro l _; exact Bytes.nil
      | succ f ih =>
        intro l hl
        cases l with
        | nil => exact Bytes.nil
        | cons x xs =>
          intro z hz
          simp only [bpkF, List.mem_cons, List.mem_append] at hz
          rcases hz with rfl | hz | hz
          · omega
          · exact hl z (List.mem_of_mem_take hz)
          · exact ih _ (fun y hy => hl y (List.mem_of_mem_drop hy)) z hz
    intro z hz
    rcases List.mem_append.1 hz with hz | hz
    · exact hb _ zs HA.out.1 z hz
    · simp at hz; omega
  rw [hP] at hs2 hl1 ⊢
  obtain ⟨Z, hZ⟩ : ∃ Z, P.length = Z := ⟨_, rfl⟩
  have HZ : Hid (P.length = Z) := hZ
  rw [hZ] at hs2 hl1 hPl ⊢
  have HR2 : Hid (Row w2 a2 P ∧ (a2 = none → c2 = 0)) := ⟨hs2.row rfl, hl3⟩
  have hl2' : c2 ≤ 9223372036854775807 := hl2
  clear hs2 hg2 hb2 HB1 C1 hl2 hl3 hZ hP
  go_wp2_with fail
  refine (bnew_any w2).mono ?_
  rintro e w3 ⟨rfl, hr3, hb3⟩
  have HS : Hid (BbRel w2 w2.heap.size P 0 (.slice none 0 0) none none w3) := ⟨hr3, Nat.le_refl _, (by intro k hk; cases hk), Sl.nil _ _, (by intro k hk; cases hk), hb3⟩
  clear hr3 hb3
  go_wp2
  go_loopw [10, 11, 28] (fun tv _ v wr => ∃ (i : Nat) (tg gr : Option Nat), i ≤ Z ∧ v = .int .i64 i ∧ Hid (BbRel w2 w2.heap.size P i tv tg gr wr)) (fun _ _ v _ => Z - (intOf v).toNat)
  case atStart => exact ⟨0, none, none, by omega, rfl, HS.out⟩
  case round =>
    clear HS
    obtain ⟨i, tg, gr, hi, rfl, HR⟩ := hrel
    obtain ⟨at', ct, hv, hq1, hq2, hq3⟩ := HR.out.sl.shape
    rw [vals_len] at hv hq1
    rw [hv]
    have HSl : Hid (Sl wr 5 (.slice at' (bgo bs0 (P.take i)).1.length ct) tg (vals (bgo bs0 (P.take i)).1)) := by have := HR.out.sl; rw [hv] at this; exact this
    have htl : (bgo bs0 (P.take i)).1.length ≤ i := by have := bgo_told (P.take i) bs0; rw [List.length_take] at this; omega
    obtain ⟨TL, hTL⟩ : ∃ TL, (bgo bs0 (P.take i)).1.length = TL := ⟨_, rfl⟩
    have HTL : Hid ((bgo bs0 (P.take i)).1.length = TL) := hTL
    rw [hTL] at hq1 htl ⊢
    clear hv hq2 hq3 hTL
    by_cases hlt : i < Z
    · have HD : Hid (Calls Try.prog 12 #[.pointer (some ⟨w2.heap.size, 0, none⟩)] wr fun e w' => e = .returned (.bool false) ∧ w' = wr) := by
        have := bdone_any HR.out.rd
        rw [HPP.out.1 i (by rw [HZ.out]; exact hlt)] at this
        exact this
      obtain ⟨x, hx⟩ : ∃ x, P[i]? = some x := ⟨P[i]'(by have := HZ.out; omega), List.getElem?_eq_getElem _⟩
      have hys : P.take (i + 1) = P.take i ++ [x] := by rw [List.take_add_one, hx]; rfl
      have hne : P ≠ [] := by intro e; rw [e] at hx; simp at hx
      obtain ⟨b, off, rfl⟩ : ∃ b off, a2 = some ⟨b, off, none⟩ := by
        rcases HR2.out.1 with h | ⟨b, off, h, _⟩
        · exact absurd h hne
        · exact ⟨b, off, h⟩
      have hrowx : Row wr (some ⟨b, off + i, none⟩) [x] := by
        have := (HR2.out.1.old HR.out.be).cut i c2 (by have := HZ.out; omega) (by have := HZ.out; omega)
        rw [if_neg (by omega), Option.map_some, Addr.add_lit] at this
        have h1 := this.take 1
        rwa [show (P.drop i).take 1 = [x] by obtain ⟨hi, rfl⟩ := List.getElem?_eq_some_iff.1 hx; rw [List.drop_eq_getElem_cons hi]; rfl] at h1
      have hxb : 0 ≤ x ∧ x ≤ 255 := by have := HPP.out.2.2 x (List.mem_of_getElem? hx); omega
      have HPush : Hid (Calls Try.prog 9 #[.pointer (some ⟨w2.heap.size, 0, none⟩), .slice (some ⟨b, off + i, none⟩) 1 (c2 - i)] wr fun e w' => BpPost wr w2.heap.size gr (bgo bs0 (P.take i)).2 [x] e w') :=
        bpush_any w2.heap.size gr (bgo bs0 (P.take i)).2 [x] (some ⟨b, off + i, none⟩) 1 (c2 - i) wr HR.out.rd rfl (by omega) (by omega) (by intro h; cases h) hrowx (by intro z hz; simp at hz; omega)
          (bgo_left _ _ (fun z hz => HPP.out.2.2 z (List.mem_of_mem_take hz)) (by decide)) (by have := bgo_seen (P.take i) bs0; rw [List.length_take] at this; simp [bs0] at this ⊢; omega) (by have := bgo_rest (P.take i) bs0; rw [List.length_take] at this; simp [bs0] at this ⊢; omega)
      have HN : Hid (∀ g' wx v7 g7 w7, BR wx w2.heap.size (bgo (bgo bs0 (P.take i)).2 [x]).2 g' → (g' = gr ∨ ∃ k, g' = some k ∧ wr.heap.size ≤ k) → Fr wr wx w2.heap.size gr → Sl w7 5 v7 g7 (vals ((bgo bs0 (P.take i)).1 ++ (bgo (bgo bs0 (P.take i)).2 [x]).1)) → (g7 = tg ∨ ∃ k, g7 = some k ∧ wx.heap.size ≤ k) → wx.grownBy w7 tg → BbRel w2 w2.heap.size P (i + 1) v7 g7 g' w7) :=
        fun g' wx v7 g7 w7 h1 h2 h3 h4 h5 h6 => HR.out.next (ys := [x]) hys h1 h2 h3 h4 h5 h6
      have HT1 : Hid ((bgo (bgo bs0 (P.take i)).2 [x]).1.length ≤ 1) := by have := bgo_told [x] (bgo bs0 (P.take i)).2; exact this
      have HKe : Hid (∀ wx, Fr wr wx w2.heap.size gr → Sl wx 5 (.slice at' TL ct) tg (vals (bgo bs0 (P.take i)).1)) := by
        intro wx hf
        have := HSl.out
        rw [HTL.out] at this
        refine this.same fun k hk => hf.block k (this.lt hk) ?_ (fun e => (HR.out.tgn k hk).2 e.symm)
        rintro rfl
        obtain ⟨v, hc, _⟩ := HR.out.rd
        exact hc.ne HR.out.sl (by decide) hk
      have hci : ¬ (c2 : Int) = i := by omega
      have hcl : (i : Int) + 1 ≤ (c2 : Int) := by omega
      have hil : (i : Int) + 1 ≤ (Z : Int) := by omega
      clear hrowx hys hx hne hxb
      go_wp2_with fail
      refine HD.out.mono ?_
      rintro e wz ⟨rfl, hwz⟩
      rw [hwz]
      clear hwz HD
      go_wp2_with fail
      refine HPush.out.mono ?_
      rintro e wx ⟨tx, gx, g', rfl, hsx, hgx, hrx, hgg, hfx⟩
      obtain ⟨ax, cx, hvx, _, _, hx3⟩ := hsx.shape
      rw [vals_len] at hvx
      subst hvx
      have HX : Hid (Row wx ax (bgo (bgo bs0 (P.take i)).2 [x]).1 ∧ (ax = none → cx = 0) ∧ Sl wx 5 (.slice at' TL ct) tg (vals (bgo bs0 (P.take i)).1)) := ⟨hsx.row rfl, hx3, HKe.out wx hfx⟩
      have HN2 : Hid (∀ v7 g7 w7, Sl w7 5 v7 g7 (vals ((bgo bs0 (P.take i)).1 ++ (bgo (bgo bs0 (P.take i)).2 [x]).1)) → (g7 = tg ∨ ∃ k, g7 = some k ∧ wx.heap.size ≤ k) → wx.grownBy w7 tg → BbRel w2 w2.heap.size P (i + 1) v7 g7 g' w7) := fun v7 g7 w7 h1 h2 h3 => HN.out g' wx v7 g7 w7 hrx hgg hfx h1 h2 h3
      clear hsx hgx hrx hgg hfx hx3 HN HPush HKe
      obtain ⟨XL, hXL⟩ : ∃ XL, (bgo (bgo bs0 (P.take i)).2 [x]).1.length = XL := ⟨_, rfl⟩
      have HXL : Hid ((bgo (bgo bs0 (P.take i)).2 [x]).1.length = XL) := hXL
      rw [hXL]
      clear hXL
      go_wp2_with (at_builtin; refine wpList_more rfl _ _ rfl (.slice at' TL ct) tg (bgo bs0 (P.take i)).1 rfl HX.out.2.2 ax XL cx (bgo (bgo bs0 (P.take i)).2 [x]).1 rfl HX.out.2.1 HXL.out HX.out.1 (by have := HT1.out; have := HXL.out; have := HTL.out; omega) ?_; intro v8 w8 g8 hs8 hg8 hgr8; obtain ⟨a8, c8, hv8, -⟩ := hs8.shape; generalize (vals ((bgo bs0 (P.take i)).1 ++ (bgo (bgo bs0 (P.take i)).2 [x]).1)).length = z8 at hv8; subst hv8; have HN3 : Hid (BbRel w2 w2.heap.size P (i + 1) (.slice a8 z8 c8) g8 g' w8) := HN2.out _ g8 w8 hs8 hg8 hgr8; clear hs8 hg8 hgr8)
      go_roundw
      case rel => exact ⟨i + 1, g8, g', by omega, rfl, HN3.out⟩
      case measure => simp [intOf]; omega
    · obtain rfl : i = Z := by omega
      have hPt : P.take i = P := List.take_of_length_le (by have := HZ.out; omega)
      have hrd := HR.out.rd
      rw [hPt, HPP.out.2.1, HZ.out] at hrd
      have hslz := HSl.out
      rw [hPt, HPP.out.2.1] at hslz
      have hTLe : TL = len := by have h1 := HTL.out; rw [hPt, HPP.out.2.1] at h1; have h2 : zs.length = TL := h1; have := HA.out; omega
      subst hTLe
      have hbw : Below w.heap.size w wr := HB2.out.trans (HR.out.be.mono HB2.out.size)
      have HE : Hid (BR wr w2.heap.size ⟨0, true, i, []⟩ gr ∧ Row wr at' zs ∧ Row wr a zs ∧ Row wr ma ms ∧ Below w.heap.size w wr) := ⟨hrd, hslz.row rfl, HA.out.2.2.2.old hbw, HM.out.2.2.2.old hbw, hbw⟩
      have HGr : Hid ((∀ k, gr = some k → w.heap.size ≤ k) ∧ w.heap.size ≤ w2.heap.size) := ⟨fun k hk => by have := HR.out.grn k hk; have := HB2.out.size; omega, HB2.out.size⟩
      clear hPt hrd hslz hbw HSl HTL HR HPP HB2 HR2
      have C2 := bdone_any HE.out.1
      have C3 := bseen_any HE.out.1
      have C4 := same_any at' a TL ct cap zs wr HA.out.2.1 HE.out.2.1 HE.out.2.2.1
      have C5 := bpush_any w2.heap.size gr ⟨0, true, i, []⟩ ms ma ml mc wr HE.out.1 HM.out.2.1 hmlc (by omega) HM.out.2.2.1 HE.out.2.2.2.1 HM.out.1 (by show 0 ≤ 255; omega) (by show i + ms.length ≤ _; have := HM.out; omega) (by show 0 + ms.length ≤ _; have := HM.out; omega)
      have hbd : bgo ⟨0, true, i, []⟩ ms = ([], ⟨0, true, i, ms⟩) := by rw [bgo_done rfl]; simp
      unfold BpPost at C5
      rw [hbd] at C5
      clear hbd
      go_wp2_with fail
      refine C2.mono ?_
      rintro e wz ⟨rfl, hwz⟩
      rw [hwz]
      clear hwz C2
      go_wp2_with fail
      refine C3.mono ?_
      rintro e wz ⟨rfl, hwz⟩
      rw [hwz]
      clear hwz C3
      go_wp2_with fail
      refine C4.mono ?_
      rintro e wz ⟨rfl, hwz⟩
      rw [hwz]
      clear hwz C4
      go_wp2_with fail
      refine C5.mono ?_
      rintro e wx ⟨tx, gx, g', rfl, hsx, hgx, hrx, hgg, hfx⟩
      obtain ⟨ax, cx, hvx, _, _, hx3⟩ := hsx.shape
      rw [vals_len] at hvx
      subst hvx
      have hbx : Below w.heap.size w wx := Fr.below HE.out.2.2.2.2 hfx HGr.out.2 HGr.out.1 HE.out.2.2.2.2.size
      have HX : Hid (Below w.heap.size w wx ∧ Row wx ma ms) := ⟨hbx, HM.out.2.2.2.old hbx⟩
      have C6 := bseen_any hrx
      have C7 := brest_any hrx (by show ms.length ≤ _; have := HM.out; omega)
      clear hsx hgx hrx hgg hfx hx3 C5 HE hbx
      go_wp2_with fail
      refine C6.mono ?_
      rintro e wz ⟨rfl, hwz⟩
      rw [hwz]
      clear hwz C6
      go_wp2_with fail
      refine C7.mono ?_
      rintro e wq ⟨vq, gq, rfl, hsq, hgq, hbq⟩
      obtain ⟨aq, cq, hvq, _⟩ := hsq.shape
      rw [vals_len] at hvq
      subst hvq
      have C8 := same_any aq ma ml cq mc ms wq HM.out.2.1 (hsq.row rfl) (HX.out.2.old hbq)
      have HBq : Hid (Below w.heap.size w wq) := HX.out.1.trans (hbq.mono HX.out.1.size)
      have hml := HM.out.2.1
      simp only at C8 ⊢
      rw [hml]
      clear hsq hgq hbq C7 hml
      go_wp2_with fail
      refine C8.mono ?_
      rintro e wz ⟨rfl, hwz⟩
      rw [hwz]
      clear hwz C8
      go_wp2
      go_ret
      exact ⟨rfl, HBq.out⟩
end Go.Proofs.Ytkfokfjmdkondaa
