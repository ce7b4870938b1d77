/- Bytes pushed in pieces, whatever room the slice has (the same walk as in Kc, with another bound on the room). -/
import Derived.Test.YtomoolipegmlcaaDoorZr
namespace Go.Proofs.YtomoolipegmlcaaDoor
open Go.RowKit
/-- Between two rounds: t bytes are pushed. -/
def AlRelW (w : World) (bs : List Int) (lim d t : Nat) (b out : Value) (wr : World) : Prop :=
  ∃ ar cr g o r, t ≤ bs.length ∧ b = .slice ar (bs.length - t) cr ∧ bs.length - t ≤ cr ∧ cr ≤ 9223372036854775807 ∧ (ar = none → cr = 0) ∧ Row w ar (bs.drop t) ∧ Dec w.heap.size wr d lim (bitsL (bs.take t)) o r ∧ r.err = 0 ∧
    Sl wr 5 out g (vals r.out) ∧ (∀ k, g = some k → w.heap.size ≤ k ∧ k ≠ d ∧ o.g ≠ some k ∧ o.q ≠ some k) ∧ Below w.heap.size w wr
/-- A round: k bytes more were pushed, and what they tell was put behind. -/
theorem al_stepW {w wr w2 w3 : World} {bs : List Int} {lim d t k : Nat} {ar : Option Addr} {cr : Nat} {g : Option Nat} {o : Ow} {r : Og} {out v' : Value} {r' : Og} {o' : Ow} {g' : Option Nat}
    (hk : t + k ≤ bs.length) (hcr : bs.length - t ≤ cr) (hcr2 : cr ≤ 9223372036854775807) (har : ar = none → cr = 0) (hrow : Row w ar (bs.drop t)) (hdec : Dec w.heap.size wr d lim (bitsL (bs.take t)) o r) (hg : ∀ k, g = some k → w.heap.size ≤ k ∧ k ≠ d ∧ o.g ≠ some k ∧ o.q ≠ some k) (hbel : Below w.heap.size w wr)
    (hsl : Sl wr 5 out g (vals r.out))
    (hd' : Dec w.heap.size w2 d lim (bitsL (bs.take t) ++ bitsL ((bs.drop t).take k)) o' r') (hpre : r.out <+: r'.out) (hst : Step wr w2 d o o')
    (hs3 : Sl w3 5 v' g' (vals (r.out ++ r'.out.drop r.out.length))) (hg3 : g' = g ∨ ∃ k, g' = some k ∧ w2.heap.size ≤ k) (hgr : w2.grownBy w3 g) :
    Dec w.heap.size w3 d lim (bitsL (bs.take (t + k))) o' r' ∧ Sl w3 5 v' g' (vals r'.out) ∧ (∀ k, g' = some k → w.heap.size ≤ k ∧ k ≠ d ∧ o'.g ≠ some k ∧ o'.q ≠ some k) ∧ Below w.heap.size w w3 ∧
    (r'.err = 0 → AlRelW w bs lim d (t + k) (.slice (if cr = k then ar else Option.map (fun x => x.add k) ar) (bs.length - t - k) (cr - k)) v' w3) := by
  have hb2 : Below w.heap.size w w2 := hbel.trans (hst.below hdec.fr hbel.size)
  obtain ⟨bd, bg, bq⟩ := hdec.blocks
  obtain ⟨bd', bg', bq'⟩ := hd'.blocks
  have hgl : ∀ k, g = some k → k < wr.heap.size := fun k hk => hsl.lt hk
  have hg2 : ∀ k, g = some k → w.heap.size ≤ k ∧ k ≠ d ∧ o'.g ≠ some k ∧ o'.q ≠ some k := by
    intro k hk
    obtain ⟨h1, h2, h3, h4⟩ := hg k hk
    refine ⟨h1, h2, fun e => ?_, fun e => ?_⟩
    · rcases hst.g k e with e2 | e2
      · exact h3 e2
      · have := hgl k hk; omega
    · rcases hst.q k e with e2 | e2
      · exact h4 e2
      · have := hgl k hk; omega
  have hw2l := hst.size
  have tag2 : ∀ k, g = some k → ∃ cur, w2.heap[k]? = some (.cells cur 5 (0, 0)) := by
    intro k hk
    obtain ⟨c, e⟩ := hsl.tag k hk
    obtain ⟨h1, h2, h3, h4⟩ := hg k hk
    refine ⟨c, (hst.block k (hgl k hk) h2 (fun e => h3 e.symm) (fun e => h4 e.symm) (fun e => by rw [hdec.t] at e; cases e)).trans e⟩
  have hdec3 : Dec w.heap.size w3 d lim (bitsL (bs.take t) ++ bitsL ((bs.drop t).take k)) o' r' := by
    refine hd'.keep ⟨hgr.size, fun k hk => ?_⟩ (hgr.block d bd' (fun e => (hg2 d e.symm).2.1 rfl)) (fun k hk => hgr.block k (bg' k hk) (fun e => (hg2 k e.symm).2.2.1 hk)) (fun k hk => hgr.block k (bq' k hk) (fun e => (hg2 k e.symm).2.2.2 hk))
    by_cases e : some k = g
    · obtain ⟨c, e2⟩ := tag2 k e.symm
      exact .inr ⟨_, _, e2, .inr (.inl rfl)⟩
    · exact .inl (hgr.block k hk e)
  rw [← bitsL_append, ← List.take_add] at hdec3
  have hs3' : Sl w3 5 v' g' (vals r'.out) := by
    obtain ⟨x, hx⟩ := hpre
    rw [← hx, List.drop_left, hx] at hs3
    exact hs3
  have hg' : ∀ k, g' = some k → w.heap.size ≤ k ∧ k ≠ d ∧ o'.g ≠ some k ∧ o'.q ≠ some k := by
    intro k hk
    rcases hg3 with e | ⟨k', e, hk'⟩
    · exact hg2 k (e ▸ hk)
    · rw [e] at hk
      cases hk
      exact ⟨by have := hb2.size; omega, by omega, (fun e => by have := bg' _ e; omega), (fun e => by have := bq' _ e; omega)⟩
  have hb3 : Below w.heap.size w w3 := by
    refine hb2.trans ⟨hgr.os, hgr.tape, hgr.output, hgr.size, fun k hk => hgr.block k (by have := hb2.size; omega) (fun e => ?_)⟩
    have := (hg k e.symm).1; omega
  refine ⟨hdec3, hs3', hg', hb3, fun he => ⟨_, cr - k, g', o', r', hk, by rw [show bs.length - (t + k) = bs.length - t - k by omega], by omega, by omega, ?_, ?_, hdec3, he, hs3', hg', hb3⟩⟩
  · intro e
    by_cases hc : cr = k
    · omega
    · rw [if_neg hc] at e
      cases ar with
      | none => have := har rfl; omega
      | some y => simp at e
  · have := hrow.cut k cr (by rw [List.length_drop]; omega) (by rw [List.length_drop]; exact hcr)
    rw [List.drop_drop] at this
    exact this
set_option maxHeartbeats 3200000 in
set_option maxRecDepth 20000 in
theorem all_posW (a : Option Addr) (cap : Nat) (bs : List Int) (N : Nat) (lim : Nat) (w : World) (hrow : Row w a bs) (hby : Bytes bs) (hc : bs.length ≤ cap) (hcap : cap ≤ 9223372036854775807) (hnone : a = none → cap = 0) (hlen : bs.length ≤ 20000) (hlim : lim ≤ 1000000) (hN1 : 1 ≤ N) (hN : N ≤ 100) (hord : Ord w) :
    Calls Tryd.prog 19 #[.slice a bs.length cap, .int .i64 N, .int .i64 lim] w fun e w' => AlPost w bs lim e w' := by
  have HO : Hid (Ord w) := hord
  have HB : Hid (Bytes bs) := hby
  have HR : Hid (Row w a bs) := hrow
  have HN : Hid (a = none → cap = 0) := hnone
  clear hord hby hrow hnone
  go_enter Tryd.func19, Tryd.ntmps19
  go_wp2_with fail
  refine (new_any lim w (by omega)).mono ?_
  rintro e w1 ⟨rfl, hd, hb1⟩
  rw [Int.toNat_natCast] at hd
  have HA : Hid (AlRelW w bs lim w.heap.size 0 (.slice a bs.length cap) (.slice none 0 0) w1) := ⟨a, cap, none, o0, _, Nat.zero_le _, rfl, hc, hcap, HN.out, HR.out, hd, rfl, Sl.nil _ _, (fun k hk => by cases hk), hb1⟩
  clear hd hb1
  obtain ⟨D, hD⟩ : ∃ D, w.heap.size = D := ⟨_, rfl⟩
  rw [hD] at HA ⊢
  clear hD
  go_wp2
  go_loopg [0, 10, 11, 12, 13] bs.length (fun fu b out _ _ _ wr => ∃ t : Nat, t + fu = bs.length ∧ (1 ≤ fu ∨ t = 0) ∧ Hid (AlRelW w bs lim D t b out wr))
  case atStart => exact ⟨0, by omega, .inr rfl, HA.out⟩
  case round =>
    clear HA
    obtain ⟨t, ht, ht0, HX⟩ := hrel
    obtain ⟨ar, cr, g, o, r, htl, rfl, hcr, hcr2, har, hrow, hdec, herr, hsl, hg, hbel⟩ := HX.out
    obtain ⟨M, hM⟩ : ∃ M, bs.length - t = M := ⟨_, rfl⟩
    have HM : Hid (bs.length - t = M) := hM
    have HX2 : Hid (t ≤ bs.length ∧ bs.length - t ≤ cr ∧ cr ≤ 9223372036854775807 ∧ (ar = none → cr = 0) ∧ Row w ar (bs.drop t) ∧ Dec w.heap.size wr D lim (bitsL (bs.take t)) o r ∧ Sl wr 5 u10 g (vals r.out) ∧ (∀ k, g = some k → w.heap.size ≤ k ∧ k ≠ D ∧ o.g ≠ some k ∧ o.q ≠ some k) ∧ Below w.heap.size w wr) := ⟨htl, hcr, hcr2, har, hrow, hdec, hsl, hg, hbel⟩
    have HPU : Hid (∀ k, t + k ≤ bs.length → Calls Tryd.prog 11 #[.pointer (some ⟨D, 0, none⟩), .slice ar k cr] wr fun e w' => PsPost w.heap.size wr D lim (bitsL (bs.take t) ++ bitsL ((bs.drop t).take k)) o r e w') := fun k hk =>
      push_any hdec ((bs.drop t).take k) ar k cr (by rw [List.length_take, List.length_drop]; omega) ((HB.out.drop t).take k) (fun e => by have := har e; omega) ((hrow.take k).old hbel) hbel.size HO.out.pos (HO.out.below hbel HO.out.pos) hlim (by rw [bitsL_len, List.length_take]; omega)
    obtain ⟨ao, co, hv, _⟩ := hsl.shape
    rw [vals_len] at hv
    have hrl := hdec.le
    have hMc : M ≤ cr := by omega
    rw [hv] at HX2 ⊢
    rw [hM]
    clear hM HX hrow hdec hsl hg hbel har htl herr hcr hv
    rcases (show (N : Int) < (M : Int) ∨ M < N ∨ N = M by omega) with hlt | hlt | hlt
    · go_wp2_with fail
      refine (HPU.out N (by have := HM.out; omega)).mono ?_
      rintro e w2 ⟨r', o', tv, tg, rfl, hd2, hpre, hsl2, hfr2, hst2⟩
      obtain ⟨ax, cx, hv2, _, _, hx2⟩ := hsl2.shape
      rw [vals_len] at hv2
      subst hv2
      have HS2 : Hid (Dec w.heap.size w2 D lim (bitsL (bs.take t) ++ bitsL ((bs.drop t).take N)) o' r' ∧ r.out <+: r'.out ∧ Step wr w2 D o o' ∧ Row w2 ax (r'.out.drop r.out.length) ∧ (ax = none → cx = 0) ∧ Sl w2 5 (.slice ao r.out.length co) g (vals r.out)) :=
        ⟨hd2, hpre, hst2, hsl2.row rfl, hx2, (HX2.out.2.2.2.2.2.2.1).same fun k hk => hst2.block k ((HX2.out.2.2.2.2.2.2.1).lt hk) (HX2.out.2.2.2.2.2.2.2.1 k hk).2.1 (fun e => (HX2.out.2.2.2.2.2.2.2.1 k hk).2.2.1 e.symm) (fun e => (HX2.out.2.2.2.2.2.2.2.1 k hk).2.2.2 e.symm) (fun e => by rw [HX2.out.2.2.2.2.2.1.t] at e; cases e)⟩
      have hlo := hd2.le
      have HLN : Hid ((r'.out.drop r.out.length).length = r'.out.length - r.out.length) := List.length_drop
      rw [HLN.out]
      have herr' := err_cases r'
      obtain ⟨ER, hER⟩ : ∃ ER, r'.err = ER := ⟨_, rfl⟩
      have HER : Hid (r'.err = ER) := hER
      rw [hER] at herr' ⊢
      obtain ⟨Q, hQ⟩ : ∃ Q, r'.out.length - r.out.length = Q := ⟨_, rfl⟩
      have HQ : Hid (r'.out.length - r.out.length = Q) := hQ
      rw [hQ]
      have hQl : Q ≤ 1000000 := by omega
      obtain ⟨P, hP⟩ : ∃ P, r.out.length = P := ⟨_, rfl⟩
      have HPP : Hid (r.out.length = P) := hP
      rw [hP]
      rw [hP] at hrl
      have HSL : Hid (Sl w2 5 (.slice ao P co) g (vals r.out)) := by have := HS2.out.2.2.2.2.2; rw [hP] at this; exact this
      have hNM : N ≤ M := by omega
      clear hd2 hpre hsl2 hfr2 hst2 hx2 HPU hlo hER hQ hP
      go_wp2
      go_region_law (first
        | (refine step_more rfl _ _ rfl (.slice ao P co) g r.out rfl (HSL.out.same fun _ _ => rfl) ax Q cx (r'.out.drop r.out.length) rfl HS2.out.2.2.2.2.1 (HLN.out.trans HQ.out) (HS2.out.2.2.2.1.same fun _ _ _ => rfl) (by rw [HPP.out]; omega) ?_; intro v7 w7 g7 hs7 hg7 hgr7; obtain ⟨a7, c7, hv7, -⟩ := hs7.shape; generalize (vals (r.out ++ r'.out.drop r.out.length)).length = z7 at hv7; subst hv7)
        | fail)
      all_goals
        have HF : Hid (_) := al_stepW (k := N) (by have := HM.out; omega) HX2.out.2.1 HX2.out.2.2.1 HX2.out.2.2.2.1 HX2.out.2.2.2.2.1 HX2.out.2.2.2.2.2.1 HX2.out.2.2.2.2.2.2.2.1 HX2.out.2.2.2.2.2.2.2.2 HX2.out.2.2.2.2.2.2.1 HS2.out.1 HS2.out.2.1 HS2.out.2.2.1 hs7 hg7 (w2 := w2) ⟨hgr7.os, hgr7.tape, hgr7.output, hgr7.size, hgr7.block⟩
        clear hs7 hg7 hgr7 HS2 HX2 HSL
        rcases herr' with he | ⟨he, hen⟩
        · rw [he]
          go_wp2
          go_roundg (bs.length - (t + N))
          case rel =>
            refine ⟨t + N, by have := HM.out; omega, .inl (by have := HM.out; omega), ?_⟩
            have := HF.out.2.2.2.2 (HER.out.trans he)
            rw [if_neg (by omega), HM.out] at this
            exact this
          case measure => have := HM.out; omega
        · have HFF : Hid (AlPost w bs lim (.returned (.tuple #[.slice a7 z7 c7, .int .i64 ER, .pointer (some ⟨D, 0, none⟩)])) w7) := by
            have := al_fin HF.out.1 HF.out.2.1 HF.out.2.2.1 HF.out.2.2.2.1 (.inl (by rw [HER.out]; simpa using he))
            rw [HER.out] at this
            exact this
          clear HF
          go_wp2
          go_ret3
          exact HFF.out
    · have hgt : (M : Int) < (N : Int) := by omega
      go_wp2_with fail
      refine (HPU.out M (by have := HM.out; omega)).mono ?_
      rintro e w2 ⟨r', o', tv, tg, rfl, hd2, hpre, hsl2, hfr2, hst2⟩
      obtain ⟨ax, cx, hv2, _, _, hx2⟩ := hsl2.shape
      rw [vals_len] at hv2
      subst hv2
      have HS2 : Hid (Dec w.heap.size w2 D lim (bitsL (bs.take t) ++ bitsL ((bs.drop t).take M)) o' r' ∧ r.out <+: r'.out ∧ Step wr w2 D o o' ∧ Row w2 ax (r'.out.drop r.out.length) ∧ (ax = none → cx = 0) ∧ Sl w2 5 (.slice ao r.out.length co) g (vals r.out)) :=
        ⟨hd2, hpre, hst2, hsl2.row rfl, hx2, (HX2.out.2.2.2.2.2.2.1).same fun k hk => hst2.block k ((HX2.out.2.2.2.2.2.2.1).lt hk) (HX2.out.2.2.2.2.2.2.2.1 k hk).2.1 (fun e => (HX2.out.2.2.2.2.2.2.2.1 k hk).2.2.1 e.symm) (fun e => (HX2.out.2.2.2.2.2.2.2.1 k hk).2.2.2 e.symm) (fun e => by rw [HX2.out.2.2.2.2.2.1.t] at e; cases e)⟩
      have hlo := hd2.le
      have HLN : Hid ((r'.out.drop r.out.length).length = r'.out.length - r.out.length) := List.length_drop
      rw [HLN.out]
      have herr' := err_cases r'
      obtain ⟨ER, hER⟩ : ∃ ER, r'.err = ER := ⟨_, rfl⟩
      have HER : Hid (r'.err = ER) := hER
      rw [hER] at herr' ⊢
      obtain ⟨Q, hQ⟩ : ∃ Q, r'.out.length - r.out.length = Q := ⟨_, rfl⟩
      have HQ : Hid (r'.out.length - r.out.length = Q) := hQ
      rw [hQ]
      have hQl : Q ≤ 1000000 := by omega
      obtain ⟨P, hP⟩ : ∃ P, r.out.length = P := ⟨_, rfl⟩
      have HPP : Hid (r.out.length = P) := hP
      rw [hP]
      rw [hP] at hrl
      have HSL : Hid (Sl w2 5 (.slice ao P co) g (vals r.out)) := by have := HS2.out.2.2.2.2.2; rw [hP] at this; exact this
      have hNM : M ≤ M := Nat.le_refl _
      clear hd2 hpre hsl2 hfr2 hst2 hx2 HPU hlo hER hQ hP
      go_wp2
      go_region_law (first
        | (refine step_more rfl _ _ rfl (.slice ao P co) g r.out rfl (HSL.out.same fun _ _ => rfl) ax Q cx (r'.out.drop r.out.length) rfl HS2.out.2.2.2.2.1 (HLN.out.trans HQ.out) (HS2.out.2.2.2.1.same fun _ _ _ => rfl) (by rw [HPP.out]; omega) ?_; intro v7 w7 g7 hs7 hg7 hgr7; obtain ⟨a7, c7, hv7, -⟩ := hs7.shape; generalize (vals (r.out ++ r'.out.drop r.out.length)).length = z7 at hv7; subst hv7)
        | fail)
      all_goals
        have HF : Hid (_) := al_stepW (k := M) (by have := HM.out; omega) HX2.out.2.1 HX2.out.2.2.1 HX2.out.2.2.2.1 HX2.out.2.2.2.2.1 HX2.out.2.2.2.2.2.1 HX2.out.2.2.2.2.2.2.2.1 HX2.out.2.2.2.2.2.2.2.2 HX2.out.2.2.2.2.2.2.1 HS2.out.1 HS2.out.2.1 HS2.out.2.2.1 hs7 hg7 (w2 := w2) ⟨hgr7.os, hgr7.tape, hgr7.output, hgr7.size, hgr7.block⟩
        clear hs7 hg7 hgr7 HS2 HX2 HSL
        have HFF : Hid (AlPost w bs lim (.returned (.tuple #[.slice a7 z7 c7, .int .i64 ER, .pointer (some ⟨D, 0, none⟩)])) w7) := by
          have := al_fin HF.out.1 HF.out.2.1 HF.out.2.2.1 HF.out.2.2.2.1 (.inr (by have := HM.out; omega))
          rw [HER.out] at this
          exact this
        clear HF
        rcases herr' with he | ⟨he, hen⟩
        · have HF0 : Hid (AlPost w bs lim (.returned (.tuple #[.slice a7 z7 c7, .int .i64 0, .pointer (some ⟨D, 0, none⟩)])) w7) := by
            have := HFF.out
            rw [he] at this
            exact this
          rw [he]
          clear HFF
          go_wp2
          all_goals
            go_ret3
            exact HF0.out
        · go_wp2
          all_goals
            go_ret3
            exact HFF.out
    · obtain rfl : N = M := by omega
      go_wp2_with fail
      refine (HPU.out N (by have := HM.out; omega)).mono ?_
      rintro e w2 ⟨r', o', tv, tg, rfl, hd2, hpre, hsl2, hfr2, hst2⟩
      obtain ⟨ax, cx, hv2, _, _, hx2⟩ := hsl2.shape
      rw [vals_len] at hv2
      subst hv2
      have HS2 : Hid (Dec w.heap.size w2 D lim (bitsL (bs.take t) ++ bitsL ((bs.drop t).take N)) o' r' ∧ r.out <+: r'.out ∧ Step wr w2 D o o' ∧ Row w2 ax (r'.out.drop r.out.length) ∧ (ax = none → cx = 0) ∧ Sl w2 5 (.slice ao r.out.length co) g (vals r.out)) :=
        ⟨hd2, hpre, hst2, hsl2.row rfl, hx2, (HX2.out.2.2.2.2.2.2.1).same fun k hk => hst2.block k ((HX2.out.2.2.2.2.2.2.1).lt hk) (HX2.out.2.2.2.2.2.2.2.1 k hk).2.1 (fun e => (HX2.out.2.2.2.2.2.2.2.1 k hk).2.2.1 e.symm) (fun e => (HX2.out.2.2.2.2.2.2.2.1 k hk).2.2.2 e.symm) (fun e => by rw [HX2.out.2.2.2.2.2.1.t] at e; cases e)⟩
      have hlo := hd2.le
      have HLN : Hid ((r'.out.drop r.out.length).length = r'.out.length - r.out.length) := List.length_drop
      rw [HLN.out]
      have herr' := err_cases r'
      obtain ⟨ER, hER⟩ : ∃ ER, r'.err = ER := ⟨_, rfl⟩
      have HER : Hid (r'.err = ER) := hER
      rw [hER] at herr' ⊢
      obtain ⟨Q, hQ⟩ : ∃ Q, r'.out.length - r.out.length = Q := ⟨_, rfl⟩
      have HQ : Hid (r'.out.length - r.out.length = Q) := hQ
      rw [hQ]
      have hQl : Q ≤ 1000000 := by omega
      obtain ⟨P, hP⟩ : ∃ P, r.out.length = P := ⟨_, rfl⟩
      have HPP : Hid (r.out.length = P) := hP
      rw [hP]
      rw [hP] at hrl
      have HSL : Hid (Sl w2 5 (.slice ao P co) g (vals r.out)) := by have := HS2.out.2.2.2.2.2; rw [hP] at this; exact this
      have hNM : N ≤ N := Nat.le_refl _
      clear hd2 hpre hsl2 hfr2 hst2 hx2 HPU hlo hER hQ hP
      go_wp2
      go_region_law (first
        | (refine step_more rfl _ _ rfl (.slice ao P co) g r.out rfl (HSL.out.same fun _ _ => rfl) ax Q cx (r'.out.drop r.out.length) rfl HS2.out.2.2.2.2.1 (HLN.out.trans HQ.out) (HS2.out.2.2.2.1.same fun _ _ _ => rfl) (by rw [HPP.out]; omega) ?_; intro v7 w7 g7 hs7 hg7 hgr7; obtain ⟨a7, c7, hv7, -⟩ := hs7.shape; generalize (vals (r.out ++ r'.out.drop r.out.length)).length = z7 at hv7; subst hv7)
        | fail)
      all_goals
        have HF : Hid (_) := al_stepW (k := N) (by have := HM.out; omega) HX2.out.2.1 HX2.out.2.2.1 HX2.out.2.2.2.1 HX2.out.2.2.2.2.1 HX2.out.2.2.2.2.2.1 HX2.out.2.2.2.2.2.2.2.1 HX2.out.2.2.2.2.2.2.2.2 HX2.out.2.2.2.2.2.2.1 HS2.out.1 HS2.out.2.1 HS2.out.2.2.1 hs7 hg7 (w2 := w2) ⟨hgr7.os, hgr7.tape, hgr7.output, hgr7.size, hgr7.block⟩
        clear hs7 hg7 hgr7 HS2 HX2 HSL
        have HFF : Hid (AlPost w bs lim (.returned (.tuple #[.slice a7 z7 c7, .int .i64 ER, .pointer (some ⟨D, 0, none⟩)])) w7) := by
          have := al_fin HF.out.1 HF.out.2.1 HF.out.2.2.1 HF.out.2.2.2.1 (.inr (by have := HM.out; omega))
          rw [HER.out] at this
          exact this
        clear HF
        rcases herr' with he | ⟨he, hen⟩
        · have HF0 : Hid (AlPost w bs lim (.returned (.tuple #[.slice a7 z7 c7, .int .i64 0, .pointer (some ⟨D, 0, none⟩)])) w7) := by
            have := HFF.out
            rw [he] at this
            exact this
          rw [he]
          clear HFF
          go_wp2
          all_goals
            go_ret3
            exact HF0.out
        · go_wp2
          all_goals
            go_ret3
            exact HFF.out
end Go.Proofs.YtomoolipegmlcaaDoor
