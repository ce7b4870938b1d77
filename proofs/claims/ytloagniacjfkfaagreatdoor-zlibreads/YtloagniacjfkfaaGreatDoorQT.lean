/- Joined: Yl Ym Yn. -/
import Derived.Test.YtloagniacjfkfaaGreatDoorQS
/- zlib's Push: a decoder in the foot. -/
namespace Go.Proofs.YtloagniacjfkfaaGreatDoor
open Go.RowKit
section
variable {base : Nat} {w : World} {d : Nat} {lim : Int} {bs : List Int} {z : Zo} {S : Nat → Prop}
theorem cut_none {av : Option Addr} {c K : Nat} (h : av = none → c = 0) : (if c = K then av else Option.map (fun x => x.add K) av) = none → c - K = 0 := by
  intro e
  by_cases hc : c = K
  · omega
  · rw [if_neg hc] at e
    cases av with
    | none => have := h rfl; omega
    | some y => cases e
theorem ZFrm.row {w w1 : World} {S : Nat → Prop} {av : Option Addr} {b : List Int} (h : ZFrm w w1 S) (hr : Row w av b) (hav : ∀ x, av = some x → b ≠ [] → ¬ S x.block) : Row w1 av b :=
  hr.same fun x hx hb => h.block x.block (hr.lt x hx hb) (hav x hx hb)
set_option maxHeartbeats 3200000 in
set_option maxRecDepth 20000 in
theorem zpush_foot (h : ZMem base w d lim bs z S) (hk : z.k = 2) (b : List Int) (av : Option Addr) (m c : Nat) (hm : b.length = m) (hmc : m ≤ c) (hcm : c ≤ 9223372036854775807) (hm47 : m ≤ 140737488351232) (hc0 : av = none → c = 0) (hrow : Row w av b) (hb2 : Bytes b) (hav : ∀ x, av = some x → b ≠ [] → ¬ S x.block) :
    Calls Tryz.prog 11 #[.pointer (some ⟨d, 0, none⟩), .slice av m c] w fun e w' => ZuPost base w d lim (bs ++ b) z S e w' := by
  obtain ⟨h1, h2, h3, h4, now, vp, vk, sum, vr, gr, c1, c2, c3, c4, c5, c6, c7, c8, c9⟩ := h
  obtain ⟨hh2, hhz⟩ := h3.head (.inr (.inl hk))
  obtain ⟨rfl, rfl, hsum, ps, gp, hf, hps, hsl, hgp⟩ := c6 hk
  obtain ⟨-, rfl⟩ := c8 (by omega)
  have hzz := h3.det ((ZSays.foot hh2 hhz hf).1 hps)
  obtain ⟨zk, out, zer, zr⟩ := z
  simp only [Zo.mk.injEq] at hzz
  obtain ⟨rfl, -, rfl, rfl⟩ := hzz
  simp only at hsum hf c1
  have hbp : Bytes ps := by obtain ⟨s, _, _, a, _⟩ := hf; exact a
  have hA := hf.more hh2 b hb2
  have hA2 : 2 ≤ (bs ++ b).length := by rw [List.length_append]; omega
  have hAz : zh (bs ++ b) = true := by rw [zh_more hh2]; exact hhz
  have hbd := adlM_bd 1 out
  have HF := zreadFoot_any ps b av m c hm hmc (Nat.le_trans hcm (by decide)) hc0 hrow hbp hb2 hps (by rw [hsum]; omega) hsl c1
  obtain ⟨k0, k1, k2, k3, k4, k5, k6, k7, fz⟩ := c1.cells
  have HC : Hid (ZFoot lim.toNat (bs ++ b) out (ps ++ b) ∧ 2 ≤ (bs ++ b).length ∧ zh (bs ++ b) = true ∧ sum = adlM 1 out ∧ S d ∧ (∀ k, S k → base ≤ k ∧ k < w.heap.size) ∧ (∀ k, gp = some k → S k) ∧ Row w av b ∧ (∀ x, av = some x → b ≠ [] → ¬ S x.block) ∧ (av = none → c = 0) ∧ b.length = m) := ⟨hA, hA2, hAz, hsum, h1, h2, hgp, hrow, hav, hc0, hm⟩
  clear c1 c2 c3 c4 c5 c6 c7 c8 c9 h1 h2 h3 h4 hh2 hhz hsum hf hsl hgp hA hA2 hAz hbd hrow hav hc0 hbp hk
  go_enter Tryz.func11, Tryz.ntmps11
  go_wp2_with fail
  refine HF.mono ?_
  rintro e w1 hp
  have HE := zfoot_end (base := base) (S1 := S) HC.out.2.2.2.2.1 HC.out.2.2.2.2.2.1 HC.out.2.2.2.2.2.2.1 HC.out.2.1 HC.out.2.2.1 HC.out.1 hps HC.out.2.2.2.1 hp
  have hX : ZFrm w w1 S := ⟨hp.1.os, hp.1.tape, hp.1.output, hp.1.size, fun k hk hn => hp.1.block k hk (fun e => hn (by rw [e]; exact HC.out.2.2.2.2.1)) (fun e => hn (HC.out.2.2.2.2.2.2.1 k e.symm))⟩
  clear HF k0 k1 k2 k3 k4 k5 k6 k7 fz
  by_cases hx : ps.length + b.length < 4
  · obtain ⟨rfl, q0, q1, S', hm', hS'⟩ := HE.1 hx
    have HP : Hid (∀ n, ZuPost base w d lim (bs ++ b) ⟨2, out, 0, []⟩ S (.returned (.tuple #[.slice none 0 0, .int .i64 0])) (w1.drewN n)) := fun n =>
      ⟨⟨2, out, 0, []⟩, S', _, none, rfl, hm'.heap rfl, List.prefix_refl _, by rw [List.drop_length]; exact Sl.nil _ _, (fun k hk => by cases hk), hS', hX.drew n⟩
    clear hp HE hX hm' hS' HC
    go_wp2
    go_region_held3 (fun u => u.cell? ⟨d, 1, none⟩ = some (.int .i64 0)) (go_keep) (fail)
    go_wp2
    go_ret2
    exact HP.out 1
  · have hx4 : 4 ≤ ps.length + b.length := by omega
    obtain ⟨K, hK⟩ : ∃ K, 4 - ps.length = K := ⟨_, rfl⟩
    obtain ⟨re, -, -⟩ := hp.2.2 hx4
    rw [hK, hm] at re
    obtain ⟨a2, ha2⟩ : ∃ a2, (if c = K then av else Option.map (fun x => x.add K) av) = a2 := ⟨_, rfl⟩
    have hr2 : Row w1 a2 (b.drop K) := by rw [← ha2]; exact (hX.row HC.out.2.2.2.2.2.2.2.1 HC.out.2.2.2.2.2.2.2.2.1).cut K c (by omega) (by rw [HC.out.2.2.2.2.2.2.2.2.2.2]; exact hmc)
    have hn2 : a2 = none → c - K = 0 := by rw [← ha2]; exact cut_none HC.out.2.2.2.2.2.2.2.2.2.1
    rw [ha2] at re
    subst re
    by_cases hs : bigN ((ps ++ b).take 4) = adlM 1 out
    · have hz3 := HE.2.2 hx4 hs
      obtain ⟨q0, q1, q2, q3, q4, q5, q6, q7, qf⟩ := hz3.cells
      have hdl : (b.drop K).length = m - K := by rw [List.length_drop, hm]
      have hd4 : (ps ++ b).drop 4 = b.drop K := by rw [List.drop_append, List.drop_of_length_le (by omega), List.nil_append, hK]
      have H1 : Hid (ZC w1 d 3 0 lim (.slice none 0 0) (.pointer none) sum out.length (.slice none 0 0) ∧ ZFrm w w1 S ∧ (ps ++ b).drop 4 = b.drop K ∧ bigN ((ps ++ b).take 4) = adlM 1 out) := ⟨hz3, hX, hd4, hs⟩
      have HR2 : Hid (Row w1 a2 (b.drop K) ∧ (a2 = none → c - K = 0) ∧ (b.drop K).length = m - K) := ⟨hr2, hn2, hdl⟩
      clear hp HE hX hz3 hr2 hn2 hdl hd4 hs ha2
      go_wp2_with (at_builtin; refine wpList_more rfl _ _ rfl (.slice none 0 0) none [] rfl (Sl.nil _ _) a2 (m - K) (c - K) (b.drop K) rfl HR2.out.2.1 HR2.out.2.2 HR2.out.1 (by simp only [List.length_nil]; omega) ?_)
      intro v5 w5 g5 hs5 hg5 hgr5
      obtain ⟨a5, c5, hv5, -⟩ := hs5.shape
      obtain ⟨z5, hz5⟩ : ∃ z, v5 = .slice a5 z c5 := ⟨_, hv5⟩
      clear hv5
      subst hz5
      have hz5 := H1.out.1.same (hgr5.block d H1.out.1.lt (by simp))
      obtain ⟨r0, r1, r2, r3, r4, r5, r6, r7, rf⟩ := hz5.cells
      have hz6 := hz5.set7 (.slice a5 z5 c5)
      have r1' := hz6.cells.2.1
      have HP : Hid (∀ n, ZuPost base w d lim (bs ++ b) ⟨2, out, 0, []⟩ S (.returned (.tuple #[.slice none 0 0, .int .i64 0])) ((w5.setCell ⟨d, 7, none⟩ (.slice a5 z5 c5)).drewN n)) := by
        intro n
        have hnew : ∀ k, g5 = some k → w.heap.size ≤ k := by
          intro k hk
          rcases hg5 with e | ⟨j, e, hj⟩
          · rw [e] at hk; cases hk
          · rw [e] at hk; cases hk; exact Nat.le_trans H1.out.2.1.size hj
        have hs6 : Sl (w5.setCell ⟨d, 7, none⟩ (.slice a5 z5 c5)) 5 (.slice a5 z5 c5) g5 (vals ((ps ++ b).drop 4)) := by rw [H1.out.2.2.1]; exact hs5.same fun k hk => Below.heap_setCell _ _ _ _ (hz5.ne hs5 (by decide) k hk)
        have hsz : w.heap.size ≤ (w5.setCell ⟨d, 7, none⟩ (.slice a5 z5 c5)).heap.size := by
          simp only [World.setCell, Array.size_modify]
          exact Nat.le_trans H1.out.2.1.size hgr5.size
        have hmm : ZMem base (w5.setCell ⟨d, 7, none⟩ (.slice a5 z5 c5)) d lim (bs ++ b) ⟨3, out, 0, (ps ++ b).drop 4⟩ (fun k => S k ∨ g5 = some k) := by
          refine ZMem.mk3 (.inl HC.out.2.2.2.2.1) ?_ HC.out.2.1 HC.out.2.2.1 HC.out.1 (by rw [List.length_append]; exact hx4) H1.out.2.2.2 hz6 hs6 (fun k hk => .inr hk)
          rintro k (hk | hk)
          · have := HC.out.2.2.2.2.2.1 k hk; exact ⟨this.1, by omega⟩
          · refine ⟨?_, hs6.lt hk⟩
            have := hnew k hk
            have := HC.out.2.2.2.2.2.1 d HC.out.2.2.2.2.1
            omega
        refine ⟨_, _, _, none, rfl, hmm.heap rfl, List.prefix_refl _, by rw [List.drop_length]; exact Sl.nil _ _, (fun k hk => by cases hk), ?_, ?_⟩
        · rintro k (hk | hk)
          · exact .inl hk
          · exact .inr (hnew k hk)
        · refine ⟨hgr5.os.trans H1.out.2.1.os, hgr5.tape.trans H1.out.2.1.tape, hgr5.output.trans H1.out.2.1.output, hsz, fun k hk hn => ?_⟩
          show (w5.setCell ⟨d, 7, none⟩ (.slice a5 z5 c5)).heap[k]? = _
          rw [Below.heap_setCell _ _ _ _ (fun e => hn (by rw [e]; exact HC.out.2.2.2.2.1))]
          exact (hgr5.block k (Nat.lt_of_lt_of_le hk H1.out.2.1.size) (by simp)).trans (H1.out.2.1.block k hk hn)
      clear hs5 hg5 hgr5 hz5 hz6 H1 HC HR2
      go_wp2
      go_region_held3 (fun u => u.cell? ⟨d, 1, none⟩ = some (.int .i64 0)) (first | go_keep | assumption) (fail)
      go_wp2
      go_ret2
      exact HP.out 1
    · obtain ⟨q0, q1, S', hm', hS'⟩ := HE.2.1 hx4 hs
      have HP : Hid (∀ n, ZuPost base w d lim (bs ++ b) ⟨2, out, 0, []⟩ S (.returned (.tuple #[.slice none 0 0, .int .i64 4])) (w1.drewN n)) := fun n =>
        ⟨⟨4, out, 4, []⟩, S', _, none, rfl, hm'.heap rfl, List.prefix_refl _, by rw [List.drop_length]; exact Sl.nil _ _, (fun k hk => by cases hk), hS', hX.drew n⟩
      clear hp HE hX hm' hS' HC hr2 hn2 ha2
      go_wp2
      go_region_held3 (fun u => u.cell? ⟨d, 1, none⟩ = some (.int .i64 4)) (go_keep) (fail)
      go_wp2
      go_ret2
      exact HP.out 1
end
end Go.Proofs.YtloagniacjfkfaaGreatDoor
/- zlib's Push: a decoder in the packed bytes. -/
namespace Go.Proofs.YtloagniacjfkfaaGreatDoor
open Go.RowKit
section
variable {base : Nat} {w : World} {d : Nat} {lim : Int} {bs : List Int} {z : Zo} {S : Nat → Prop}
theorem ZSays.pack {l : Nat} {A out : List Int} (h2 : 2 ≤ A.length) (hz : zh A = true) (hf : ZPack l A out) : ZSays l A ⟨1, out, 0, []⟩ :=
  ⟨(fun hx => by omega), (fun _ e => by rw [hz] at e; cases e), fun _ _ => .inl ⟨out, hf, rfl⟩⟩
theorem ZSays.bad {l : Nat} {A out : List Int} {er : Int} (h2 : 2 ≤ A.length) (hz : zh A = true) (hf : Runs l St.start (bitsL (A.drop 2)) (.fail er out)) : ZSays l A ⟨4, out, er, []⟩ :=
  ⟨(fun hx => by omega), (fun _ e => by rw [hz] at e; cases e), fun _ _ => .inr (.inl ⟨er, out, hf, rfl⟩)⟩
theorem ZMem.mk1 {w' : World} {A out : List Int} {sum : Int} {p : Nat} {o : Ow} {r : Og} {S' : Nat → Prop} (hd : S' d) (hS : ∀ k, S' k → base ≤ k ∧ k < w'.heap.size) (hsay : ZSays lim.toNat A ⟨1, out, 0, []⟩) (hc : ZC w' d 1 0 lim (.slice none 0 0) (.pointer (some ⟨p, 0, none⟩)) sum out.length (.slice none 0 0)) (hsum : sum = adlM 1 out) (hdec : Dec base w' p lim.toNat (bitsL (A.drop 2)) o r) (ho : r.out = out) (he : r.err = 0) (hn : r.ended = false) (hp : S' p) (hg : ∀ k, o.g = some k → S' k) (hq : ∀ k, o.q = some k → S' k) : ZMem base w' d lim A ⟨1, out, 0, []⟩ S' :=
  ⟨hd, hS, hsay, (by show 1 ≤ 4; decide), 1, .slice none 0 0, .pointer (some ⟨p, 0, none⟩), sum, .slice none 0 0, none, hc, Sl.nil _ _, (fun k hk => by cases hk), (fun e => by cases e), fun _ => ⟨rfl, rfl, hsum, p, o, r, rfl, hdec, ho, he, hn, hp, hg, hq⟩, (fun e => by cases e), (fun e => by cases e), (fun _ => ⟨by decide, rfl⟩), (fun e => by cases e), fun e => absurd rfl e⟩
/-- What a run of the packed bytes says of the whole. -/
theorem run_says {l : Nat} {A : List Int} {r : Og} (h2 : 2 ≤ A.length) (hz : zh A = true) (hr : Runs l St.start (bitsL (A.drop 2)) r) :
    (r.err ≠ 0 → ZSays l A ⟨4, r.out, r.err, []⟩) ∧ (r.ended = true → ∀ rs, r.rest rs → ZFoot l A r.out rs) := by
  cases r with
  | fail er out => exact ⟨fun _ => ZSays.bad h2 hz hr, (fun e => by cases e)⟩
  | stop s lv =>
    refine ⟨fun e => absurd rfl e, fun he rs hrs => ?_⟩
    have h11 : s.now = 11 := by simpa [Og.ended] using he
    have hrs : if s.now = 11 then Bytes rs ∧ lv = bitsL rs else rs = [] := hrs
    rw [if_pos h11] at hrs
    exact ⟨s, h11, rfl, hrs.1, by rw [← hrs.2]; exact hr⟩
theorem Dec.pack {l : Nat} {p : Nat} {L : List Int} {o : Ow} {r : Og} (hd : Dec base w p l L o r) (he : r.err = 0) (hn : r.ended = false) : ∃ (s : St) (lv : List Int), s.now ≤ 10 ∧ s.out = r.out ∧ Runs l St.start L (.stop s lv) := by
  cases r with
  | fail er out => exact absurd he hd.err_ne
  | stop s lv =>
    refine ⟨s, lv, ?_, rfl, hd.runs⟩
    obtain ⟨_, _, _, _, hi⟩ := hd.stand
    have h1 := hi.now
    have h2 : ¬ s.now = 11 := by simpa [Og.ended] using hn
    omega
set_option maxHeartbeats 6400000 in
set_option maxRecDepth 20000 in
theorem zpush_packed (h : ZMem base w d lim bs z S) (hk : z.k = 1) (b : List Int) (av : Option Addr) (m c : Nat) (hm : b.length = m) (hmc : m ≤ c) (hc0 : av = none → c = 0) (hrow : Row w av b) (hb2 : Bytes b) (hord : Ord w) (hbase : base ≤ w.heap.size) (hb1 : 3 ≤ base) (hlim : lim ≤ 1000000) (hlen : bs.length + m ≤ 1000000000000) :
    Calls Tryz.prog 11 #[.pointer (some ⟨d, 0, none⟩), .slice av m c] w fun e w' => ZuPost base w d lim (bs ++ b) z S e w' := by
  obtain ⟨h1, h2, h3, h4, now, vp, vk, sum, vr, gr, c1, c2, c3, c4, c5, c6, c7, c8, c9⟩ := h
  obtain ⟨hh2, hhz⟩ := h3.head (.inl hk)
  obtain ⟨rfl, rfl, hsum, p, o, r, rfl, hdec, hro, hre, hrn, hSp, hSg, hSq⟩ := c5 hk
  obtain ⟨-, rfl⟩ := c8 (by omega)
  have hzz := h3.det (ZSays.pack hh2 hhz (by obtain ⟨s, lv, q1, q2, q3⟩ := hdec.pack hre hrn; exact ⟨s, lv, q1, q2, q3⟩))
  obtain ⟨zk, out, zer, zr⟩ := z
  simp only [Zo.mk.injEq] at hzz
  obtain ⟨rfl, ho, rfl, rfl⟩ := hzz
  simp only at hsum hro c1
  clear ho
  have hA2 : 2 ≤ (bs ++ b).length := by rw [List.length_append]; omega
  have hAz : zh (bs ++ b) = true := by rw [zh_more hh2]; exact hhz
  have hAd : bitsL (bs.drop 2) ++ bitsL b = bitsL ((bs ++ b).drop 2) := by rw [List.drop_append_of_le_length hh2, bitsL_append]
  have hbd := adlM_bd 1 out
  have hol := hdec.le
  have HF := zreadPacked_any b av m c hm hb2 (fun e => by have := hc0 e; omega) hrow hbase hb1 hord hlim (by rw [bitsL_len, List.length_drop]; omega) (show U32 sum by unfold U32; rw [hsum]; omega) (by omega) hdec c1
  obtain ⟨k0, k1, k2, k3, k4, k5, k6, k7, fz⟩ := c1.cells
  have HC : Hid (2 ≤ (bs ++ b).length ∧ zh (bs ++ b) = true ∧ bitsL (bs.drop 2) ++ bitsL b = bitsL ((bs ++ b).drop 2) ∧ sum = adlM 1 out ∧ S d ∧ (∀ k, S k → base ≤ k ∧ k < w.heap.size) ∧ S p ∧ (∀ k, o.g = some k → S k) ∧ (∀ k, o.q = some k → S k) ∧ r.out = out) := ⟨hA2, hAz, hAd, hsum, h1, h2, hSp, hSg, hSq, hro⟩
  clear c1 c2 c3 c4 c5 c6 c7 c8 c9 h1 h2 h3 h4 hh2 hhz hsum hA2 hAz hAd hbd hrow hc0 hk hol hord hSp hSg hSq hro hre hrn hdec
  go_enter Tryz.func11, Tryz.ntmps11
  go_wp2_with fail
  refine HF.mono ?_
  rintro e w1 ⟨r', o', tv, tg, bv, rfl, hr, hpre, hsl, htg, hst, hc1, hc2, hc3⟩
  rw [HC.out.2.2.1] at hr
  have hsay := run_says HC.out.1 HC.out.2.1 hr
  have hpo : out <+: r'.out := by rw [← HC.out.2.2.2.2.2.2.2.2.2]; exact hpre
  have hTs : Sl w1 5 tv tg (vals (r'.out.drop out.length)) := by rw [← HC.out.2.2.2.2.2.2.2.2.2]; exact hsl
  have hsm : adlM sum (r'.out.drop r.out.length) = adlM 1 r'.out := by
    rw [HC.out.2.2.2.1, HC.out.2.2.2.2.2.2.2.2.2, ← adlM_append]
    obtain ⟨x, hx⟩ := hpo
    rw [← hx, List.drop_left]
  rw [hsm] at hc1 hc2 hc3
  obtain ⟨at', ct, htv, -⟩ := hTs.shape
  obtain ⟨Tl, hTl⟩ : ∃ Tl, tv = .slice at' Tl ct := ⟨_, htv⟩
  subst hTl
  have hX : ZFrm w w1 S := ⟨hst.os, hst.tape, hst.output, hst.size, fun k hk hn => hst.block k hk (fun e => hn (by rw [e]; exact HC.out.2.2.2.2.1)) (fun e => hn (by rw [e]; exact HC.out.2.2.2.2.2.2.1)) (fun e => hn (HC.out.2.2.2.2.2.2.2.1 k e.symm)) (fun e => hn (HC.out.2.2.2.2.2.2.2.2.1 k e.symm))⟩
  have hSw : ∀ k, S k → base ≤ k ∧ k < w1.heap.size := fun k hk => ⟨(HC.out.2.2.2.2.2.1 k hk).1, Nat.lt_of_lt_of_le (HC.out.2.2.2.2.2.1 k hk).2 hX.size⟩
  have HT : Hid (Sl w1 5 (.slice at' Tl ct) tg (vals (r'.out.drop out.length)) ∧ (∀ k, tg = some k → w.heap.size ≤ k) ∧ ZFrm w w1 S ∧ out <+: r'.out) := ⟨hTs, htg, hX, hpo⟩
  clear HF k0 k1 k2 k3 k4 k5 k6 k7 fz htv hpre hsl hsm
  by_cases hE : r'.err = 0
  · cases hen : r'.ended with
    | false =>
      obtain ⟨rfl, hz1, hd1, hg1, hq1⟩ := hc2 hE hen
      obtain ⟨q0, q1, q2, q3, q4, q5, q6, q7, qf⟩ := hz1.cells
      rw [HC.out.2.2.1] at hd1
      have hmm : ZMem base w1 d lim (bs ++ b) ⟨1, r'.out, 0, []⟩ (fun k => S k ∨ (w.heap.size ≤ k ∧ k < w1.heap.size)) := by
        obtain ⟨e1, e2, e3⟩ := hd1.blocks
        refine ZMem.mk1 (.inl HC.out.2.2.2.2.1) ?_ (ZSays.pack HC.out.1 HC.out.2.1 (hd1.pack hE hen)) hz1 rfl hd1 rfl hE hen (.inl HC.out.2.2.2.2.2.2.1) ?_ ?_
        · rintro k (hk | hk)
          · exact hSw k hk
          · exact ⟨by omega, hk.2⟩
        · intro k hk
          rcases hg1 k hk with e | e
          · exact .inl (HC.out.2.2.2.2.2.2.2.1 k e)
          · exact .inr ⟨e, e2 k hk⟩
        · intro k hk
          rcases hq1 k hk with e | e
          · exact .inl (HC.out.2.2.2.2.2.2.2.2.1 k e)
          · exact .inr ⟨e, e3 k hk⟩
      have HP : Hid (∀ n, ZuPost base w d lim (bs ++ b) ⟨1, out, 0, []⟩ S (.returned (.tuple #[.slice at' Tl ct, .int .i64 0])) (w1.drewN n)) := fun n =>
        ⟨_, _, _, tg, rfl, hmm.heap rfl, HT.out.2.2.2, HT.out.1.same fun _ _ => rfl, HT.out.2.1, (fun k hk => hk.elim .inl fun e => .inr e.1), HT.out.2.2.1.drew n⟩
      clear hc1 hc2 hc3 hz1 hd1 hg1 hq1 hmm HT HC hX hTs hsay
      go_wp2
      go_region_held3 (fun u => u.cell? ⟨d, 1, none⟩ = some (.int .i64 0)) (go_keep) (fail)
      go_wp2
      go_ret2
      exact HP.out 1
    | true =>
      obtain ⟨rs, g, hrs, hbs, hgf, hz1⟩ := hc3 hen
      have hft := hsay.2 hen rs hrs
      have hrb : Bytes rs := by obtain ⟨s, _, _, a, _⟩ := hft; exact a
      have hrl : rs.length ≤ bs.length + m := by
        obtain ⟨s, _, _, _, a⟩ := hft
        obtain ⟨_, n, _, e⟩ := a.kept (bitsL_bit _) inv_start s (bitsL rs) rfl
        have := congrArg List.length e
        rw [bitsL_len, List.length_drop, bitsL_len, List.length_drop, List.length_append, hm] at this
        omega
      obtain ⟨ab, cb, hbv, hl1, hl2, hl3⟩ := hbs.shape
      rw [vals_len] at hbv hl1
      subst hbv
      have hbd := adlM_bd 1 r'.out
      have HF2 := zreadFoot_any [] rs ab rs.length cb rfl hl1 (by unfold maxLen at hl2; omega) hl3 (hbs.row rfl) Bytes.nil hrb (by decide) ⟨hbd.1, by omega⟩ (Sl.nil _ _) hz1
      obtain ⟨q0, q1, q2, q3, q4, q5, q6, q7, qf⟩ := hz1.cells
      have htd := hz1.ne hTs (by decide)
      have hgd := hz1.ne hbs (by decide)
      have HD : Hid (ZFoot lim.toNat (bs ++ b) r'.out ([] ++ rs) ∧ (∀ k, S k → base ≤ k ∧ k < w1.heap.size) ∧ (∀ k, tg = some k → k ≠ d) ∧ (∀ k, g = some k → k ≠ d) ∧ Sl w1 5 (.slice ab rs.length cb) g (vals rs) ∧ (ab = none → cb = 0) ∧ rs.length ≤ cb) := ⟨hft, hSw, htd, hgd, hbs, hl3, hl1⟩
      clear hc1 hc2 hc3 hsay hrs hft hrb hbs hgf hz1 hbd htd hgd hTs hX hSw hl1 hl2 hl3 htg hpo hr hst
      go_wp2_with fail
      refine HF2.mono ?_
      rintro e w2 hp
      have HE := zfoot_end (base := base) (S1 := S) HC.out.2.2.2.2.1 HD.out.2.1 (fun k hk => by cases hk) HC.out.1 HC.out.2.1 HD.out.1 (by decide) rfl hp
      have hX2 : ZFrm w w2 S := ⟨hp.1.os.trans HT.out.2.2.1.os, hp.1.tape.trans HT.out.2.2.1.tape, hp.1.output.trans HT.out.2.2.1.output, Nat.le_trans HT.out.2.2.1.size hp.1.size, fun k hk hn => (hp.1.block k (Nat.lt_of_lt_of_le hk HT.out.2.2.1.size) (fun e => hn (by rw [e]; exact HC.out.2.2.2.2.1)) (by simp)).trans (HT.out.2.2.1.block k hk hn)⟩
      have hT2 : Sl w2 5 (.slice at' Tl ct) tg (vals (r'.out.drop out.length)) := HT.out.1.same fun k hk => hp.1.block k (HT.out.1.lt hk) (HD.out.2.2.1 k hk) (by simp)
      have hs12 := hp.1.size
      clear HF2 q0 q1 q2 q3 q4 q5 q6 q7 qf
      by_cases hx : ([] : List Int).length + rs.length < 4
      · obtain ⟨rfl, u0, u1, S', hm', hS'⟩ := HE.1 hx
        have HP : Hid (∀ n, ZuPost base w d lim (bs ++ b) ⟨1, out, 0, []⟩ S (.returned (.tuple #[.slice at' Tl ct, .int .i64 0])) (w2.drewN n)) := fun n =>
          ⟨⟨2, r'.out, 0, []⟩, S', _, tg, rfl, hm'.heap rfl, HT.out.2.2.2, hT2.same fun _ _ => rfl, HT.out.2.1, (fun k hk => (hS' k hk).elim .inl fun e => .inr (Nat.le_trans HT.out.2.2.1.size e)), hX2.drew n⟩
        clear hp HE hX2 hm' hS' HC HT HD hT2
        go_wp2
        go_region_held3 (fun u => u.cell? ⟨d, 1, none⟩ = some (.int .i64 0)) (go_keep) (fail)
        go_wp2
        go_ret2
        exact HP.out 1
      · have hx4 : 4 ≤ ([] : List Int).length + rs.length := by omega
        obtain ⟨re, -, -⟩ := hp.2.2 hx4
        rw [show 4 - ([] : List Int).length = 4 from rfl] at re
        obtain ⟨a2, ha2⟩ : ∃ a2, (if cb = 4 then ab else Option.map (fun x => x.add 4) ab) = a2 := ⟨_, rfl⟩
        have hr2 : Row w2 a2 (rs.drop 4) := by
          rw [← ha2]
          have h0 : Sl w2 5 (.slice ab rs.length cb) g (vals rs) := HD.out.2.2.2.2.1.same fun k hk => hp.1.block k (HD.out.2.2.2.2.1.lt hk) (HD.out.2.2.2.1 k hk) (by simp)
          exact (h0.row rfl).cut 4 cb (by simp at hx4; omega) HD.out.2.2.2.2.2.2
        have hn2 : a2 = none → cb - 4 = 0 := by rw [← ha2]; exact cut_none HD.out.2.2.2.2.2.1
        rw [ha2] at re
        subst re
        by_cases hs : bigN ((([] : List Int) ++ rs).take 4) = adlM 1 r'.out
        · have hz3 := HE.2.2 hx4 hs
          obtain ⟨u0, u1, u2, u3, u4, u5, u6, u7, uf⟩ := hz3.cells
          have H1 : Hid (ZC w2 d 3 0 lim (.slice none 0 0) (.pointer none) (adlM 1 r'.out) r'.out.length (.slice none 0 0) ∧ ZFrm w w2 S ∧ Sl w2 5 (.slice at' Tl ct) tg (vals (r'.out.drop out.length)) ∧ bigN ((([] : List Int) ++ rs).take 4) = adlM 1 r'.out) := ⟨hz3, hX2, hT2, hs⟩
          have HR2 : Hid (Row w2 a2 (rs.drop 4) ∧ (a2 = none → cb - 4 = 0) ∧ (rs.drop 4).length = rs.length - 4) := ⟨hr2, hn2, List.length_drop⟩
          clear hp HE hX2 hz3 hr2 hn2 hs ha2 hT2
          go_wp2_with (at_builtin; refine wpList_more rfl _ _ rfl (.slice none 0 0) none [] rfl (Sl.nil _ _) a2 (rs.length - 4) (cb - 4) (rs.drop 4) rfl HR2.out.2.1 HR2.out.2.2 HR2.out.1 (by simp only [List.length_nil]; omega) ?_)
          intro v5 w5 g5 hs5 hg5 hgr5
          obtain ⟨a5, c5, hv5, -⟩ := hs5.shape
          obtain ⟨z5, hz5⟩ : ∃ z, v5 = .slice a5 z c5 := ⟨_, hv5⟩
          clear hv5
          subst hz5
          have hz5 := H1.out.1.same (hgr5.block d H1.out.1.lt (by simp))
          obtain ⟨v0, v1, v2, v3, v4, v5', v6, v7, vf⟩ := hz5.cells
          have hz6 := hz5.set7 (.slice a5 z5 c5)
          have v1' := hz6.cells.2.1
          have HP : Hid (∀ n, ZuPost base w d lim (bs ++ b) ⟨1, out, 0, []⟩ S (.returned (.tuple #[.slice at' Tl ct, .int .i64 0])) ((w5.setCell ⟨d, 7, none⟩ (.slice a5 z5 c5)).drewN n)) := by
            intro n
            have hnew : ∀ k, g5 = some k → w.heap.size ≤ k := by
              intro k hk
              rcases hg5 with e | ⟨j, e, hj⟩
              · rw [e] at hk; cases hk
              · rw [e] at hk; cases hk; exact Nat.le_trans H1.out.2.1.size hj
            have hs6 : Sl (w5.setCell ⟨d, 7, none⟩ (.slice a5 z5 c5)) 5 (.slice a5 z5 c5) g5 (vals ((([] : List Int) ++ rs).drop 4)) := by exact hs5.same fun k hk => Below.heap_setCell _ _ _ _ (hz5.ne hs5 (by decide) k hk)
            have hsz : w.heap.size ≤ (w5.setCell ⟨d, 7, none⟩ (.slice a5 z5 c5)).heap.size := by
              simp only [World.setCell, Array.size_modify]
              exact Nat.le_trans H1.out.2.1.size hgr5.size
            have hmm : ZMem base (w5.setCell ⟨d, 7, none⟩ (.slice a5 z5 c5)) d lim (bs ++ b) ⟨3, r'.out, 0, (([] : List Int) ++ rs).drop 4⟩ (fun k => S k ∨ g5 = some k) := by
              refine ZMem.mk3 (.inl HC.out.2.2.2.2.1) ?_ HC.out.1 HC.out.2.1 HD.out.1 (by simpa using hx4) H1.out.2.2.2 hz6 hs6 (fun k hk => .inr hk)
              rintro k (hk | hk)
              · have := HC.out.2.2.2.2.2.1 k hk; exact ⟨this.1, by omega⟩
              · refine ⟨?_, hs6.lt hk⟩
                have := hnew k hk
                omega
            have ht5 : Sl (w5.setCell ⟨d, 7, none⟩ (.slice a5 z5 c5)) 5 (.slice at' Tl ct) tg (vals (r'.out.drop out.length)) := H1.out.2.2.1.same fun k hk => by
              rw [Below.heap_setCell _ _ _ _ (HD.out.2.2.1 k hk)]
              exact hgr5.block k (H1.out.2.2.1.lt hk) (by simp)
            refine ⟨_, _, _, tg, rfl, hmm.heap rfl, HT.out.2.2.2, ht5.same fun _ _ => rfl, HT.out.2.1, ?_, ?_⟩
            · rintro k (hk | hk)
              · exact .inl hk
              · exact .inr (hnew k hk)
            · refine ⟨hgr5.os.trans H1.out.2.1.os, hgr5.tape.trans H1.out.2.1.tape, hgr5.output.trans H1.out.2.1.output, hsz, fun k hk hn => ?_⟩
              show (w5.setCell ⟨d, 7, none⟩ (.slice a5 z5 c5)).heap[k]? = _
              rw [Below.heap_setCell _ _ _ _ (fun e => hn (by rw [e]; exact HC.out.2.2.2.2.1))]
              exact (hgr5.block k (Nat.lt_of_lt_of_le hk H1.out.2.1.size) (by simp)).trans (H1.out.2.1.block k hk hn)
          clear hs5 hg5 hgr5 hz5 hz6 H1 HC HR2 HT HD
          go_wp2
          go_region_held3 (fun u => u.cell? ⟨d, 1, none⟩ = some (.int .i64 0)) (first | go_keep | assumption) (fail)
          go_wp2
          go_ret2
          exact HP.out 1
        · obtain ⟨u0, u1, S', hm', hS'⟩ := HE.2.1 hx4 hs
          have HP : Hid (∀ n, ZuPost base w d lim (bs ++ b) ⟨1, out, 0, []⟩ S (.returned (.tuple #[.slice at' Tl ct, .int .i64 4])) (w2.drewN n)) := fun n =>
            ⟨⟨4, r'.out, 4, []⟩, S', _, tg, rfl, hm'.heap rfl, HT.out.2.2.2, hT2.same fun _ _ => rfl, HT.out.2.1, (fun k hk => (hS' k hk).elim .inl fun e => .inr (Nat.le_trans HT.out.2.2.1.size e)), hX2.drew n⟩
          clear hp HE hX2 hm' hS' HC HT HD hT2 hr2 hn2 ha2
          go_wp2
          go_region_held3 (fun u => u.cell? ⟨d, 1, none⟩ = some (.int .i64 4)) (go_keep) (fail)
          go_wp2
          go_ret2
          exact HP.out 1
  · obtain ⟨rfl, hz1⟩ := hc1 hE
    obtain ⟨q0, q1, q2, q3, q4, q5, q6, q7, qf⟩ := hz1.cells
    have hmm : ZMem base w1 d lim (bs ++ b) ⟨4, r'.out, r'.err, []⟩ S := ZMem.mk4 HC.out.2.2.2.2.1 hSw (hsay.1 hE) hE (by decide) hz1 (Sl.nil _ _) (fun k hk => by cases hk) rfl
    obtain ⟨ER, hER⟩ : ∃ ER, r'.err = ER := ⟨_, rfl⟩
    have HP : Hid (∀ n, ZuPost base w d lim (bs ++ b) ⟨1, out, 0, []⟩ S (.returned (.tuple #[.slice at' Tl ct, .int .i64 ER])) (w1.drewN n)) := fun n =>
      ⟨⟨4, r'.out, r'.err, []⟩, S, _, tg, by rw [hER], hmm.heap rfl, HT.out.2.2.2, HT.out.1.same fun _ _ => rfl, HT.out.2.1, (fun k hk => .inl hk), HT.out.2.2.1.drew n⟩
    rw [hER] at q1
    clear hc1 hc2 hc3 hz1 hmm HT HC hX hTs hsay hER hE
    go_wp2
    go_region_held3 (fun u => u.cell? ⟨d, 1, none⟩ = some (.int .i64 ER)) (go_keep) (fail)
    go_wp2
    go_ret2
    exact HP.out 1
end
end Go.Proofs.YtloagniacjfkfaaGreatDoor
/- zlib's Push: what readHead left, as the decoder's state. -/
namespace Go.Proofs.YtloagniacjfkfaaGreatDoor
open Go.RowKit
section
variable {base : Nat} {w : World} {d : Nat} {lim : Int} {bs : List Int} {S : Nat → Prop}
theorem ZMem.mk0 {w' : World} {A : List Int} {sum : Int} {vp : Value} {gp : Option Nat} {S' : Nat → Prop} (hd : S' d) (hS : ∀ k, S' k → base ≤ k ∧ k < w'.heap.size) (hl : A.length < 2) (hc : ZC w' d 0 0 lim vp (.pointer none) sum (([] : List Int).length : Nat) (.slice none 0 0)) (h3 : Sl w' 5 vp gp (vals A)) (h4 : ∀ k, gp = some k → S' k) : ZMem base w' d lim A ⟨0, [], 0, []⟩ S' :=
  ⟨hd, hS, ⟨fun _ => rfl, (fun hx => by omega), (fun hx => by omega)⟩, (by show 0 ≤ 4; decide), 0, vp, .pointer none, sum, .slice none 0 0, none, hc, Sl.nil _ _, (fun k hk => by cases hk), fun _ => ⟨rfl, rfl, gp, h3, h4⟩, (fun e => by cases e), (fun e => by cases e), (fun e => by cases e), (fun _ => ⟨by decide, rfl⟩), (fun e => by cases e), fun e => absurd rfl e⟩
/-- Behind readHead: too few bytes; no head; a head, and the decoder of what is packed begun. -/
theorem zhead_end {w1 : World} {b : List Int} {av : Option Addr} {c : Nat} {sum : Int} {gp : Option Nat} {e : Ending} (hSd : S d) (hS : ∀ k, S k → base ≤ k ∧ k < w.heap.size) (hgp : ∀ k, gp = some k → S k) (hps : bs.length < 2)
    (h : RhPost w d lim sum (([] : List Int).length : Nat) (.slice none 0 0) gp bs b av c e w1) :
    (bs.length + b.length < 2 → e = .returned (.slice none 0 0) ∧ w1.cell? ⟨d, 0, none⟩ = some (.int .i64 0) ∧ w1.cell? ⟨d, 1, none⟩ = some (.int .i64 0) ∧ ∃ S', ZMem base w1 d lim (bs ++ b) ⟨0, [], 0, []⟩ S' ∧ (∀ k, S' k → S k ∨ w.heap.size ≤ k)) ∧
    (2 ≤ bs.length + b.length → zh (bs ++ b) = false → w1.cell? ⟨d, 0, none⟩ = some (.int .i64 0) ∧ w1.cell? ⟨d, 1, none⟩ = some (.int .i64 3) ∧ ZMem base w1 d lim (bs ++ b) ⟨4, [], 3, []⟩ S) ∧
    (2 ≤ bs.length + b.length → zh (bs ++ b) = true → ∃ p, w.heap.size ≤ p ∧ ZC w1 d 1 0 lim (.slice none 0 0) (.pointer (some ⟨p, 0, none⟩)) 1 (([] : List Int).length : Nat) (.slice none 0 0) ∧ Dec w.heap.size w1 p lim.toNat [] o0 (.stop St.start [])) := by
  obtain ⟨f, g1, g2⟩ := h
  have hsz := f.size
  have ht : (bs ++ b).take 2 = bs ++ b.take (2 - bs.length) := by rw [List.take_append, List.take_of_length_le (by omega)]
  have hz : zh (bs ++ b) = zhd (bigN (bs ++ b.take (2 - bs.length))).toNat := by unfold zh; rw [ht]
  refine ⟨fun hx => ?_, fun hx hn => ?_, fun hx ht => ?_⟩
  · obtain ⟨e1, vp', gp', c1, c2, c3⟩ := g1 hx
    refine ⟨e1, c1.cells.1, c1.cells.2.1, fun k => S k ∨ gp' = some k, ?_, ?_⟩
    · refine ZMem.mk0 (.inl hSd) ?_ (by rw [List.length_append]; exact hx) c1 c2 (fun k hk => .inr hk)
      rintro k (hk | hk)
      · have := hS k hk; exact ⟨this.1, by omega⟩
      · refine ⟨?_, c2.lt hk⟩
        rcases c3 with e | ⟨j, e, hj⟩
        · exact (hS k (hgp k (e ▸ hk))).1
        · rw [e] at hk; cases hk; have := hS d hSd; omega
    · rintro k (hk | hk)
      · exact .inl hk
      · rcases c3 with e | ⟨j, e, hj⟩
        · exact .inl (hgp k (e ▸ hk))
        · rw [e] at hk; cases hk; exact .inr hj
  · obtain ⟨e1, e2, e3⟩ := g2 hx
    have c1 := e3 (by rw [← hz]; exact hn)
    refine ⟨c1.cells.1, c1.cells.2.1, ?_⟩
    exact ZMem.mk4 hSd (fun k hk => ⟨(hS k hk).1, by have := hS k hk; omega⟩) ⟨(fun h => by rw [List.length_append] at h; omega), fun _ _ => rfl, (fun _ h => by rw [hn] at h; cases h)⟩ (by decide) (by decide) c1 (Sl.nil _ _) (fun k hk => by cases hk) rfl
  · obtain ⟨e1, e2, e3⟩ := g2 hx
    exact e2 (by rw [← hz]; exact ht)
end
end Go.Proofs.YtloagniacjfkfaaGreatDoor
