/- Joined: Yo Yp. -/
import Derived.Test.YtloagniacjfkfaaGreatDoorQT
/- zlib's Push: a decoder in the head (mkyo.py writes it out of Ym's walk). -/
namespace Go.Proofs.YtloagniacjfkfaaGreatDoor
open Go.RowKit
section
variable {base : Nat} {w : World} {d : Nat} {lim : Int} {bs : List Int} {z : Zo} {S : Nat → Prop}
theorem Ord.zfrm {w0 : World} (h : Ord w) (hX : ZFrm w w0 S) (hS : ∀ k, S k → base ≤ k ∧ k < w.heap.size) (hb1 : 3 ≤ base) : Ord w0 := fun i hi =>
  (World.cell?_of_block (a := ⟨2, i, none⟩) (hX.block 2 (by have := h.pos; omega) (fun e => by have := (hS _ e).1; omega))).trans (h i hi)
theorem ZuPost.head {w0 : World} {A : List Int} {p : Nat} {out : List Int} (ho : ([] : List Int) = out) (hX : ZFrm w w0 S) (hp : w.heap.size ≤ p) {e : Ending} {w' : World} (h : ZuPost base w0 d lim A ⟨1, out, 0, []⟩ (fun k => S k ∨ k = p) e w') : ZuPost base w d lim A ⟨0, [], 0, []⟩ S e w' := by
  obtain ⟨z', S', tv, tg, e1, e2, e3, e4, e5, e6, e7⟩ := h
  subst ho
  refine ⟨z', S', tv, tg, e1, e2, e3, e4, fun k hk => Nat.le_trans hX.size (e5 k hk), fun k hk => ?_, ⟨e7.os.trans hX.os, e7.tape.trans hX.tape, e7.output.trans hX.output, Nat.le_trans hX.size e7.size, fun k hk hn => (e7.block k (Nat.lt_of_lt_of_le hk hX.size) ?_).trans (hX.block k hk hn)⟩⟩
  · rcases e6 k hk with (q | q) | q
    · exact .inl q
    · exact .inr (by omega)
    · exact .inr (Nat.le_trans hX.size q)
  · rintro (q | q)
    · exact hn q
    · omega
set_option maxHeartbeats 6400000 in
set_option maxRecDepth 20000 in
theorem zpush_head (h : ZMem base w d lim bs z S) (hk : z.k = 0) (b : List Int) (av : Option Addr) (m c : Nat) (hm : b.length = m) (hmc : m ≤ c) (hcm : c ≤ 9223372036854775807) (hc0 : av = none → c = 0) (hrow : Row w av b) (hb2 : Bytes b) (hbp : Bytes bs) (hav : ∀ x, av = some x → b ≠ [] → ¬ S x.block) (hord : Ord w) (hbase : base ≤ w.heap.size) (hb1 : 3 ≤ base) (hlim : lim ≤ 1000000) (hlen : bs.length + m ≤ 1000000000000) :
    Calls Tryz.prog 11 #[.pointer (some ⟨d, 0, none⟩), .slice av m c] w fun e w' => ZuPost base w d lim (bs ++ b) z S e w' := by
  obtain ⟨h1, h2, h3, h4, now, vp, vk, sum, vr, gr, c1, c2, c3, c4, c5, c6, c7, c8, c9⟩ := h
  obtain ⟨rfl, rfl, gp, hsl, hgp⟩ := c4 hk
  obtain ⟨-, rfl⟩ := c8 (by omega)
  have hps : bs.length < 2 := by
    by_cases hx : bs.length < 2
    · exact hx
    · have hx : 2 ≤ bs.length := by omega
      exfalso
      cases hz : zh bs with
      | false => rw [h3.2.1 hx hz] at hk; cases hk
      | true =>
        rcases h3.2.2 hx hz with ⟨out, _, e1⟩ | ⟨er, out, a3, e1⟩ | ⟨out, zs, _, e1, e2, e3⟩
        · rw [e1] at hk; cases hk
        · rw [e1] at hk; cases hk
        · by_cases h4 : zs.length < 4
          · rw [e1 h4] at hk; cases hk
          · by_cases hs : bigN (zs.take 4) = adlM 1 out
            · rw [e2 (by omega) hs] at hk; cases hk
            · rw [e3 (by omega) hs] at hk; cases hk
  have hzz := h3.1 hps
  subst hzz
  simp only at c1
  have HR := zreadHead_any bs b av m c hm hmc (Nat.le_trans hcm (by decide)) hc0 hrow hbp hb2 hps hlim hsl c1
  obtain ⟨k0, k1, k2, k3, k4, k5, k6, k7, fz⟩ := c1.cells
  obtain ⟨A, hA⟩ : ∃ A, bs ++ b = A := ⟨_, rfl⟩
  have HAL : Hid (A.length = bs.length + m) := by show _ = _; rw [← hA, List.length_append, hm]
  have HG : Hid (S d ∧ (∀ k, S k → base ≤ k ∧ k < w.heap.size) ∧ (∀ k, gp = some k → S k) ∧ Row w av b ∧ (∀ x, av = some x → b ≠ [] → ¬ S x.block) ∧ (av = none → c = 0) ∧ Ord w ∧ bs ++ b = A ∧ Bytes b) := ⟨h1, h2, hgp, hrow, hav, hc0, hord, hA, hb2⟩
  rw [hA]
  clear c1 c2 c3 c4 c5 c6 c7 c8 c9 h1 h2 h3 h4 hsl hgp hrow hav hc0 hord hA hk
  go_enter Tryz.func11, Tryz.ntmps11
  go_wp2_with fail
  refine HR.mono ?_
  rintro e w0 hp
  have HE := zhead_end (base := base) (S := S) HG.out.1 HG.out.2.1 HG.out.2.2.1 hps hp
  rw [HG.out.2.2.2.2.2.2.2.1] at HE
  have hX : ZFrm w w0 S := ⟨hp.1.os, hp.1.tape, hp.1.output, hp.1.size, fun k hk hn => hp.1.block k hk (fun e => hn (by rw [e]; exact HG.out.1)) (fun e => hn (HG.out.2.2.1 k e.symm))⟩
  clear HR k0 k1 k2 k3 k4 k5 k6 k7 fz
  by_cases hx : bs.length + b.length < 2
  · obtain ⟨rfl, q0, q1, S', hm', hS'⟩ := HE.1 hx
    have HP : Hid (∀ n, ZuPost base w d lim A ⟨0, [], 0, []⟩ S (.returned (.tuple #[.slice none 0 0, .int .i64 0])) (w0.drewN n)) := fun n =>
      ⟨⟨0, [], 0, []⟩, S', _, none, rfl, hm'.heap rfl, List.prefix_refl _, Sl.nil _ _, (fun k hk => by cases hk), hS', hX.drew n⟩
    clear hp HE hX hm' hS' HG
    go_wp2
    go_region_held3 (fun u => u.cell? ⟨d, 1, none⟩ = some (.int .i64 0)) (go_keep) (fail)
    go_wp2
    go_ret2
    exact HP.out 1
  · have hx2 : 2 ≤ bs.length + b.length := by omega
    obtain ⟨K, hK⟩ : ∃ K, 2 - bs.length = K := ⟨_, rfl⟩
    obtain ⟨re, -, -⟩ := hp.2.2 hx2
    rw [hK, hm] at re
    obtain ⟨a2, ha2⟩ : ∃ a2, (if c = K then av else Option.map (fun x => x.add K) av) = a2 := ⟨_, rfl⟩
    have hr2 : Row w0 a2 (b.drop K) := by rw [← ha2]; exact (hX.row HG.out.2.2.2.1 HG.out.2.2.2.2.1).cut K c (by omega) (by rw [hm]; exact hmc)
    have hn2 : a2 = none → c - K = 0 := by rw [← ha2]; exact cut_none HG.out.2.2.2.2.2.1
    rw [ha2] at re
    subst re
    cases hzA : zh A with
    | false =>
      obtain ⟨q0, q1, hm'⟩ := HE.2.1 hx2 hzA
      have HP : Hid (∀ n, ZuPost base w d lim A ⟨0, [], 0, []⟩ S (.returned (.tuple #[.slice none 0 0, .int .i64 3])) (w0.drewN n)) := fun n =>
        ⟨⟨4, [], 3, []⟩, S, _, none, rfl, hm'.heap rfl, List.prefix_refl _, Sl.nil _ _, (fun k hk => by cases hk), (fun k hk => .inl hk), hX.drew n⟩
      clear hp HE hX hm' HG hr2 hn2 ha2 hzA
      go_wp2
      go_region_held3 (fun u => u.cell? ⟨d, 1, none⟩ = some (.int .i64 3)) (go_keep) (fail)
      go_wp2
      go_ret2
      exact HP.out 1
    | true =>
      obtain ⟨p, hpw, hz0, hd0⟩ := HE.2.2 hx2 hzA
      obtain ⟨out, hout⟩ : ∃ out, ([] : List Int) = out := ⟨_, rfl⟩
      obtain ⟨S0, hS0⟩ : ∃ S0 : Nat → Prop, (fun k => S k ∨ k = p) = S0 := ⟨_, rfl⟩
      obtain ⟨e1, e2, e3⟩ := hd0.blocks
      have HCV : Hid (∀ e w', ZuPost base w0 d lim A ⟨1, out, 0, []⟩ S0 e w' → ZuPost base w d lim A ⟨0, [], 0, []⟩ S e w') := fun e w' h => by rw [← hS0] at h; exact ZuPost.head hout hX hpw h
      have hdl : (b.drop K).length = m - K := by rw [List.length_drop, hm]
      rw [hout] at hz0
      have HF := zreadPacked_any (base := base) (b.drop K) a2 (m - K) (c - K) hdl (fun z hz => HG.out.2.2.2.2.2.2.2.2 z (List.mem_of_mem_drop hz)) (fun e => by have := hn2 e; omega) hr2 (Nat.le_trans hbase hX.size) hb1 (HG.out.2.2.2.2.2.2.1.zfrm hX HG.out.2.1 hb1) hlim (by simp only [List.length_nil]; omega) (show U32 1 by unfold U32; omega) (by show ([] : List Int).length ≤ 1000000; decide) (hd0.base hbase) hz0
      have hAd : ([] : List Int) ++ bitsL (b.drop K) = bitsL (A.drop 2) := by
        have hd2 : bs.drop 2 = [] := List.drop_of_length_le (by omega)
        rw [List.nil_append, ← HG.out.2.2.2.2.2.2.2.1, List.drop_append, hd2, hK, List.nil_append]
      have HC : Hid (2 ≤ A.length ∧ zh A = true ∧ ([] : List Int) ++ bitsL (b.drop K) = bitsL (A.drop 2) ∧ (1 : Int) = adlM 1 out ∧ S0 d ∧ (∀ k, S0 k → base ≤ k ∧ k < w0.heap.size) ∧ S0 p ∧ (∀ k, o0.g = some k → S0 k) ∧ (∀ k, o0.q = some k → S0 k) ∧ (Og.stop St.start []).out = out) := by
        have hAL := HAL.out
        refine ⟨by omega, hzA, hAd, by rw [← hout]; decide, by rw [← hS0]; exact .inl HG.out.1, ?_, by rw [← hS0]; exact .inr rfl, (fun k hk => by cases hk), (fun k hk => by cases hk), hout⟩
        rw [← hS0]
        rintro k (hk | hk)
        · have := HG.out.2.1 k hk; exact ⟨this.1, Nat.lt_of_lt_of_le this.2 hX.size⟩
        · rw [hk]; exact ⟨by omega, e1⟩
      obtain ⟨k0, k1, k2, k3, k4, k5, k6, k7, fz⟩ := hz0.cells
      have hbase0 : base ≤ w0.heap.size := Nat.le_trans hbase hX.size
      clear hp HE hX hr2 hn2 ha2 hzA hz0 hd0 e1 e2 e3 hAd HG hS0 hout hdl
      go_wp2_with fail
      refine HF.mono ?_
      rintro e w1 ⟨r', o', tv, tg, bv, rfl, hr, hpre, hsl, htg, hst, hc1, hc2, hc3⟩
      rw [HC.out.2.2.1] at hr
      have hsay := run_says HC.out.1 HC.out.2.1 hr
      have hpo : out <+: r'.out := by rw [← HC.out.2.2.2.2.2.2.2.2.2]; exact hpre
      have hTs : Sl w1 5 tv tg (vals (r'.out.drop out.length)) := by rw [← HC.out.2.2.2.2.2.2.2.2.2]; exact hsl
      have hsm : adlM 1 (r'.out.drop (Og.stop St.start []).out.length) = adlM 1 r'.out := by show adlM 1 (r'.out.drop 0) = _; rw [List.drop_zero]
      rw [hsm] at hc1 hc2 hc3
      obtain ⟨at', ct, htv, -⟩ := hTs.shape
      obtain ⟨Tl, hTl⟩ : ∃ Tl, tv = .slice at' Tl ct := ⟨_, htv⟩
      subst hTl
      have hX : ZFrm w0 w1 S0 := ⟨hst.os, hst.tape, hst.output, hst.size, fun k hk hn => hst.block k hk (fun e => hn (by rw [e]; exact HC.out.2.2.2.2.1)) (fun e => hn (by rw [e]; exact HC.out.2.2.2.2.2.2.1)) (fun e => hn (HC.out.2.2.2.2.2.2.2.1 k e.symm)) (fun e => hn (HC.out.2.2.2.2.2.2.2.2.1 k e.symm))⟩
      have hSw : ∀ k, S0 k → base ≤ k ∧ k < w1.heap.size := fun k hk => ⟨(HC.out.2.2.2.2.2.1 k hk).1, Nat.lt_of_lt_of_le (HC.out.2.2.2.2.2.1 k hk).2 hX.size⟩
      have HT : Hid (Sl w1 5 (.slice at' Tl ct) tg (vals (r'.out.drop out.length)) ∧ (∀ k, tg = some k → w0.heap.size ≤ k) ∧ ZFrm w0 w1 S0 ∧ out <+: r'.out) := ⟨hTs, htg, hX, hpo⟩
      clear HF k0 k1 k2 k3 k4 k5 k6 k7 fz htv hpre hsl hsm
      by_cases hE : r'.err = 0
      · cases hen : r'.ended with
        | false =>
          obtain ⟨rfl, hz1, hd1, hg1, hq1⟩ := hc2 hE hen
          obtain ⟨q0, q1, q2, q3, q4, q5, q6, q7, qf⟩ := hz1.cells
          rw [HC.out.2.2.1] at hd1
          have hmm : ZMem base w1 d lim A ⟨1, r'.out, 0, []⟩ (fun k => S0 k ∨ (w0.heap.size ≤ k ∧ k < w1.heap.size)) := by
            obtain ⟨e1, e2, e3⟩ := hd1.blocks
            refine ZMem.mk1 (.inl HC.out.2.2.2.2.1) ?_ (ZSays.pack HC.out.1 HC.out.2.1 (hd1.pack hE hen)) hz1 rfl hd1 rfl hE hen (.inl HC.out.2.2.2.2.2.2.1) ?_ ?_
            · rintro k (hk | hk)
              · exact hSw k hk
              · exact ⟨by omega, hk.2⟩
            · intro k hk
              rcases hg1 k hk with e | e
              · exact .inl (HC.out.2.2.2.2.2.2.2.1 k e)
              · exact .inr ⟨e, e2 k hk⟩
            · intro k hk
              rcases hq1 k hk with e | e
              · exact .inl (HC.out.2.2.2.2.2.2.2.2.1 k e)
              · exact .inr ⟨e, e3 k hk⟩
          have HP : Hid (∀ n, ZuPost base w0 d lim A ⟨1, out, 0, []⟩ S0 (.returned (.tuple #[.slice at' Tl ct, .int .i64 0])) (w1.drewN n)) := fun n =>
            ⟨_, _, _, tg, rfl, hmm.heap rfl, HT.out.2.2.2, HT.out.1.same fun _ _ => rfl, HT.out.2.1, (fun k hk => hk.elim .inl fun e => .inr e.1), HT.out.2.2.1.drew n⟩
          clear hc1 hc2 hc3 hz1 hd1 hg1 hq1 hmm HT HC hX hTs hsay
          go_wp2
          go_region_held3 (fun u => u.cell? ⟨d, 1, none⟩ = some (.int .i64 0)) (go_keep) (fail)
          go_wp2
          go_ret2
          exact HCV.out _ _ (HP.out 1)
        | true =>
          obtain ⟨rs, g, hrs, hbs, hgf, hz1⟩ := hc3 hen
          have hft := hsay.2 hen rs hrs
          have hrb : Bytes rs := by obtain ⟨s, _, _, a, _⟩ := hft; exact a
          have hrl : rs.length ≤ bs.length + m := by
            obtain ⟨s, _, _, _, a⟩ := hft
            obtain ⟨_, n, _, e⟩ := a.kept (bitsL_bit _) inv_start s (bitsL rs) rfl
            have := congrArg List.length e
            rw [bitsL_len, List.length_drop, bitsL_len, List.length_drop, HAL.out] at this
            omega
          obtain ⟨ab, cb, hbv, hl1, hl2, hl3⟩ := hbs.shape
          rw [vals_len] at hbv hl1
          subst hbv
          have hbd := adlM_bd 1 r'.out
          have HF2 := zreadFoot_any [] rs ab rs.length cb rfl hl1 (by unfold maxLen at hl2; omega) hl3 (hbs.row rfl) Bytes.nil hrb (by decide) ⟨hbd.1, by omega⟩ (Sl.nil _ _) hz1
          obtain ⟨q0, q1, q2, q3, q4, q5, q6, q7, qf⟩ := hz1.cells
          have htd := hz1.ne hTs (by decide)
          have hgd := hz1.ne hbs (by decide)
          have HD : Hid (ZFoot lim.toNat A r'.out ([] ++ rs) ∧ (∀ k, S0 k → base ≤ k ∧ k < w1.heap.size) ∧ (∀ k, tg = some k → k ≠ d) ∧ (∀ k, g = some k → k ≠ d) ∧ Sl w1 5 (.slice ab rs.length cb) g (vals rs) ∧ (ab = none → cb = 0) ∧ rs.length ≤ cb) := ⟨hft, hSw, htd, hgd, hbs, hl3, hl1⟩
          clear hc1 hc2 hc3 hsay hrs hft hrb hbs hgf hz1 hbd htd hgd hTs hX hSw hl1 hl2 hl3 htg hpo hr hst
          go_wp2_with fail
          refine HF2.mono ?_
          rintro e w2 hp
          have HE := zfoot_end (base := base) (S1 := S0) HC.out.2.2.2.2.1 HD.out.2.1 (fun k hk => by cases hk) HC.out.1 HC.out.2.1 HD.out.1 (by decide) rfl hp
          have hX2 : ZFrm w0 w2 S0 := ⟨hp.1.os.trans HT.out.2.2.1.os, hp.1.tape.trans HT.out.2.2.1.tape, hp.1.output.trans HT.out.2.2.1.output, Nat.le_trans HT.out.2.2.1.size hp.1.size, fun k hk hn => (hp.1.block k (Nat.lt_of_lt_of_le hk HT.out.2.2.1.size) (fun e => hn (by rw [e]; exact HC.out.2.2.2.2.1)) (by simp)).trans (HT.out.2.2.1.block k hk hn)⟩
          have hT2 : Sl w2 5 (.slice at' Tl ct) tg (vals (r'.out.drop out.length)) := HT.out.1.same fun k hk => hp.1.block k (HT.out.1.lt hk) (HD.out.2.2.1 k hk) (by simp)
          have hs12 := hp.1.size
          clear HF2 q0 q1 q2 q3 q4 q5 q6 q7 qf
          by_cases hx : ([] : List Int).length + rs.length < 4
          · obtain ⟨rfl, u0, u1, S', hm', hS'⟩ := HE.1 hx
            have HP : Hid (∀ n, ZuPost base w0 d lim A ⟨1, out, 0, []⟩ S0 (.returned (.tuple #[.slice at' Tl ct, .int .i64 0])) (w2.drewN n)) := fun n =>
              ⟨⟨2, r'.out, 0, []⟩, S', _, tg, rfl, hm'.heap rfl, HT.out.2.2.2, hT2.same fun _ _ => rfl, HT.out.2.1, (fun k hk => (hS' k hk).elim .inl fun e => .inr (Nat.le_trans HT.out.2.2.1.size e)), hX2.drew n⟩
            clear hp HE hX2 hm' hS' HC HT HD hT2
            go_wp2
            go_region_held3 (fun u => u.cell? ⟨d, 1, none⟩ = some (.int .i64 0)) (go_keep) (fail)
            go_wp2
            go_ret2
            exact HCV.out _ _ (HP.out 1)
          · have hx4 : 4 ≤ ([] : List Int).length + rs.length := by omega
            obtain ⟨re, -, -⟩ := hp.2.2 hx4
            rw [show 4 - ([] : List Int).length = 4 from rfl] at re
            obtain ⟨a2, ha2⟩ : ∃ a2, (if cb = 4 then ab else Option.map (fun x => x.add 4) ab) = a2 := ⟨_, rfl⟩
            have hr2 : Row w2 a2 (rs.drop 4) := by
              rw [← ha2]
              have h0 : Sl w2 5 (.slice ab rs.length cb) g (vals rs) := HD.out.2.2.2.2.1.same fun k hk => hp.1.block k (HD.out.2.2.2.2.1.lt hk) (HD.out.2.2.2.1 k hk) (by simp)
              exact (h0.row rfl).cut 4 cb (by simp at hx4; omega) HD.out.2.2.2.2.2.2
            have hn2 : a2 = none → cb - 4 = 0 := by rw [← ha2]; exact cut_none HD.out.2.2.2.2.2.1
            rw [ha2] at re
            subst re
            by_cases hs : bigN ((([] : List Int) ++ rs).take 4) = adlM 1 r'.out
            · have hz3 := HE.2.2 hx4 hs
              obtain ⟨u0, u1, u2, u3, u4, u5, u6, u7, uf⟩ := hz3.cells
              have H1 : Hid (ZC w2 d 3 0 lim (.slice none 0 0) (.pointer none) (adlM 1 r'.out) r'.out.length (.slice none 0 0) ∧ ZFrm w0 w2 S0 ∧ Sl w2 5 (.slice at' Tl ct) tg (vals (r'.out.drop out.length)) ∧ bigN ((([] : List Int) ++ rs).take 4) = adlM 1 r'.out) := ⟨hz3, hX2, hT2, hs⟩
              have HR2 : Hid (Row w2 a2 (rs.drop 4) ∧ (a2 = none → cb - 4 = 0) ∧ (rs.drop 4).length = rs.length - 4) := ⟨hr2, hn2, List.length_drop⟩
              clear hp HE hX2 hz3 hr2 hn2 hs ha2 hT2
              go_wp2_with (at_builtin; refine wpList_more rfl _ _ rfl (.slice none 0 0) none [] rfl (Sl.nil _ _) a2 (rs.length - 4) (cb - 4) (rs.drop 4) rfl HR2.out.2.1 HR2.out.2.2 HR2.out.1 (by simp only [List.length_nil]; omega) ?_)
              intro v5 w5 g5 hs5 hg5 hgr5
              obtain ⟨a5, c5, hv5, -⟩ := hs5.shape
              obtain ⟨z5, hz5⟩ : ∃ z, v5 = .slice a5 z c5 := ⟨_, hv5⟩
              clear hv5
              subst hz5
              have hz5 := H1.out.1.same (hgr5.block d H1.out.1.lt (by simp))
              obtain ⟨v0, v1, v2, v3, v4, v5', v6, v7, vf⟩ := hz5.cells
              have hz6 := hz5.set7 (.slice a5 z5 c5)
              have v1' := hz6.cells.2.1
              have HP : Hid (∀ n, ZuPost base w0 d lim A ⟨1, out, 0, []⟩ S0 (.returned (.tuple #[.slice at' Tl ct, .int .i64 0])) ((w5.setCell ⟨d, 7, none⟩ (.slice a5 z5 c5)).drewN n)) := by
                intro n
                have hnew : ∀ k, g5 = some k → w0.heap.size ≤ k := by
                  intro k hk
                  rcases hg5 with e | ⟨j, e, hj⟩
                  · rw [e] at hk; cases hk
                  · rw [e] at hk; cases hk; exact Nat.le_trans H1.out.2.1.size hj
                have hs6 : Sl (w5.setCell ⟨d, 7, none⟩ (.slice a5 z5 c5)) 5 (.slice a5 z5 c5) g5 (vals ((([] : List Int) ++ rs).drop 4)) := by exact hs5.same fun k hk => Below.heap_setCell _ _ _ _ (hz5.ne hs5 (by decide) k hk)
                have hsz : w0.heap.size ≤ (w5.setCell ⟨d, 7, none⟩ (.slice a5 z5 c5)).heap.size := by
                  simp only [World.setCell, Array.size_modify]
                  exact Nat.le_trans H1.out.2.1.size hgr5.size
                have hmm : ZMem base (w5.setCell ⟨d, 7, none⟩ (.slice a5 z5 c5)) d lim A ⟨3, r'.out, 0, (([] : List Int) ++ rs).drop 4⟩ (fun k => S0 k ∨ g5 = some k) := by
                  refine ZMem.mk3 (.inl HC.out.2.2.2.2.1) ?_ HC.out.1 HC.out.2.1 HD.out.1 (by simpa using hx4) H1.out.2.2.2 hz6 hs6 (fun k hk => .inr hk)
                  rintro k (hk | hk)
                  · have := HC.out.2.2.2.2.2.1 k hk; exact ⟨this.1, by omega⟩
                  · refine ⟨?_, hs6.lt hk⟩
                    have := hnew k hk
                    omega
                have ht5 : Sl (w5.setCell ⟨d, 7, none⟩ (.slice a5 z5 c5)) 5 (.slice at' Tl ct) tg (vals (r'.out.drop out.length)) := H1.out.2.2.1.same fun k hk => by
                  rw [Below.heap_setCell _ _ _ _ (HD.out.2.2.1 k hk)]
                  exact hgr5.block k (H1.out.2.2.1.lt hk) (by simp)
                refine ⟨_, _, _, tg, rfl, hmm.heap rfl, HT.out.2.2.2, ht5.same fun _ _ => rfl, HT.out.2.1, ?_, ?_⟩
                · rintro k (hk | hk)
                  · exact .inl hk
                  · exact .inr (hnew k hk)
                · refine ⟨hgr5.os.trans H1.out.2.1.os, hgr5.tape.trans H1.out.2.1.tape, hgr5.output.trans H1.out.2.1.output, hsz, fun k hk hn => ?_⟩
                  show (w5.setCell ⟨d, 7, none⟩ (.slice a5 z5 c5)).heap[k]? = _
                  rw [Below.heap_setCell _ _ _ _ (fun e => hn (by rw [e]; exact HC.out.2.2.2.2.1))]
                  exact (hgr5.block k (Nat.lt_of_lt_of_le hk H1.out.2.1.size) (by simp)).trans (H1.out.2.1.block k hk hn)
              clear hs5 hg5 hgr5 hz5 hz6 H1 HC HR2 HT HD
              go_wp2
              go_region_held3 (fun u => u.cell? ⟨d, 1, none⟩ = some (.int .i64 0)) (first | go_keep | assumption) (fail)
              go_wp2
              go_ret2
              exact HCV.out _ _ (HP.out 1)
            · obtain ⟨u0, u1, S', hm', hS'⟩ := HE.2.1 hx4 hs
              have HP : Hid (∀ n, ZuPost base w0 d lim A ⟨1, out, 0, []⟩ S0 (.returned (.tuple #[.slice at' Tl ct, .int .i64 4])) (w2.drewN n)) := fun n =>
                ⟨⟨4, r'.out, 4, []⟩, S', _, tg, rfl, hm'.heap rfl, HT.out.2.2.2, hT2.same fun _ _ => rfl, HT.out.2.1, (fun k hk => (hS' k hk).elim .inl fun e => .inr (Nat.le_trans HT.out.2.2.1.size e)), hX2.drew n⟩
              clear hp HE hX2 hm' hS' HC HT HD hT2 hr2 hn2 ha2
              go_wp2
              go_region_held3 (fun u => u.cell? ⟨d, 1, none⟩ = some (.int .i64 4)) (go_keep) (fail)
              go_wp2
              go_ret2
              exact HCV.out _ _ (HP.out 1)
      · obtain ⟨rfl, hz1⟩ := hc1 hE
        obtain ⟨q0, q1, q2, q3, q4, q5, q6, q7, qf⟩ := hz1.cells
        have hmm : ZMem base w1 d lim A ⟨4, r'.out, r'.err, []⟩ S0 := ZMem.mk4 HC.out.2.2.2.2.1 hSw (hsay.1 hE) hE (by decide) hz1 (Sl.nil _ _) (fun k hk => by cases hk) rfl
        obtain ⟨ER, hER⟩ : ∃ ER, r'.err = ER := ⟨_, rfl⟩
        have HP : Hid (∀ n, ZuPost base w0 d lim A ⟨1, out, 0, []⟩ S0 (.returned (.tuple #[.slice at' Tl ct, .int .i64 ER])) (w1.drewN n)) := fun n =>
          ⟨⟨4, r'.out, r'.err, []⟩, S0, _, tg, by rw [hER], hmm.heap rfl, HT.out.2.2.2, HT.out.1.same fun _ _ => rfl, HT.out.2.1, (fun k hk => .inl hk), HT.out.2.2.1.drew n⟩
        rw [hER] at q1
        clear hc1 hc2 hc3 hz1 hmm HT HC hX hTs hsay hER hE
        go_wp2
        go_region_held3 (fun u => u.cell? ⟨d, 1, none⟩ = some (.int .i64 ER)) (go_keep) (fail)
        go_wp2
        go_ret2
        exact HCV.out _ _ (HP.out 1)
end
end Go.Proofs.YtloagniacjfkfaaGreatDoor
/- zlib's Push, whatever the decoder's state. -/
namespace Go.Proofs.YtloagniacjfkfaaGreatDoor
open Go.RowKit
section
variable {base : Nat} {w : World} {d : Nat} {lim : Int} {bs : List Int} {z : Zo} {S : Nat → Prop}
theorem ZFoot.le {l : Nat} {out zs : List Int} (h : ZFoot l bs out zs) : zs.length ≤ bs.length := by
  obtain ⟨s, _, _, _, a⟩ := h
  obtain ⟨_, n, _, e⟩ := a.kept (bitsL_bit _) inv_start s (bitsL zs) rfl
  have := congrArg List.length e
  rw [bitsL_len, List.length_drop, bitsL_len, List.length_drop] at this
  omega
theorem ZSays.rest_le {l : Nat} (h : ZSays l bs z) : z.rest.length ≤ bs.length := by
  by_cases h2 : bs.length < 2
  · rw [h.1 h2]; exact Nat.zero_le _
  · have h2 : 2 ≤ bs.length := by omega
    cases hz : zh bs with
    | false => rw [h.2.1 h2 hz]; exact Nat.zero_le _
    | true =>
      rcases h.2.2 h2 hz with ⟨out, _, e1⟩ | ⟨er, out, a3, e1⟩ | ⟨out, zs, hf, e1, e2, e3⟩
      · rw [e1]; exact Nat.zero_le _
      · rw [e1]; exact Nat.zero_le _
      · by_cases h4 : zs.length < 4
        · rw [e1 h4]; exact Nat.zero_le _
        · by_cases hs : bigN (zs.take 4) = adlM 1 out
          · rw [e2 (by omega) hs]
            show (zs.drop 4).length ≤ _
            rw [List.length_drop]
            have := hf.le
            omega
          · rw [e3 (by omega) hs]; exact Nat.zero_le _
theorem zpush_any (h : ZMem base w d lim bs z S) (b : List Int) (av : Option Addr) (m c : Nat) (hm : b.length = m) (hmc : m ≤ c) (hcm : c ≤ 9223372036854775807) (hc0 : av = none → c = 0) (hrow : Row w av b) (hb2 : Bytes b) (hbp : Bytes bs) (hav : ∀ x, av = some x → b ≠ [] → ¬ S x.block) (hord : Ord w) (hbase : base ≤ w.heap.size) (hb1 : 3 ≤ base) (hlim : lim ≤ 1000000) (hlen : bs.length + m ≤ 1000000000000) :
    Calls Tryz.prog 11 #[.pointer (some ⟨d, 0, none⟩), .slice av m c] w fun e w' => ZuPost base w d lim (bs ++ b) z S e w' := by
  have hk : z.k ≤ 4 := h.2.2.2.1
  rcases (show z.k = 0 ∨ z.k = 1 ∨ z.k = 2 ∨ z.k = 3 ∨ z.k = 4 by omega) with e | e | e | e | e
  · exact zpush_head h e b av m c hm hmc hcm hc0 hrow hb2 hbp hav hord hbase hb1 hlim hlen
  · exact zpush_packed h e b av m c hm hmc hc0 hrow hb2 hord hbase hb1 hlim hlen
  · exact zpush_foot h e b av m c hm hmc hcm (by omega) hc0 hrow hb2 hav
  · have := h.2.2.1.rest_le
    exact zpush_end h e b av m c hm hc0 hrow hb2 (by omega)
  · exact zpush_fail h e b _ hb2
set_option maxHeartbeats 400000 in
theorem zpush_nil (v : Value) (w : World) : Calls Tryz.prog 11 #[.pointer none, v] w fun e w' => e = .returned (.tuple #[.slice none 0 0, .int .i64 1]) ∧ w' = w := by
  go_enter Tryz.func11, Tryz.ntmps11
  go_wp2
  go_ret2
  exact ⟨rfl, rfl⟩
end
end Go.Proofs.YtloagniacjfkfaaGreatDoor
