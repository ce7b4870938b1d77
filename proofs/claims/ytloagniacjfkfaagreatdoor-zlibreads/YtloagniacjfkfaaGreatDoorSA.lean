/- Joined: Za1 Za2. -/
import Derived.Test.YtloagniacjfkfaaGreatDoorQZ
import Derived.Test.YtloagniacjfkfaaGreatDoorQQ
import Derived.Test.YtloagniacjfkfaaGreatDoorQP
import Derived.Deep.DeepCutAuto
import Derived.Deep.CutBlock
/- zlib: bytes pushed in pieces, what holds between two of them. -/
namespace Go.Proofs.YtloagniacjfkfaaGreatDoor
open Go.RowKit
theorem ZSays.le {l : Nat} {bs : List Int} {z : Zo} (h : ZSays l bs z) : z.out.length ≤ l := by
  by_cases h2 : bs.length < 2
  · rw [h.1 h2]; exact Nat.zero_le _
  · have h2 : 2 ≤ bs.length := by omega
    cases hz : zh bs with
    | false => rw [h.2.1 h2 hz]; exact Nat.zero_le _
    | true =>
      rcases h.2.2 h2 hz with ⟨out, ⟨s, x, a1, a2, a3⟩, e⟩ | ⟨er, out, a3, e⟩ | ⟨out, zs, ⟨s, a1, a2, a4, a3⟩, e1, e2, e3⟩
      · rw [e, ← a2]; exact a3.le (Nat.zero_le _)
      · rw [e]; exact a3.le (Nat.zero_le _)
      · have hle : out.length ≤ l := by rw [← a2]; exact a3.le (Nat.zero_le _)
        by_cases h4 : zs.length < 4
        · rw [e1 h4]; exact hle
        · by_cases h5 : bigN (zs.take 4) = adlM 1 out
          · rw [e2 (by omega) h5]; exact hle
          · rw [e3 (by omega) h5]; exact hle
theorem ZMem.grow {base : Nat} {w w' : World} {d : Nat} {lim : Int} {bs : List Int} {z : Zo} {S : Nat → Prop} {g : Option Nat} (h : ZMem base w d lim bs z S) (hgr : w.grownBy w' g) (hg : ∀ k, g = some k → ¬ S k ∧ ∃ cur, w.heap[k]? = some (.cells cur 5 (0, 0))) : ZMem base w' d lim bs z S := by
  obtain ⟨h1, h2, h3, h4, now, vp, vk, sum, vr, gr, c1, c2, c3, c4, c5, c6, c7, c8, c9⟩ := h
  have hbk : ∀ k, S k → w'.heap[k]? = w.heap[k]? := fun k hk => hgr.block k (h2 k hk).2 (fun e => (hg k e.symm).1 hk)
  have hsl : ∀ {v g xs}, Sl w 5 v g xs → (∀ k, g = some k → S k) → Sl w' 5 v g xs := fun hs hS => hs.same fun k hk => hbk k (hS k hk)
  refine ⟨h1, fun k hk => ⟨(h2 k hk).1, Nat.lt_of_lt_of_le (h2 k hk).2 hgr.size⟩, h3, h4, now, vp, vk, sum, vr, gr, c1.same (hbk d h1), hsl c2 c3, c3, fun e => ?_, fun e => ?_, fun e => ?_, c7, c8, c9⟩
  · obtain ⟨a, b, gp, c, d⟩ := c4 e
    exact ⟨a, b, gp, hsl c d, d⟩
  · obtain ⟨a, b, c, p, o, r, e1, e2, e3, e4, e5, e6, e7, e8⟩ := c5 e
    refine ⟨a, b, c, p, o, r, e1, e2.keep ⟨hgr.size, fun k hk => ?_⟩ (hbk p e6) (fun k hk => hbk k (e7 k hk)) (fun k hk => hbk k (e8 k hk)), e3, e4, e5, e6, e7, e8⟩
    by_cases e : some k = g
    · obtain ⟨c, e2⟩ := (hg k e.symm).2
      exact .inr ⟨_, _, e2, .inr (.inl rfl)⟩
    · exact .inl (hgr.block k hk e)
  · obtain ⟨a, b, c, zs, gp, e1, e2, e3, e4⟩ := c6 e
    exact ⟨a, b, c, zs, gp, e1, e2, hsl e3 e4, e4⟩
/-- Between two rounds: t bytes are pushed. -/
structure ZaR (w : World) (bs : List Int) (lim : Int) (D t : Nat) (z : Zo) (S : Nat → Prop) (ar : Option Addr) (cr : Nat) (out : Value) (g : Option Nat) (wr : World) : Prop where
  tle : t ≤ bs.length
  cle : bs.length - t ≤ cr
  cm : cr ≤ 9223372036854775807
  c0 : ar = none → cr = 0
  row : Row w ar (bs.drop t)
  mem : ZMem w.heap.size wr D lim (bs.take t) z S
  sl : Sl wr 5 out g (vals z.out)
  new : ∀ k, g = some k → w.heap.size ≤ k ∧ ¬ S k
  be : Below w.heap.size w wr
def ZaPost (w : World) (bs : List Int) (lim : Int) (e : Ending) (w' : World) : Prop :=
  ∃ z S d v g A, e = .returned (.tuple #[v, .int .i64 z.er, .pointer (some ⟨d, 0, none⟩)]) ∧ ZMem w.heap.size w' d lim A z S ∧ A.length ≤ bs.length ∧ ZSays lim.toNat bs z ∧ Sl w' 5 v g (vals z.out) ∧ (∀ k, g = some k → w.heap.size ≤ k) ∧ Below w.heap.size w w'
section
variable {w : World} {bs : List Int} {lim : Int} {D t : Nat} {z : Zo} {S : Nat → Prop} {ar : Option Addr} {cr : Nat} {out : Value} {g : Option Nat} {wr : World}
theorem ZaR.push (h : ZaR w bs lim D t z S ar cr out g wr) (hby : Bytes bs) (hord : Ord w) (hlim : lim ≤ 1000000) (hlen : bs.length ≤ 100000000) (k : Nat) (hk : t + k ≤ bs.length) :
    Calls Tryz.prog 11 #[.pointer (some ⟨D, 0, none⟩), .slice ar k cr] wr fun e w' => ZuPost w.heap.size wr D lim (bs.take t ++ (bs.drop t).take k) z S e w' := by
  have hrw := h.row.take k
  refine zpush_any h.mem ((bs.drop t).take k) ar k cr (by rw [List.length_take, List.length_drop]; omega) (by have := h.cle; omega) h.cm h.c0 (hrw.old h.be) ((hby.drop t).take k) (hby.take t) ?_ (hord.below h.be hord.pos) h.be.size hord.pos hlim (by rw [List.length_take]; omega)
  intro x hx hne hS
  have h1 := hrw.lt x hx hne
  have h2 := (h.mem.2.1 _ hS).1
  omega
/-- A round. -/
theorem ZaR.step (h : ZaR w bs lim D t z S ar cr out g wr) {k : Nat} (hk : t + k ≤ bs.length) {z' : Zo} {S' : Nat → Prop} {w2 w3 : World} {v' : Value} {g' : Option Nat} (hm : ZMem w.heap.size w2 D lim (bs.take t ++ (bs.drop t).take k) z' S') (hpre : z.out <+: z'.out) (hS : ∀ k, S' k → S k ∨ wr.heap.size ≤ k) (hf : ZFrm wr w2 S)
    (hs3 : Sl w3 5 v' g' (vals (z.out ++ z'.out.drop z.out.length))) (hg3 : g' = g ∨ ∃ k, g' = some k ∧ w2.heap.size ≤ k) (hgr : w2.grownBy w3 g) :
    ZaR w bs lim D (t + k) z' S' (if cr = k then ar else Option.map (fun x => x.add k) ar) (cr - k) v' g' w3 := by
  have hgl : ∀ j, g = some j → j < wr.heap.size := fun j hj => h.sl.lt hj
  have hgS : ∀ j, g = some j → ¬ S' j := by
    intro j hj hS'
    rcases hS j hS' with e | e
    · exact (h.new j hj).2 e
    · have := hgl j hj; omega
  have hb2 : Below w.heap.size w w2 := ⟨hf.os.trans h.be.os, hf.tape.trans h.be.tape, hf.output.trans h.be.output, Nat.le_trans h.be.size hf.size, fun j hj => (hf.block j (by have := h.be.size; omega) (fun e => by have := (h.mem.2.1 j e).1; omega)).trans (h.be.block j hj)⟩
  have hm3 : ZMem w.heap.size w3 D lim (bs.take t ++ (bs.drop t).take k) z' S' := by
    refine hm.grow hgr fun j hj => ⟨hgS j hj, ?_⟩
    obtain ⟨c, e⟩ := h.sl.tag j hj
    exact ⟨c, (hf.block j (hgl j hj) (h.new j hj).2).trans e⟩
  rw [← List.take_add] at hm3
  refine ⟨hk, by have := h.cle; omega, by have := h.cm; omega, ?_, ?_, hm3, ?_, ?_, hb2.grown hgr hb2.size (fun j hj => (h.new j hj).1)⟩
  · intro e
    by_cases hc : cr = k
    · omega
    · rw [if_neg hc] at e
      cases ar with
      | none => have := h.c0 rfl; omega
      | some y => simp at e
  · have := h.row.cut k cr (by rw [List.length_drop]; omega) (by rw [List.length_drop]; exact h.cle)
    rwa [List.drop_drop] at this
  · obtain ⟨x, hx⟩ := hpre
    rw [← hx, List.drop_left, hx] at hs3
    exact hs3
  · intro j hj
    rcases hg3 with e | ⟨j', e, hj'⟩
    · exact ⟨(h.new j (by rw [← e, hj])).1, hgS j (by rw [← e, hj])⟩
    · rw [e] at hj; cases hj
      exact ⟨by have := hb2.size; omega, fun e2 => by have := (hm.2.1 _ e2).2; omega⟩
theorem ZaR.fin (h : ZaR w bs lim D t z S ar cr out g wr) (hby : Bytes bs) (he : z.er ≠ 0 ∨ t = bs.length) : ZaPost w bs lim (.returned (.tuple #[out, .int .i64 z.er, .pointer (some ⟨D, 0, none⟩)])) wr := by
  refine ⟨z, S, D, out, g, bs.take t, rfl, h.mem, by rw [List.length_take]; omega, ?_, h.sl, fun k hk => (h.new k hk).1, h.be⟩
  rcases he with he | he
  · have hk4 : z.k = 4 := by
      obtain ⟨_, _, _, _, now, vp, vk, sum, vr, gr, _, _, _, _, _, _, _, _, c9⟩ := h.mem
      exact c9.2 he
    have := h.mem.2.2.1.fail_more hk4 (bs.drop t) (hby.drop t)
    rwa [List.take_append_drop] at this
  · have := h.mem.2.2.1
    rwa [he, List.take_length] at this
end
end Go.Proofs.YtloagniacjfkfaaGreatDoor
/- zlib: bytes pushed in pieces, the law's own loop, walked. -/
namespace Go.Proofs.YtloagniacjfkfaaGreatDoor
open Go.RowKit
theorem zer_cases (z : Zo) : z.er = 0 ∨ ((z.er == 0) = false ∧ ¬ z.er = 0) := by
  by_cases e : z.er = 0
  · exact .inl e
  · exact .inr ⟨by simpa using e, e⟩
set_option maxHeartbeats 3200000 in
set_option maxRecDepth 20000 in
theorem zall_any (a : Option Addr) (m cap : Nat) (bs : List Int) (N : Nat) (lim : Int) (w : World) (hm : bs.length = m) (hrow : Row w a bs) (hby : Bytes bs) (hc : m ≤ cap) (hcap : cap ≤ 9223372036854775807) (hnone : a = none → cap = 0) (hlen : m ≤ 1000000) (hlim : lim ≤ 1000000) (hN1 : 1 ≤ N) (hord : Ord w) :
    Calls Tryz.prog 18 #[.slice a m cap, .int .i64 N, .int .i64 lim] w fun e w' => ZaPost w bs lim e w' := by
  have HO : Hid (Ord w ∧ Bytes bs ∧ bs.length = m) := ⟨hord, hby, hm⟩
  have HR : Hid (Row w a bs ∧ (a = none → cap = 0)) := ⟨hrow, hnone⟩
  have HV : Hid (Value.slice a m cap = .slice a (bs.length - 0) cap) := by show _ = _; rw [hm]; rfl
  clear hord hby hrow hnone hm
  go_enter Tryz.func18, Tryz.ntmps18
  go_wp2_with fail
  refine (znew_any lim w).mono ?_
  rintro e w1 ⟨rfl, hd, hb1⟩
  have HA : Hid (ZaR w bs lim w.heap.size 0 ⟨0, [], 0, []⟩ (fun k => k = w.heap.size) a cap (.slice none 0 0) none w1) := ⟨Nat.zero_le _, by have := HO.out; omega, hcap, HR.out.2, by simpa using HR.out.1, by simpa using hd, Sl.nil _ _, (fun k hk => by cases hk), hb1⟩
  clear hd hb1 HR
  obtain ⟨D, hD⟩ : ∃ D, w.heap.size = D := ⟨_, rfl⟩
  rw [hD] at HA ⊢
  clear hD
  go_wp2
  go_loopg [0, 10, 11, 12, 13] bs.length (fun fu b out _ _ _ wr => ∃ (t : Nat) (z : Zo) (S : Nat → Prop) (ar : Option Addr) (cr : Nat) (g : Option Nat), t + fu = bs.length ∧ (1 ≤ fu ∨ t = 0) ∧ Hid (b = .slice ar (bs.length - t) cr) ∧ Hid (ZaR w bs lim D t z S ar cr out g wr))
  case atStart => exact ⟨0, _, _, a, cap, none, by omega, .inr rfl, HV.out, HA.out⟩
  case round =>
    clear HA HV
    obtain ⟨t, z, S, ar, cr, g, ht, ht0, HB, HX⟩ := hrel
    obtain ⟨M, hM⟩ : ∃ M, bs.length - t = M := ⟨_, rfl⟩
    rw [HB.out, hM]
    have HM : Hid (bs.length - t = M ∧ t + gk = bs.length ∧ (1 ≤ gk ∨ t = 0)) := ⟨hM, ht, ht0⟩
    have hMc : M ≤ cr := by have := HX.out.cle; omega
    have hcr2 := HX.out.cm
    obtain ⟨ao, co, hv, -⟩ := HX.out.sl.shape
    rw [vals_len] at hv
    have HSl : Hid (Sl wr 5 (.slice ao z.out.length co) g (vals z.out)) := by have := HX.out.sl; rw [hv] at this; exact this
    have hzl : z.out.length ≤ 1000000 := by have := HX.out.mem.2.2.1.le; omega
    rw [hv]
    clear hM HB ht ht0 hv
    go_upto_region 3 with fail
    go_cut [11] (fun v wx => wx = wr ∧ ∃ K : Nat, v = .int .i64 K ∧ K ≤ M ∧ (K = M ∨ K = N))
    case first =>
      rcases (show (N : Int) < (M : Int) ∨ M < N ∨ N = M by omega) with hlt | hlt | hlt
      · go_wp2
        go_meet
        exact ⟨rfl, N, rfl, by omega, .inr rfl⟩
      · have hlt2 : (M : Int) < (N : Int) := by omega
        go_wp2
        go_meet
        exact ⟨rfl, M, rfl, by omega, .inl rfl⟩
      · subst hlt
        go_wp2
        go_meet
        exact ⟨rfl, N, rfl, by omega, .inl rfl⟩
    case rest =>
      obtain ⟨hwc, K, rfl, hKM, hKo⟩ := hcut
      rw [hwc]
      clear hwc wc
      have C1 := HX.out.push HO.out.2.1 HO.out.1 hlim (by have := HO.out; omega) K (by have := HM.out; have := HX.out.tle; omega)
      have HKK : Hid (K ≤ M ∧ (K = M ∨ K = N)) := ⟨hKM, hKo⟩
      have hKMi : (K : Int) ≤ (M : Int) := by omega
      have hKci : (K : Int) ≤ (cr : Int) := by omega
      have hKc : K ≤ cr := by omega
      clear hKo
      go_wp2_with fail
      refine C1.mono ?_
      rintro e w2 ⟨z', S', tv, tg, rfl, hm2, hpre, hs2, hg2, hS2, hf2⟩
      obtain ⟨ax, cx, hv2, _, _, hx2⟩ := hs2.shape
      rw [vals_len] at hv2
      have hlz : (z'.out.drop z.out.length).length ≤ 1000000 := by rw [List.length_drop]; have := hm2.2.2.1.le; omega
      obtain ⟨Q, hQ⟩ : ∃ Q, (z'.out.drop z.out.length).length = Q := ⟨_, rfl⟩
      have HQ : Hid ((z'.out.drop z.out.length).length = Q) := hQ
      rw [hQ] at hv2 hlz
      subst hv2
      obtain ⟨P, hP⟩ : ∃ P, z.out.length = P := ⟨_, rfl⟩
      have HPP : Hid (z.out.length = P) := hP
      rw [hP] at hzl ⊢
      have HS2 : Hid (Row w2 ax (z'.out.drop z.out.length) ∧ (ax = none → cx = 0) ∧ Sl w2 5 (.slice ao P co) g (vals z.out)) := by
        have h1 := HSl.out
        rw [hP] at h1
        exact ⟨hs2.row rfl, hx2, h1.same fun k hk => hf2.block k (h1.lt hk) (HX.out.new k hk).2⟩
      have HN : Hid (∀ v7 g7 w7, Sl w7 5 v7 g7 (vals (z.out ++ z'.out.drop z.out.length)) → (g7 = g ∨ ∃ k, g7 = some k ∧ w2.heap.size ≤ k) → w2.grownBy w7 g → ZaR w bs lim D (t + K) z' S' (if cr = K then ar else Option.map (fun x => x.add K) ar) (cr - K) v7 g7 w7) :=
        fun v7 g7 w7 h1 h2 h3 => HX.out.step (by have := HM.out; have := HX.out.tle; omega) hm2 hpre hS2 hf2 h1 h2 h3
      have herr' := zer_cases z'
      obtain ⟨ER, hER⟩ : ∃ ER, z'.er = ER := ⟨_, rfl⟩
      have HER : Hid (z'.er = ER) := hER
      rw [hER] at herr' ⊢
      have HT : Hid (t ≤ bs.length) := HX.out.tle
      clear hm2 hpre hs2 hg2 hS2 hf2 hx2 C1 hER hQ hP HX HSl
      go_wp2
      have hcc : cr = K ∨ ¬ cr = K := by omega
      rcases hcc with hcK | hcK
      · obtain rfl : M = cr := by have := HKK.out; omega
        have HN' := HN.out
        rw [if_pos hcK] at HN'
        have HN2 : Hid (∀ v7 g7 w7, Sl w7 5 v7 g7 (vals (z.out ++ z'.out.drop z.out.length)) → (g7 = g ∨ ∃ k, g7 = some k ∧ w2.heap.size ≤ k) → w2.grownBy w7 g → ZaR w bs lim D (t + K) z' S' ar (M - K) v7 g7 w7) := HN'
        clear HN HN'
        subst hcK
        go_region_law (first
          | (refine step_more rfl _ _ rfl (.slice ao P co) g z.out rfl (HS2.out.2.2.same fun _ _ => rfl) ax Q cx (z'.out.drop z.out.length) rfl HS2.out.2.1 HQ.out (HS2.out.1.same fun _ _ _ => rfl) (by rw [HPP.out]; omega) ?_; intro v7 w7 g7 hs7 hg7 hgr7; obtain ⟨a7, c7, hv7, -⟩ := hs7.shape; generalize (vals (z.out ++ z'.out.drop z.out.length)).length = z7 at hv7; subst hv7)
          | fail)
        all_goals
          have HF : Hid (_) := HN2.out _ g7 w7 hs7 hg7 ⟨hgr7.os, hgr7.tape, hgr7.output, hgr7.size, hgr7.block⟩
          clear hs7 hg7 hgr7 HS2 HN2
          have HFF : Hid (ZaPost w bs lim (.returned (.tuple #[.slice a7 z7 c7, .int .i64 ER, .pointer (some ⟨D, 0, none⟩)])) w7) := by
            have := HF.out.fin HO.out.2.1 (.inr (by have := HM.out; have := HT.out; omega))
            rw [HER.out] at this
            exact this
          clear HF
          rcases herr' with he | ⟨he, hen⟩
          · rw [he] at HFF ⊢
            go_wp2
            all_goals
              go_ret3
              exact HFF.out
          · go_wp2
            all_goals
              go_ret3
              exact HFF.out
      · have hcKi : ¬ (cr : Int) = (K : Int) := by omega
        have HN' := HN.out
        rw [if_neg hcK] at HN'
        have HN2 : Hid (∀ v7 g7 w7, Sl w7 5 v7 g7 (vals (z.out ++ z'.out.drop z.out.length)) → (g7 = g ∨ ∃ k, g7 = some k ∧ w2.heap.size ≤ k) → w2.grownBy w7 g → ZaR w bs lim D (t + K) z' S' (Option.map (fun x => x.add K) ar) (cr - K) v7 g7 w7) := HN'
        clear HN HN'
        go_region_law (first
          | (refine step_more rfl _ _ rfl (.slice ao P co) g z.out rfl (HS2.out.2.2.same fun _ _ => rfl) ax Q cx (z'.out.drop z.out.length) rfl HS2.out.2.1 HQ.out (HS2.out.1.same fun _ _ _ => rfl) (by rw [HPP.out]; omega) ?_; intro v7 w7 g7 hs7 hg7 hgr7; obtain ⟨a7, c7, hv7, -⟩ := hs7.shape; generalize (vals (z.out ++ z'.out.drop z.out.length)).length = z7 at hv7; subst hv7)
          | fail)
        all_goals
          have HF : Hid (_) := HN2.out _ g7 w7 hs7 hg7 ⟨hgr7.os, hgr7.tape, hgr7.output, hgr7.size, hgr7.block⟩
          clear hs7 hg7 hgr7 HS2 HN2
          by_cases hKM2 : K = M
          · have HFF : Hid (ZaPost w bs lim (.returned (.tuple #[.slice a7 z7 c7, .int .i64 ER, .pointer (some ⟨D, 0, none⟩)])) w7) := by
              have := HF.out.fin HO.out.2.1 (.inr (by have := HM.out; have := HT.out; omega))
              rw [HER.out] at this
              exact this
            clear HF
            subst hKM2
            rcases herr' with he | ⟨he, hen⟩
            · rw [he] at HFF ⊢
              go_wp2
              all_goals
                go_ret3
                exact HFF.out
            · go_wp2
              all_goals
                go_ret3
                exact HFF.out
          · have hlt : (K : Int) < (M : Int) := by have := HKK.out; omega
            have hne : ¬ (M : Int) - (K : Int) = 0 := by omega
            have hMK : ¬ M - K = 0 := by omega
            rcases herr' with he | ⟨he, hen⟩
            · rw [he]
              go_wp2
              go_roundg (bs.length - (t + K))
              case rel => exact ⟨t + K, _, _, _, cr - K, g7, by have := HM.out; have := HKK.out; omega, .inl (by have := HM.out; have := HKK.out; omega), (by rw [show bs.length - (t + K) = M - K by have := HM.out; omega] : Value.slice (Option.map (fun x => x.add K) ar) (M - K) (cr - K) = .slice (Option.map (fun x => x.add K) ar) (bs.length - (t + K)) (cr - K)), HF.out⟩
              case measure => have := HM.out; have := HKK.out; omega
            · have HFF : Hid (ZaPost w bs lim (.returned (.tuple #[.slice a7 z7 c7, .int .i64 ER, .pointer (some ⟨D, 0, none⟩)])) w7) := by
                have := HF.out.fin HO.out.2.1 (.inl (by rw [HER.out]; simpa using he))
                rw [HER.out] at this
                exact this
              clear HF
              go_wp2
              all_goals
                go_ret3
                exact HFF.out
end Go.Proofs.YtloagniacjfkfaaGreatDoor
