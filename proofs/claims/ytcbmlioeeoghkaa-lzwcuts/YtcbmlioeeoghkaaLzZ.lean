/- LZW: bytes pushed in pieces: the law's own loop, walked. -/
import Derived.Test.YtcbmlioeeoghkaaLzY
namespace Go.Proofs.Ytcbmlioeeoghkaa
open Go.RowKit
theorem ler_cases (x : Int) : x = 0 ∨ ((x == 0) = false ∧ ¬ x = 0) := by
  by_cases e : x = 0
  · exact .inl e
  · exact .inr ⟨by simpa using e, e⟩
set_option maxHeartbeats 3200000 in
set_option maxRecDepth 20000 in
theorem lall_any (a : Option Addr) (m cap : Nat) (bs : List Int) (N L : Nat) (lim : Int) (w : World) (hL : 2 ≤ L ∧ L ≤ 8) (hm : bs.length = m) (hrow : Row w a bs) (hby : Bytes bs) (hc : m ≤ cap) (hcap : cap ≤ 9223372036854775807) (hnone : a = none → cap = 0) (hlen : m ≤ 200000000000000) (hrs : ∀ t, t ≤ bs.length → (lzO L lim.toNat (bs.take t)).k = 1 → (lzO L lim.toNat (bs.take t)).rest.length + (bs.length - t) ≤ 140737488351232) (hlim : lim ≤ 1000000) (hN1 : 1 ≤ N) (hN2 : N ≤ 900000) :
    Calls Try.prog 17 #[.slice a m cap, .int .i64 N, .int .i64 L, .int .i64 lim] w fun e w' => LaPost w bs L lim.toNat e w' := by
  have HO : Hid (Bytes bs ∧ bs.length = m ∧ lim.toNat ≤ 1000000) := ⟨hby, hm, by omega⟩
  have HR : Hid (Row w a bs ∧ (a = none → cap = 0)) := ⟨hrow, hnone⟩
  have HV : Hid (Value.slice a m cap = .slice a (bs.length - 0) cap) := by show _ = _; rw [hm]; rfl
  clear hby hrow hnone hm
  obtain ⟨n, hn⟩ : ∃ n, lim.toNat = n := ⟨_, rfl⟩
  rw [hn] at HO hrs ⊢
  have HRS : Hid (∀ t, t ≤ bs.length → (lzO L n (bs.take t)).k = 1 → (lzO L n (bs.take t)).rest.length + (bs.length - t) ≤ 140737488351232) := hrs
  clear hrs
  go_enter Try.func17, Try.ntmps17
  go_wp2_with fail
  refine (lnew_yes hL lim (by omega) w).mono ?_
  rintro e w1 ⟨S, rfl, hd, hb1⟩
  rw [hn] at hd
  have HA : Hid (LaR w bs L n w.heap.size 0 S a cap (.slice none 0 0) none w1) := by
    have e := lzO_nil hL.2 n
    exact ⟨Nat.zero_le _, by have := HO.out; omega, hcap, HR.out.2, by simpa using HR.out.1, by rw [List.take_zero, e]; exact hd, by rw [List.take_zero, e]; exact Sl.nil _ _, (fun k hk => by cases hk), hb1⟩
  clear hd hb1 HR hn
  obtain ⟨D, hD⟩ : ∃ D, w.heap.size = D := ⟨_, rfl⟩
  rw [hD] at HA ⊢
  clear hD
  go_wp2
  go_loopg [0, 12, 13, 14, 15] bs.length (fun fu b out _ _ _ wr => ∃ (t : Nat) (S : Nat → Prop) (ar : Option Addr) (cr : Nat) (g : Option Nat), t + fu = bs.length ∧ (1 ≤ fu ∨ t = 0) ∧ Hid (b = .slice ar (bs.length - t) cr) ∧ Hid (LaR w bs L n D t S ar cr out g wr))
  case atStart => exact ⟨0, S, a, cap, none, by omega, .inr rfl, HV.out, HA.out⟩
  case round =>
    clear HA HV
    obtain ⟨t, S, ar, cr, g, ht, ht0, HB, HX⟩ := hrel
    obtain ⟨M, hM⟩ : ∃ M, bs.length - t = M := ⟨_, rfl⟩
    rw [HB.out, hM]
    have HM : Hid (bs.length - t = M ∧ t + gk = bs.length ∧ (1 ≤ gk ∨ t = 0)) := ⟨hM, ht, ht0⟩
    have hMc : M ≤ cr := by have := HX.out.cle; omega
    have hcr2 := HX.out.cm
    obtain ⟨ao, co, hv, -⟩ := HX.out.sl.shape
    rw [vals_len] at hv
    have hzl : (lzO L n (bs.take t)).out.length ≤ 1000000 := by have := lzO_out hL.2 n (bs.take t); have := HO.out; omega
    have HSl : Hid (Sl wr 5 (.slice ao (lzO L n (bs.take t)).out.length co) g (vals (lzO L n (bs.take t)).out)) := by have := HX.out.sl; rw [hv] at this; exact this
    rw [hv]
    clear hM HB ht ht0 hv
    obtain ⟨O, hO⟩ : ∃ O, (lzO L n (bs.take t)).out = O := ⟨_, rfl⟩
    have HOo : Hid ((lzO L n (bs.take t)).out = O) := hO
    rw [hO] at HSl hzl ⊢
    clear hO
    go_upto_region 3 with fail
    go_cut [13] (fun v wx => wx = wr ∧ ∃ K : Nat, v = .int .i64 K ∧ K ≤ M ∧ (K = M ∨ K = N) ∧ K ≤ N)
    case first =>
      rcases (show (N : Int) < (M : Int) ∨ M < N ∨ N = M by omega) with hlt | hlt | hlt
      · go_wp2
        go_meet
        exact ⟨rfl, N, rfl, by omega, .inr rfl, Nat.le_refl _⟩
      · have hlt2 : (M : Int) < (N : Int) := by omega
        go_wp2
        go_meet
        exact ⟨rfl, M, rfl, by omega, .inl rfl, by omega⟩
      · subst hlt
        go_wp2
        go_meet
        exact ⟨rfl, N, rfl, by omega, .inl rfl, Nat.le_refl _⟩
    case rest =>
      obtain ⟨hwc, K, rfl, hKM, hKo, hKN⟩ := hcut
      rw [hwc]
      clear hwc wc
      have C1 := HX.out.push hL HO.out.1 HRS.out K (by have := HM.out; have := HX.out.tle; omega) (by omega)
      have HKK : Hid (K ≤ M ∧ (K = M ∨ K = N)) := ⟨hKM, hKo⟩
      have hKMi : (K : Int) ≤ (M : Int) := by omega
      have hKci : (K : Int) ≤ (cr : Int) := by omega
      have hKc : K ≤ cr := by omega
      clear hKo
      go_wp2_with fail
      refine C1.mono ?_
      rintro e w2 ⟨z', S', T, tv, tg, rfl, hz', hT, hm2, hs2, hg2, hS2, hf2⟩
      have hzz : z' = lzO L n (bs.take (t + K)) := by rw [hz', lzO_more hL.2, ← List.take_add]
      rw [hzz] at hT hm2 ⊢
      rw [HOo.out] at hT
      obtain ⟨ax, cx, hv2, _, _, hx2⟩ := hs2.shape
      rw [vals_len] at hv2
      have hlz : T.length ≤ 1000000 := by
        have h1 := lzO_out hL.2 n (bs.take (t + K))
        have h2 := HO.out
        rw [hT, List.length_append] at h1; omega
      obtain ⟨Q, hQ⟩ : ∃ Q, T.length = Q := ⟨_, rfl⟩
      have HQ : Hid (T.length = Q) := hQ
      rw [hQ] at hv2 hlz
      subst hv2
      obtain ⟨P, hP⟩ : ∃ P, O.length = P := ⟨_, rfl⟩
      have HPP : Hid (O.length = P) := hP
      rw [hP] at hzl ⊢
      have HS2 : Hid (Row w2 ax T ∧ (ax = none → cx = 0) ∧ Sl w2 5 (.slice ao P co) g (vals O)) := by
        have h1 := HSl.out
        rw [hP] at h1
        exact ⟨hs2.row rfl, hx2, h1.same fun k hk => hf2.block k (h1.lt hk) (HX.out.new k hk).2⟩
      have HN : Hid (∀ v7 g7 w7, Sl w7 5 v7 g7 (vals (O ++ T)) → (g7 = g ∨ ∃ k, g7 = some k ∧ w2.heap.size ≤ k) → w2.grownBy w7 g → LaR w bs L n D (t + K) S' (if cr = K then ar else Option.map (fun x => x.add K) ar) (cr - K) v7 g7 w7) :=
        fun v7 g7 w7 h1 h2 h3 => HX.out.step (by have := HM.out; have := HX.out.tle; omega) hm2 (by rw [HOo.out]; exact hT) hS2 hf2 (by rw [HOo.out]; exact h1) h2 h3
      have herr' := ler_cases (lzO L n (bs.take (t + K))).er
      obtain ⟨ER, hER⟩ : ∃ ER, (lzO L n (bs.take (t + K))).er = ER := ⟨_, rfl⟩
      have HER : Hid ((lzO L n (bs.take (t + K))).er = ER) := hER
      rw [hER] at herr' ⊢
      have HT : Hid (t ≤ bs.length) := HX.out.tle
      clear hm2 hT hs2 hg2 hS2 hf2 hx2 C1 hER hQ hP HX HSl hz' hzz
      go_wp2
      have hcc : cr = K ∨ ¬ cr = K := by omega
      rcases hcc with hcK | hcK
      · obtain rfl : M = cr := by have := HKK.out; omega
        have HN' := HN.out
        rw [if_pos hcK] at HN'
        have HN2 : Hid (∀ v7 g7 w7, Sl w7 5 v7 g7 (vals (O ++ T)) → (g7 = g ∨ ∃ k, g7 = some k ∧ w2.heap.size ≤ k) → w2.grownBy w7 g → LaR w bs L n D (t + K) S' ar (M - K) v7 g7 w7) := HN'
        clear HN HN'
        subst hcK
        go_region_law (first
          | (refine step_more rfl _ _ rfl (.slice ao P co) g O rfl (HS2.out.2.2.same fun _ _ => rfl) ax Q cx T rfl HS2.out.2.1 HQ.out (HS2.out.1.same fun _ _ _ => rfl) (by rw [HPP.out]; omega) ?_; intro v7 w7 g7 hs7 hg7 hgr7; obtain ⟨a7, c7, hv7, -⟩ := hs7.shape; generalize (vals (O ++ T)).length = z7 at hv7; subst hv7)
          | fail)
        all_goals
          have HF : Hid (_) := HN2.out _ g7 w7 hs7 hg7 ⟨hgr7.os, hgr7.tape, hgr7.output, hgr7.size, hgr7.block⟩
          clear hs7 hg7 hgr7 HS2 HN2
          have HFF : Hid (LaPost w bs L n (.returned (.tuple #[.slice a7 z7 c7, .int .i64 ER, .pointer (some ⟨D, 0, none⟩)])) w7) := by
            have := HF.out.fin hL (.inr (by have := HM.out; have := HT.out; omega))
            rw [HER.out] at this
            exact this
          clear HF
          rcases herr' with he | ⟨he, hen⟩
          · rw [he] at HFF ⊢
            go_wp2
            all_goals
              go_ret3
              exact HFF.out
          · go_wp2
            all_goals
              go_ret3
              exact HFF.out
      · have hcKi : ¬ (cr : Int) = (K : Int) := by omega
        have HN' := HN.out
        rw [if_neg hcK] at HN'
        have HN2 : Hid (∀ v7 g7 w7, Sl w7 5 v7 g7 (vals (O ++ T)) → (g7 = g ∨ ∃ k, g7 = some k ∧ w2.heap.size ≤ k) → w2.grownBy w7 g → LaR w bs L n D (t + K) S' (Option.map (fun x => x.add K) ar) (cr - K) v7 g7 w7) := HN'
        clear HN HN'
        go_region_law (first
          | (refine step_more rfl _ _ rfl (.slice ao P co) g O rfl (HS2.out.2.2.same fun _ _ => rfl) ax Q cx T rfl HS2.out.2.1 HQ.out (HS2.out.1.same fun _ _ _ => rfl) (by rw [HPP.out]; omega) ?_; intro v7 w7 g7 hs7 hg7 hgr7; obtain ⟨a7, c7, hv7, -⟩ := hs7.shape; generalize (vals (O ++ T)).length = z7 at hv7; subst hv7)
          | fail)
        all_goals
          have HF : Hid (_) := HN2.out _ g7 w7 hs7 hg7 ⟨hgr7.os, hgr7.tape, hgr7.output, hgr7.size, hgr7.block⟩
          clear hs7 hg7 hgr7 HS2 HN2
          by_cases hKM2 : K = M
          · have HFF : Hid (LaPost w bs L n (.returned (.tuple #[.slice a7 z7 c7, .int .i64 ER, .pointer (some ⟨D, 0, none⟩)])) w7) := by
              have := HF.out.fin hL (.inr (by have := HM.out; have := HT.out; omega))
              rw [HER.out] at this
              exact this
            clear HF
            subst hKM2
            rcases herr' with he | ⟨he, hen⟩
            · rw [he] at HFF ⊢
              go_wp2
              all_goals
                go_ret3
                exact HFF.out
            · go_wp2
              all_goals
                go_ret3
                exact HFF.out
          · have hlt : (K : Int) < (M : Int) := by have := HKK.out; omega
            have hne : ¬ (M : Int) - (K : Int) = 0 := by omega
            have hMK : ¬ M - K = 0 := by omega
            rcases herr' with he | ⟨he, hen⟩
            · rw [he]
              go_wp2
              go_roundg (bs.length - (t + K))
              case rel => exact ⟨t + K, _, _, cr - K, g7, by have := HM.out; have := HKK.out; omega, .inl (by have := HM.out; have := HKK.out; omega), (by rw [show bs.length - (t + K) = M - K by have := HM.out; omega] : Value.slice (Option.map (fun x => x.add K) ar) (M - K) (cr - K) = .slice (Option.map (fun x => x.add K) ar) (bs.length - (t + K)) (cr - K)), HF.out⟩
              case measure => have := HM.out; have := HKK.out; omega
            · have HFF : Hid (LaPost w bs L n (.returned (.tuple #[.slice a7 z7 c7, .int .i64 ER, .pointer (some ⟨D, 0, none⟩)])) w7) := by
                have := HF.out.fin hL (.inl (by rw [HER.out]; simpa using he))
                rw [HER.out] at this
                exact this
              clear HF
              go_wp2
              all_goals
                go_ret3
                exact HFF.out
end Go.Proofs.Ytcbmlioeeoghkaa
