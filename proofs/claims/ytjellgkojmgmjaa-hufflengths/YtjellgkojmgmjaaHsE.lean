/- The library's merge in place, the great case: a search from both sides, a change-over, two lesser merges. -/
import Derived.Test.YtjellgkojmgmjaaHsC
namespace Go.Proofs.Ytjellgkojmgmjaa
open Go.RowKit

/-- The merge's promise for ranges of less than N. -/
def SymC (blk cap : Nat) (d0 : Array Pv) (w0 : World) (N : Nat) : Prop := ∀ (a m b : Nat) (d : Array Pv) (w : World), d0.size = d.size → SWK Pv.enc 2 w0 blk 0 d w → a < m → m < b → b ≤ d.size → b - a < N → StR d a m → StR d m b →
    Calls Try.prog 55 #[.slice (some ⟨blk, 0, none⟩) d.size cap, .int .i64 a, .int .i64 m, .int .i64 b, .func (.func 48) #[] #[]] w fun e w' =>
      e = .returned (.tuple #[]) ∧ ∃ e', Mrg d e' a b ∧ SWK Pv.enc 2 w0 blk 0 e' w'
theorem sym_of {d : Array Pv} {a m b mid s0 r0 s : Nat} (h0 : s0 = a ∨ s0 + b = mid + m) (h1 : r0 = m ∨ r0 = mid) (h2 : a ≤ s0) (h3 : s0 ≤ s) (h4 : s ≤ r0) (h5 : r0 ≤ m) (h6 : r0 ≤ mid) (h7 : mid + m ≤ s0 + b)
    (lo : ∀ c, s0 ≤ c → c < s → d[c]!.wt ≤ d[mid + m - 1 - c]!.wt) (hi : ∀ c, s ≤ c → c < r0 → d[mid + m - 1 - c]!.wt ≤ d[c]!.wt) : Sym d a m b mid s := by
  refine ⟨by omega, by omega, by omega, by omega, ?_, ?_⟩
  · by_cases h : s = s0
    · omega
    · have := lo (s - 1) (by omega) (by omega)
      rw [show mid + m - 1 - (s - 1) = mid + m - s by omega] at this
      exact Or.inr (Or.inr this)
  · by_cases h : s = r0
    · omega
    · have := hi s (Nat.le_refl _) (by omega)
      rw [show mid + m - 1 - s = mid + m - s - 1 by omega] at this
      exact Or.inr (Or.inr this)
theorem sym_join {d e1 e2 e3 : Array Pv} {a m b mid s : Nat} (Y : Sym d a m b mid s) (hm : a < m) (hb : m < b) (h1 : a ≤ mid) (h2 : mid < b) (hz : b ≤ d.size) (hR1 : StR d a m) (hR2 : StR d m b) (P1 : Sort.PermIn s (mid + m - s) d e1) (T1 : ∀ t, e1[t]! = rotAt d s m (mid + m - s) t) (M1 : Mrg e1 e2 a mid) (M2 : Mrg e2 e3 mid b) : Mrg d e3 a b := by
  have X := (sym_halves Y hm hb h2 hR1 hR2 T1).2.2.2.2
  have hz1 : e1.size = d.size := P1.1
  obtain ⟨p, r⟩ := mrg_halves h1 (by omega) (by omega) X M1 M2
  exact ⟨Sort.permIn_trans _ _ _ _ _ (Sort.permIn_mono _ _ _ _ _ _ Y.h1 Y.h4 hz P1) p, r⟩
theorem mrg_self {d : Array Pv} {a b : Nat} (h : StR d a b) : Mrg d d a b := ⟨Sort.permIn_refl _ _ _, h⟩
set_option maxHeartbeats 16000000 in
set_option maxRecDepth 1000000 in
theorem sym_main1 (blk cap a m b N : Nat) (d0 d : Array Pv) (w0 w : World) (R : RowK Pv.enc 2 w0 blk 0 d0) (hs : d0.size = d.size) (S : SWK Pv.enc 2 w0 blk 0 d w) (ha : a + 1 < m) (hb : m + 1 < b) (hz : b ≤ d.size) (hsz : d.size ≤ 1000000) (hR1 : StR d a m) (hR2 : StR d m b) (IH : SymC blk cap d0 w0 N) (hN : b - a ≤ N) (hc0 : (a + b) / 2 < m) :
    Calls Try.prog 55 #[.slice (some ⟨blk, 0, none⟩) d.size cap, .int .i64 a, .int .i64 m, .int .i64 b, .func (.func 48) #[] #[]] w fun e w' =>
      e = .returned (.tuple #[]) ∧ ∃ e', Mrg d e' a b ∧ SWK Pv.enc 2 w0 blk 0 e' w' := by
  have mixed : Try.prog.follows .mixedOrders = true := by kernel_rfl
  have S0 : Aside (SWK Pv.enc 2 w0 blk 0 d w) := S
  have HR : Aside (RowK Pv.enc 2 w0 blk 0 d0) := R
  have HI : Hid (SymC blk cap d0 w0 N) := IH
  have HS1 : Hid (StR d a m) := hR1
  have HS2 : Hid (StR d m b) := hR2
  have q0 : ((m : Int) - (a : Int) == 1) = false := by rw [beq_eq_false_iff_ne]; omega
  have q1 : ((b : Int) - (m : Int) == 1) = false := by rw [beq_eq_false_iff_ne]; omega
  obtain ⟨mid, hmid⟩ : ∃ x : Nat, x = (a + b) / 2 := ⟨_, rfl⟩
  rw [← hmid] at hc0
  have em : ((a : Int) + (b : Int)) / 2 = (mid : Int) := by omega
  have hm1 : a + 1 < mid := by omega
  have hm2 : mid + 1 < b := by omega
  have hm3 : 2 * mid ≤ a + b := by omega
  have hm4 : a + b ≤ 2 * mid + 1 := by omega
  clear hmid
  obtain ⟨n, hn⟩ : ∃ x : Nat, x = mid + m := ⟨_, rfl⟩
  have en : (mid : Int) + (m : Int) = (n : Int) := by omega
  have hn1 : mid + m ≤ n := by omega
  have hn2 : n ≤ mid + m := by omega
  clear hn
  obtain ⟨p, hp⟩ : ∃ x : Nat, x + 1 = n := ⟨n - 1, by omega⟩
  have ep : (n : Int) - 1 = (p : Int) := by omega
  have hp1 : p + 1 ≤ n := by omega
  have hp2 : n ≤ p + 1 := by omega
  clear hp
  have cm : (mid : Int) < (m : Int) := by omega
  obtain ⟨s0, hs0⟩ : ∃ x : Nat, x + b = n := ⟨n - b, by omega⟩
  have es : (n : Int) - (b : Int) = (s0 : Int) := by omega
  have k1 : n ≤ s0 + b := by omega
  have k2 : s0 + b ≤ n := by omega
  have k3 : a ≤ s0 := by omega
  have k4 : s0 ≤ mid := by omega
  clear hs0
  clear S R hR1 hR2 IH
  go_enter Try.func55, Try.ntmps55
  go_wp2
  go_loopw [20, 21] (fun vi vj wr => ∃ s r : Nat, vi = .int .i64 s ∧ vj = .int .i64 r ∧ s0 ≤ s ∧ s ≤ r ∧ r ≤ mid ∧ Aside (SWK Pv.enc 2 w0 blk 0 d wr) ∧ Hid (∀ c, s0 ≤ c → c < s → d[c]!.wt ≤ d[p - c]!.wt) ∧ Hid (∀ c, r ≤ c → c < mid → d[p - c]!.wt ≤ d[c]!.wt)) (fun vi vj _ => (intOf vj).toNat - (intOf vi).toNat)
  case atStart => exact ⟨s0, mid, rfl, rfl, Nat.le_refl _, by omega, Nat.le_refl _, S0, fun t h1 h2 => absurd h2 (by omega), fun t h1 h2 => absurd h2 (by omega)⟩
  case round =>
    clear S0
    obtain ⟨s, r, rfl, rfl, hi, hij, hj, SK, HL, HH⟩ := hrel
    by_cases hlt : s < r
    · obtain ⟨c, hh⟩ : ∃ c : Nat, c = (s + r) / 2 := ⟨_, rfl⟩
      have hh1 : s ≤ c := by omega
      have hh2 : c < r := by omega
      have eh : ((s : Int) + (r : Int)) / 2 = (c : Int) := by omega
      clear hh
      obtain ⟨u, hu⟩ : ∃ u : Nat, u + c = p := ⟨p - c, by omega⟩
      have eu : (p : Int) - (c : Int) = (u : Int) := by omega
      have hu1 : u < b := by omega
      have hu2 : m ≤ u := by omega
      have HU : Hid (u + c = p) := hu
      clear hu
      have ea : ((u : Int)).toNat = u := by omega
      have pa : (0 : Int) ≤ (u : Int) := by omega
      have ba : (u : Int) < (d.size : Int) := by omega
      have ra : IntKind.i64.wrap ((u : Int)) = (u : Int) := by rw [IntKind.wrap_i64]; omega
      have ec : ((c : Int)).toNat = c := by omega
      have pc : (0 : Int) ≤ (c : Int) := by omega
      have bc : (c : Int) < (d.size : Int) := by omega
      have rc : IntKind.i64.wrap ((c : Int)) = (c : Int) := by rw [IntKind.wrap_i64]; omega
      obtain ⟨c1, c2⟩ := pv_grown HR.out SK.out (by omega) u (by omega)
      obtain ⟨c3, c4⟩ := pv_grown HR.out SK.out (by omega) c (by omega)
      have hc := cmp_grown wr d[u]! d[c]!
      have HV : Hid (cmpW d[u]! d[c]! < 0 ↔ d[u]!.wt < d[c]!.wt) := cmpW_lt _ _
      generalize cmpW d[u]! d[c]! = V at hc HV
      obtain ⟨x, hx⟩ : ∃ x, x = d[u]! := ⟨_, rfl⟩
      obtain ⟨y, hy⟩ : ∃ y, y = d[c]! := ⟨_, rfl⟩
      rw [← hx] at c1 c2 hc
      rw [← hy] at c3 c4 hc
      clear hx hy
      by_cases hv : V < 0
      · have hd : decide (V < 0) = true := decide_eq_true hv
        go_wp2
        go_quiet_grown (first | (go_at_call 48; refine Calls.grown_of (hc _ _)))
        have SV : Aside (SWK Pv.enc 2 w0 blk 0 d (Sort.grow (wr.drewN nq) osq)) := SK.out.grown nq osq
        clear c1 c2 c3 c4 hc SK
        generalize Sort.grow (wr.drewN nq) osq = wv at SV ⊢
        clear nq osq
        go_wp2
        go_roundw
        case rel =>
          have hl := HV.out.1 hv
          have hu := HU.out
          refine ⟨s, c, rfl, rfl, hi, hh1, by omega, SV, HL, fun t h1 h2 => ?_⟩
          have g1 := stR_le HS1.out c t (by omega) h1 (by omega)
          have g2 := stR_le HS2.out (p - t) u (by omega) (by omega) (by omega)
          omega
        case measure => simp [intOf]; omega
      · have hd : decide (V < 0) = false := decide_eq_false hv
        go_wp2
        go_quiet_grown (first | (go_at_call 48; refine Calls.grown_of (hc _ _)))
        have SV : Aside (SWK Pv.enc 2 w0 blk 0 d (Sort.grow (wr.drewN nq) osq)) := SK.out.grown nq osq
        clear c1 c2 c3 c4 hc SK
        generalize Sort.grow (wr.drewN nq) osq = wv at SV ⊢
        clear nq osq
        go_wp2
        go_roundw
        case rel =>
          have hl : ¬ d[u]!.wt < d[c]!.wt := fun g => by have := HV.out.2 g; omega
          have hu := HU.out
          refine ⟨c + 1, r, by go_num, rfl, by omega, by omega, hj, SV, fun t h1 h2 => ?_, HH⟩
          have g1 := stR_le HS1.out t c (by omega) (by omega) (by omega)
          have g2 := stR_le HS2.out u (p - t) (by omega) (by omega) (by omega)
          omega
        case measure => simp [intOf]; omega
    · obtain rfl : s = r := by omega
      have hpn : p = mid + m - 1 := by omega
      have HY : Hid (Sym d a m b mid s) := sym_of (s0 := s0) (r0 := mid) (Or.inr (by omega)) (Or.inr rfl) (by omega) hi hj (by omega) (by omega) (by omega) (by rw [← hpn]; exact HL.out) (by rw [← hpn]; exact HH.out)
      clear HL HH hpn
      obtain ⟨E, hE⟩ : ∃ E : Nat, E + s = n := ⟨n - s, by omega⟩
      have eE : (n : Int) - (s : Int) = (E : Int) := by omega
      have hE1 : E + s ≤ n := by omega
      have hE2 : n ≤ E + s := by omega
      have hE3 : E ≤ b := by omega
      have hE4 : m ≤ E := by omega
      have HE : Hid (E = mid + m - s) := (by omega : E = mid + m - s)
      clear hE hlt
      have g1 : (s : Int) < (m : Int) := by omega
      have g2 : (mid : Int) < (E : Int) := by omega
      by_cases b1 : s < mid
      · have b1z : (s : Int) < (mid : Int) := by omega
        have g3 : (m : Int) < (E : Int) := by omega
        by_cases b2 : a < s
        · have b2z : (a : Int) < (s : Int) := by omega
          by_cases b3 : E < b
          · have b3z : (E : Int) < (b : Int) := by omega
            have C1 := rotate_any blk cap s m E d0 d w0 wr HR.out hs SK.out (by omega) (by omega) (by omega) hsz
            go_wp2_with (go_at_call 56; with_reducible refine C1.mono ?_; rintro e w1 ⟨rfl, e1, P1, T1, S1⟩)
            clear C1 SK
            have HP1 : Hid (Sort.PermIn s E d e1) := P1
            have HT1 : Hid (∀ t, e1[t]! = rotAt d s m E t) := T1
            have S1 : Aside (SWK Pv.enc 2 w0 blk 0 e1 w1) := S1
            clear P1 T1
            have z1 : e1.size = d.size := HP1.out.1
            have Q : Hid _ := sym_halves HY.out (by omega) (by omega) (by omega) HS1.out HS2.out (by rw [← HE.out]; exact HT1.out)
            have C2 := HI.out a s mid e1 w1 (by omega) S1.out (by omega) (by omega) (by omega) (by omega) Q.out.1 Q.out.2.1
            rw [z1] at C2
            go_wp2_with (go_at_call 55; with_reducible refine C2.mono ?_; rintro e w2 ⟨rfl, e2, M1, S2⟩)
            clear C2 S1
            have HM1 : Hid (Mrg e1 e2 a mid) := M1
            have S2 : Aside (SWK Pv.enc 2 w0 blk 0 e2 w2) := S2
            clear M1
            have z2 : e2.size = d.size := HM1.out.1.1.trans z1
            have Q3 : Hid (StR e2 mid E) := stR_congr (by rw [HE.out]; exact Q.out.2.2.1) fun t h1 _ => HM1.out.1.2.1 t (Or.inr h1)
            have Q4 : Hid (StR e2 E b) := stR_congr (by rw [HE.out]; exact Q.out.2.2.2.1) fun t h1 _ => HM1.out.1.2.1 t (Or.inr (by omega))
            have C3 := HI.out mid E b e2 w2 (by omega) S2.out (by omega) (by omega) (by omega) (by omega) Q3.out Q4.out
            rw [z2] at C3
            go_wp2_with (go_at_call 55; with_reducible refine C3.mono ?_; rintro e w3 ⟨rfl, e3, M2, S3⟩)
            go_end0
            exact ⟨rfl, e3, sym_join HY.out (by omega) (by omega) (by omega) (by omega) hz HS1.out HS2.out (by rw [← HE.out]; exact HP1.out) (by rw [← HE.out]; exact HT1.out) HM1.out M2, S3⟩
          · have b3z : ¬ (E : Int) < (b : Int) := by omega
            have C1 := rotate_any blk cap s m E d0 d w0 wr HR.out hs SK.out (by omega) (by omega) (by omega) hsz
            go_wp2_with (go_at_call 56; with_reducible refine C1.mono ?_; rintro e w1 ⟨rfl, e1, P1, T1, S1⟩)
            clear C1 SK
            have HP1 : Hid (Sort.PermIn s E d e1) := P1
            have HT1 : Hid (∀ t, e1[t]! = rotAt d s m E t) := T1
            have S1 : Aside (SWK Pv.enc 2 w0 blk 0 e1 w1) := S1
            clear P1 T1
            have z1 : e1.size = d.size := HP1.out.1
            have Q : Hid _ := sym_halves HY.out (by omega) (by omega) (by omega) HS1.out HS2.out (by rw [← HE.out]; exact HT1.out)
            have C2 := HI.out a s mid e1 w1 (by omega) S1.out (by omega) (by omega) (by omega) (by omega) Q.out.1 Q.out.2.1
            rw [z1] at C2
            go_wp2_with (go_at_call 55; with_reducible refine C2.mono ?_; rintro e w2 ⟨rfl, e2, M1, S2⟩)
            clear C2 S1
            have HM1 : Hid (Mrg e1 e2 a mid) := M1
            have S2 : Aside (SWK Pv.enc 2 w0 blk 0 e2 w2) := S2
            clear M1
            have z2 : e2.size = d.size := HM1.out.1.1.trans z1
            have Q3 : Hid (StR e2 mid E) := stR_congr (by rw [HE.out]; exact Q.out.2.2.1) fun t h1 _ => HM1.out.1.2.1 t (Or.inr h1)
            have Q4 : Hid (StR e2 E b) := stR_congr (by rw [HE.out]; exact Q.out.2.2.2.1) fun t h1 _ => HM1.out.1.2.1 t (Or.inr (by omega))
            go_wp2
            go_end0
            refine ⟨rfl, e2, sym_join HY.out (by omega) (by omega) (by omega) (by omega) hz HS1.out HS2.out (by rw [← HE.out]; exact HP1.out) (by rw [← HE.out]; exact HT1.out) HM1.out (mrg_self (by have := Q3.out; rwa [show E = b by omega] at this)), S2.out⟩
        · have b2z : ¬ (a : Int) < (s : Int) := by omega
          by_cases b3 : E < b
          · have b3z : (E : Int) < (b : Int) := by omega
            have C1 := rotate_any blk cap s m E d0 d w0 wr HR.out hs SK.out (by omega) (by omega) (by omega) hsz
            go_wp2_with (go_at_call 56; with_reducible refine C1.mono ?_; rintro e w1 ⟨rfl, e1, P1, T1, S1⟩)
            clear C1 SK
            have HP1 : Hid (Sort.PermIn s E d e1) := P1
            have HT1 : Hid (∀ t, e1[t]! = rotAt d s m E t) := T1
            have S1 : Aside (SWK Pv.enc 2 w0 blk 0 e1 w1) := S1
            clear P1 T1
            have z1 : e1.size = d.size := HP1.out.1
            have Q : Hid _ := sym_halves HY.out (by omega) (by omega) (by omega) HS1.out HS2.out (by rw [← HE.out]; exact HT1.out)
            obtain ⟨e2, he2⟩ : ∃ x : Array Pv, x = e1 := ⟨_, rfl⟩
            have HM1 : Hid (Mrg e1 e2 a mid) := by rw [he2]; exact mrg_self (by have := Q.out.2.1; rwa [show s = a by omega] at this)
            have S2 : Aside (SWK Pv.enc 2 w0 blk 0 e2 w1) := by rw [he2]; exact S1
            clear S1 he2
            have z2 : e2.size = d.size := HM1.out.1.1.trans z1
            have Q3 : Hid (StR e2 mid E) := stR_congr (by rw [HE.out]; exact Q.out.2.2.1) fun t h1 _ => HM1.out.1.2.1 t (Or.inr h1)
            have Q4 : Hid (StR e2 E b) := stR_congr (by rw [HE.out]; exact Q.out.2.2.2.1) fun t h1 _ => HM1.out.1.2.1 t (Or.inr (by omega))
            have C3 := HI.out mid E b e2 w1 (by omega) S2.out (by omega) (by omega) (by omega) (by omega) Q3.out Q4.out
            rw [z2] at C3
            go_wp2_with (go_at_call 55; with_reducible refine C3.mono ?_; rintro e w3 ⟨rfl, e3, M2, S3⟩)
            go_end0
            exact ⟨rfl, e3, sym_join HY.out (by omega) (by omega) (by omega) (by omega) hz HS1.out HS2.out (by rw [← HE.out]; exact HP1.out) (by rw [← HE.out]; exact HT1.out) HM1.out M2, S3⟩
          · have b3z : ¬ (E : Int) < (b : Int) := by omega
            have C1 := rotate_any blk cap s m E d0 d w0 wr HR.out hs SK.out (by omega) (by omega) (by omega) hsz
            go_wp2_with (go_at_call 56; with_reducible refine C1.mono ?_; rintro e w1 ⟨rfl, e1, P1, T1, S1⟩)
            clear C1 SK
            have HP1 : Hid (Sort.PermIn s E d e1) := P1
            have HT1 : Hid (∀ t, e1[t]! = rotAt d s m E t) := T1
            have S1 : Aside (SWK Pv.enc 2 w0 blk 0 e1 w1) := S1
            clear P1 T1
            have z1 : e1.size = d.size := HP1.out.1
            have Q : Hid _ := sym_halves HY.out (by omega) (by omega) (by omega) HS1.out HS2.out (by rw [← HE.out]; exact HT1.out)
            obtain ⟨e2, he2⟩ : ∃ x : Array Pv, x = e1 := ⟨_, rfl⟩
            have HM1 : Hid (Mrg e1 e2 a mid) := by rw [he2]; exact mrg_self (by have := Q.out.2.1; rwa [show s = a by omega] at this)
            have S2 : Aside (SWK Pv.enc 2 w0 blk 0 e2 w1) := by rw [he2]; exact S1
            clear S1 he2
            have z2 : e2.size = d.size := HM1.out.1.1.trans z1
            have Q3 : Hid (StR e2 mid E) := stR_congr (by rw [HE.out]; exact Q.out.2.2.1) fun t h1 _ => HM1.out.1.2.1 t (Or.inr h1)
            have Q4 : Hid (StR e2 E b) := stR_congr (by rw [HE.out]; exact Q.out.2.2.2.1) fun t h1 _ => HM1.out.1.2.1 t (Or.inr (by omega))
            go_wp2
            go_end0
            refine ⟨rfl, e2, sym_join HY.out (by omega) (by omega) (by omega) (by omega) hz HS1.out HS2.out (by rw [← HE.out]; exact HP1.out) (by rw [← HE.out]; exact HT1.out) HM1.out (mrg_self (by have := Q3.out; rwa [show E = b by omega] at this)), S2.out⟩
      · have b1z : ¬ (s : Int) < (mid : Int) := by omega
        have g3 : ¬ (m : Int) < (E : Int) := by omega
        have b2z : (a : Int) < (s : Int) := by omega
        have b3z : (E : Int) < (b : Int) := by omega
        obtain ⟨e1, he1⟩ : ∃ x : Array Pv, x = d := ⟨_, rfl⟩
        have HP1 : Hid (Sort.PermIn s E d e1) := by rw [he1]; exact Sort.permIn_refl _ _ _
        have HT1 : Hid (∀ t, e1[t]! = rotAt d s m E t) := by rw [he1]; exact fun t => (rotAt_none d (by omega) (by omega) (by omega) t).symm
        have S1 : Aside (SWK Pv.enc 2 w0 blk 0 e1 wr) := by rw [he1]; exact SK
        clear SK he1
        have z1 : e1.size = d.size := HP1.out.1
        have Q : Hid _ := sym_halves HY.out (by omega) (by omega) (by omega) HS1.out HS2.out (by rw [← HE.out]; exact HT1.out)
        obtain ⟨e2, he2⟩ : ∃ x : Array Pv, x = e1 := ⟨_, rfl⟩
        have HM1 : Hid (Mrg e1 e2 a mid) := by rw [he2]; exact mrg_self (by have := Q.out.1; rwa [show s = mid by omega] at this)
        have S2 : Aside (SWK Pv.enc 2 w0 blk 0 e2 wr) := by rw [he2]; exact S1
        clear S1 he2
        have z2 : e2.size = d.size := HM1.out.1.1.trans z1
        have Q3 : Hid (StR e2 mid E) := stR_congr (by rw [HE.out]; exact Q.out.2.2.1) fun t h1 _ => HM1.out.1.2.1 t (Or.inr h1)
        have Q4 : Hid (StR e2 E b) := stR_congr (by rw [HE.out]; exact Q.out.2.2.2.1) fun t h1 _ => HM1.out.1.2.1 t (Or.inr (by omega))
        have C3 := HI.out mid E b e2 wr (by omega) S2.out (by omega) (by omega) (by omega) (by omega) Q3.out Q4.out
        rw [z2] at C3
        go_wp2_with (go_at_call 55; with_reducible refine C3.mono ?_; rintro e w3 ⟨rfl, e3, M2, S3⟩)
        go_end0
        exact ⟨rfl, e3, sym_join HY.out (by omega) (by omega) (by omega) (by omega) hz HS1.out HS2.out (by rw [← HE.out]; exact HP1.out) (by rw [← HE.out]; exact HT1.out) HM1.out M2, S3⟩
end Go.Proofs.Ytjellgkojmgmjaa
