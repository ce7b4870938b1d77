/- The document's symbols of a block. -/
import Derived.Test.YtloagniacjfkfaaGreatDoorTF
namespace Go.Proofs.YtloagniacjfkfaaGreatDoor
open Go.RowKit
/-- Between two symbols; W is the world in which the words were made. -/
def SyRel (W : World) (r : Nat) (gb go gq : Option Nat) (limI : Int) (dn : Bool) (s : St) (l : List Int) (ns1 ns2 : List Nat) (fu : Nat) (wr : World) : Prop :=
  ∃ go' B' out' E', RunAt wr r gb go' gq B' out' limI E' dn ∧ out'.length ≤ limI.toNat ∧ Bit B' ∧ B'.length ≤ 1000000 ∧ Fr W wr r go ∧ (go' = go ∨ ∃ k, go' = some k ∧ W.heap.size ≤ k) ∧ (E' = 0 → B'.length + 1 ≤ fu) ∧
    (E' = 0 → ∃ s1 : St, s1.now = 7 ∧ s1.la = some ns1 ∧ s1.da = some ns2 ∧ s1.out = out' ∧ s1.last = s.last ∧ Sub limI.toNat s l s1 B') ∧ (E' ≠ 0 → Says limI.toNat s l s.last E' out' B')
/-- Between two bytes of a copy. -/
def CyRel (W : World) (r : Nat) (gb go gq : Option Nat) (limI : Int) (dn : Bool) (s : St) (l : List Int) (far L : Nat) (E7 : Int) (B5 out0 : List Int) (t : Nat) (wr : World) : Prop :=
  ∃ go' out' E', RunAt wr r gb go' gq B5 out' limI E' dn ∧ out'.length ≤ limI.toNat ∧ Fr W wr r go ∧ (go' = go ∨ ∃ k, go' = some k ∧ W.heap.size ≤ k) ∧
    (E' = 0 → E7 = 0 ∧ far ≤ out'.length ∧ cpy limI.toNat far L out0 = cpy limI.toNat far (L - t) out') ∧ (E' ≠ 0 → Says limI.toNat s l s.last E' out' B5)
theorem SyRel.post {W : World} {r : Nat} {gb go gq go' : Option Nat} {limI : Int} {dn : Bool} {s : St} {l : List Int} {wr : World} {B' out' : List Int} {E' : Int} (h1 : RunAt wr r gb go' gq B' out' limI E' dn) (h2 : Says limI.toNat s l s.last E' out' B') (h3 : out'.length ≤ limI.toNat) (h4 : Bit B') (h5 : B'.length ≤ 1000000) (h6 : Fr W wr r go) (h7 : go' = go ∨ ∃ k, go' = some k ∧ W.heap.size ≤ k) : BkPost W r gb go gq limI dn s l (.returned (.tuple #[])) wr :=
  ⟨rfl, go', B', out', E', h1, h2, h3, h4, h5, h6, h7⟩
/-- Another call's work behind the frame. -/
theorem Fr.more {W wr w' : World} {r : Nat} {go go' : Option Nat} (h : Fr W wr r go) (hg : go' = go ∨ ∃ k, go' = some k ∧ W.heap.size ≤ k) (h' : Fr wr w' r go') : Fr W w' r go := by
  rcases hg with e | ⟨j, e, hj⟩
  · rw [e] at h'; exact h.trans h' (.inl rfl)
  · exact h.trans h' (.inr ⟨j, e, hj⟩)
theorem Fr.none {wr w' : World} {r : Nat} {go : Option Nat} (h : Fr wr w' r none) : Fr wr w' r go := ⟨h.os, h.tape, h.output, h.size, fun j hj h1 _ => h.block j hj h1 (by simp)⟩
section
variable {w : World} {r : Nat} {gb go gq : Option Nat} {B out : List Int} {lim : Int} {dn : Bool}
set_option maxHeartbeats 6400000 in
set_option maxRecDepth 20000 in
theorem rsymbols_any (s : St) (ns1 ns2 : List Nat) (a1 a2 : Option Addr) (n1 c1 n2 c2 : Nat) (h7 : s.now = 7) (hla : s.la = some ns1) (hda : s.da = some ns2) (ho : s.out = out) (hol : out.length ≤ lim.toNat) (hll : lim ≤ 1000000) (hB : Bit B) (hl : B.length ≤ 100000) (hc1 : Cd ns1) (hc2 : Cd ns2) (hn1 : ns1.length = n1) (hn2 : ns2.length = n2) (hr1 : IRow w a1 (ints ns1)) (hr2 : IRow w a2 (ints ns2)) (h : RunAt w r gb go gq B out lim 0 dn) :
    Calls Tryz.prog 48 #[.pointer (some ⟨r, 0, none⟩), .slice a1 n1 c1, .slice a2 n2 c2] w fun e w' => BkPost w r gb go gq lim dn s B e w' := by
  have HR : Hid (RunAt w r gb go gq B out lim 0 dn) := h
  have HC : Hid (Cd ns1 ∧ Cd ns2 ∧ IRow w a2 (ints ns2) ∧ ns2.length = n2 ∧ Bit B) := ⟨hc1, hc2, hr2, hn2, hB⟩
  have HW1 := words_any a1 n1 c1 ns1 w hn1 hc1 hr1
  clear h hr1 hr2 hc1 hc2 hn1 hn2 hB
  go_enter Tryz.func48, Tryz.ntmps48
  go_wp2_with fail
  refine HW1.mono ?_
  rintro e w1 ⟨v1, xs1, rfl, q1, p1, b1⟩
  have HW2 := words_any a2 n2 c2 ns2 w1 HC.out.2.2.2.1 HC.out.2.1 (HC.out.2.2.1.old b1)
  have H1 : Hid (QRow w1 w.heap.size v1 xs1 ∧ PS w1 xs1 (wds ns1) ∧ Below w.heap.size w w1) := ⟨q1, p1, b1⟩
  clear HW1 q1 p1 b1
  go_wp2_with fail
  refine HW2.mono ?_
  rintro e W ⟨v2, xs2, rfl, q2, p2, b2⟩
  have HQ : Hid (QRow W w.heap.size v1 xs1 ∧ PS W xs1 (wds ns1) ∧ QRow W w1.heap.size v2 xs2 ∧ PS W xs2 (wds ns2) ∧ Below w.heap.size w W) := ⟨H1.out.1.kept b2, PS.old H1.out.2.1 b2, q2, p2, H1.out.2.2.trans (b2.mono H1.out.2.2.size)⟩
  have HRW : Hid (RunAt W r gb go gq B out lim 0 dn) := HR.out.old HQ.out.2.2.2.2
  have HS0 : Hid (SyRel W r gb go gq lim dn s B ns1 ns2 (B.length + 1) W) := ⟨go, B, out, 0, HRW.out, hol, HC.out.2.2.2.2, by omega, Fr.refl _ _ _, .inl rfl, fun _ => Nat.le_refl _, fun _ => ⟨s, h7, hla, hda, ho, rfl, Sub.refl _ _ _⟩, fun e => absurd rfl e⟩
  have HPW : Hid (∀ w', BkPost W r gb go gq lim dn s B (.returned (.tuple #[])) w' → BkPost w r gb go gq lim dn s B (.returned (.tuple #[])) w') := by
    rintro w' ⟨_, go', B', out', E', k1, k2, k3, k4, k5, k6, k7⟩
    have hb := HQ.out.2.2.2.2
    refine ⟨rfl, go', B', out', E', k1, k2, k3, k4, k5, (Fr.of_heap hb).trans k6 (.inl rfl), ?_⟩
    rcases k7 with e | ⟨j, e, hj⟩
    · exact .inl e
    · exact .inr ⟨j, e, Nat.le_trans hb.size hj⟩
  clear HW2 q2 p2 b2 H1 HR
  obtain ⟨ad1, cp1, hv1⟩ := HQ.out.1.shape
  obtain ⟨ad2, cp2, hv2⟩ := HQ.out.2.2.1.shape
  generalize xs1.length = X1 at hv1
  generalize xs2.length = X2 at hv2
  subst hv1 hv2
  go_wp2
  go_loopg [8, 9, 10, 11, 12, 13, 14] (B.length + 1) (fun fu _ _ _ _ _ _ _ wr => Hid (SyRel W r gb go gq lim dn s B ns1 ns2 fu wr))
  case atStart => exact HS0.out
  case round =>
    clear HS0
    obtain ⟨go', B', out', E', ra, hol', hb', hl', hfr, hgo, hfu, hgoes, hsays⟩ := hrel
    have k4 := ra.cE
    have HA : Hid (RunAt wr r gb go' gq B' out' lim E' dn ∧ out'.length ≤ lim.toNat ∧ Bit B' ∧ B'.length ≤ 1000000 ∧ Fr W wr r go ∧ (go' = go ∨ ∃ k, go' = some k ∧ W.heap.size ≤ k)) := ⟨ra, hol', hb', hl', hfr, hgo⟩
    by_cases hE : E' = 0
    · subst hE
      obtain ⟨s1, g7, gla, gda, gout, glast, gsub⟩ := hgoes rfl
      have hfu := hfu rfl
      have hq1 := words_fr HQ.out.1 HQ.out.2.1 HRW.out hfr
      have HN := rnext_any ns1 _ _ xs1 HC.out.1 hq1.1 hq1.2 hb' hl' ra
      have HI := item_next (lim := lim.toNat) g7 gla B'
      have hnn := nxL_nonneg ns1 B'
      have hnl := nxL_len ns1 B'
      have hnp := nxL_pos ns1 B'
      have en : nxR 0 ns1 B' = ((nxL ns1 B').1, B'.drop (nxL ns1 B').2.2, (nxL ns1 B').2.1) := by unfold nxR; rw [if_neg (by decide)]
      rw [en] at HN
      generalize nxL ns1 B' = T at HN HI hnn hnl hnp
      obtain ⟨S, er, n⟩ := T
      simp only at HN HI hnn hnl hnp
      have HIH : Hid _ := HI
      have HSB : Hid (s1.now = 7 ∧ s1.la = some ns1 ∧ s1.da = some ns2 ∧ s1.out = out' ∧ s1.last = s.last ∧ Sub lim.toNat s B s1 B') := ⟨g7, gla, gda, gout, glast, gsub⟩
      clear ra hfr hgo hgoes hsays hq1 HI en g7 gla gda gout glast gsub
      go_wp2_with fail
      refine HN.mono ?_
      rintro e w3 ⟨rfl, a3, f3⟩
      simp only at a3
      have q4 := a3.cE
      have HA3 : Hid (RunAt w3 r gb go' gq (B'.drop n) out' lim er dn ∧ Fr W w3 r go) := ⟨a3, HA.out.2.2.2.2.1.trans (Fr.none f3) (.inl rfl)⟩
      clear HN a3 f3 k4
      by_cases her : er = 0
      · subst her
        obtain ⟨j1, j2, j3, j4, j5⟩ := HIH.out.2.2 rfl
        have hn1' := hnp rfl
        have HJ : Hid ((S < 256 → s1.out.length = lim.toNat → item lim.toNat s1 B' = .bad 9 s1.out) ∧ (S < 256 → s1.out.length ≠ lim.toNat → item lim.toNat s1 B' = .ok { s1 with out := s1.out ++ [S] } n) ∧ (S = 256 → item lim.toNat s1 B' = endB s1 B' n) ∧ (285 < S → item lim.toNat s1 B' = .bad 6 s1.out) ∧ (256 < S → S ≤ 285 → item lim.toNat s1 B' = .ok { s1 with least := (cLen S.toNat).1, nb := (cLen S.toNat).2, now := 8 } n)) := ⟨j1, j2, j3, j4, j5⟩
        have hd10 : s1.now ≤ 10 := by rw [HSB.out.1]; decide
        clear j1 j2 j3 j4 j5 HIH
        rcases (show S = 256 ∨ S < 256 ∨ 285 < S ∨ (256 < S ∧ S ≤ 285) by omega) with hS | hS | hS | ⟨hS, hS'⟩
        · subst hS
          have HP : Hid (BkPost w r gb go gq lim dn s B (.returned (.tuple #[])) w3) := by
            refine HPW.out w3 (SyRel.post HA3.out.1 ?_ HA.out.2.1 (HA.out.2.2.1.drop n) (by rw [List.length_drop]; have := HA.out.2.2.2.1; omega) HA3.out.2 HA.out.2.2.2.2.2)
            have := Says.ends HSB.out.2.2.2.2.2 hd10 s1 (HJ.out.2.2.1 rfl) HSB.out.2.2.2.1
            rw [HSB.out.2.2.2.2.1] at this
            exact this
          clear HA HA3 HSB HJ
          go_wp2
          refine bodyPost_ret (results_none rfl _ _ _) rfl ?_
          exact HP.out
        · have hSb : (S == 256) = false := by simp; omega
          have hcw : IntKind.u8.wrap S = S := by rw [IntKind.wrap_u8]; omega
          have HTL := rtell_any S (by have := HA.out.2.1; omega) HA3.out.1
          go_wp2_with fail
          refine HTL.mono ?_
          rintro e w4 ⟨rfl, go4, a4, f4, hg4⟩
          have HE : Hid (SyRel W r gb go gq lim dn s B ns1 ns2 (B'.length - n + 1) w4) := by
            have hgo4 : go4 = go ∨ ∃ j, go4 = some j ∧ W.heap.size ≤ j := by
              rcases hg4 with e | ⟨j, e, hj⟩
              · rw [e]; exact HA.out.2.2.2.2.2
              · exact .inr ⟨j, e, Nat.le_trans HA3.out.2.size hj⟩
            have hfr4 := HA3.out.2.more HA.out.2.2.2.2.2 f4
            by_cases hf : lim ≤ (out'.length : Int)
            · have e9 : tlR lim 0 out' S = (out', 9) := by unfold tlR; rw [if_neg (by decide), if_pos hf]
              rw [e9] at a4
              refine ⟨go4, B'.drop n, out', 9, a4, HA.out.2.1, HA.out.2.2.1.drop n, by rw [List.length_drop]; have := HA.out.2.2.2.1; omega, hfr4, hgo4, (fun e => by cases e), (fun e => by cases e), fun _ => ?_⟩
              have hful : s1.out.length = lim.toNat := by rw [HSB.out.2.2.2.1]; have := HA.out.2.1; have := (lim_iff lim out'.length).1 hf; omega
              have hi := HJ.out.1 hS hful
              rw [HSB.out.2.2.2.1] at hi
              exact HSB.out.2.2.2.2.2.bad hd10 hi (by decide) (by decide)
            · have e0 : tlR lim 0 out' S = (out' ++ [S], 0) := by unfold tlR; rw [if_neg (by decide), if_neg hf]
              rw [e0] at a4
              have hnf : s1.out.length ≠ lim.toNat := by rw [HSB.out.2.2.2.1]; intro e; exact hf ((lim_iff lim out'.length).2 (by omega))
              have hi := HJ.out.2.1 hS hnf
              refine ⟨go4, B'.drop n, out' ++ [S], 0, a4, ?_, HA.out.2.2.1.drop n, by rw [List.length_drop]; have := HA.out.2.2.2.1; omega, hfr4, hgo4, fun _ => by rw [List.length_drop]; exact Nat.le_refl _, fun _ => ⟨{ s1 with out := s1.out ++ [S] }, HSB.out.1, HSB.out.2.1, HSB.out.2.2.1, ?_, HSB.out.2.2.2.2.1, HSB.out.2.2.2.2.2.ok hd10 hi⟩, fun e => absurd rfl e⟩
              · rw [List.length_append, List.length_singleton]
                have := HA.out.2.1
                rw [HSB.out.2.2.2.1] at hnf
                omega
              · show s1.out ++ [S] = _
                rw [HSB.out.2.2.2.1]
          clear HTL a4 f4 hg4 HA HA3 HSB HJ q4
          go_wp2
          go_roundg (B'.length - n + 1)
          case rel => exact HE.out
          case measure => omega
        · have hSb : (S == 256) = false := by simp; omega
          have hSl : ¬ S < 256 := by omega
          have HFa := rfail_any true 6 HA3.out.1
          rw [show flE 0 true 6 = 6 from rfl] at HFa
          go_wp2_with fail
          refine HFa.mono ?_
          rintro e w4 ⟨rfl, a4, f4, _⟩
          have q44 := a4.cE
          have HP : Hid (BkPost w r gb go gq lim dn s B (.returned (.tuple #[])) w4) := by
            refine HPW.out w4 (SyRel.post a4 ?_ HA.out.2.1 (HA.out.2.2.1.drop n) (by rw [List.length_drop]; have := HA.out.2.2.2.1; omega) (HA3.out.2.trans (Fr.none f4) (.inl rfl)) HA.out.2.2.2.2.2)
            have hi := HJ.out.2.2.2.1 hS
            rw [HSB.out.2.2.2.1] at hi
            exact HSB.out.2.2.2.2.2.bad hd10 hi (by decide) (by decide)
          clear HFa a4 f4 HA HA3 HSB HJ q4
          go_wp2
          refine bodyPost_ret (results_none rfl _ _ _) rfl ?_
          exact HP.out
        · have hSb : (S == 256) = false := by simp; omega
          have hSl : ¬ S < 256 := by omega
          have hS5 : decide (285 < S) = false := by simp; omega
          have hSl' : decide (S < 256) = false := by simp; omega
          obtain ⟨m, hm⟩ : ∃ m : Nat, S = ((m + 257 : Nat) : Int) := ⟨S.toNat - 257, by omega⟩
          have hm28 : m ≤ 28 := by omega
          have hmi : S - 257 = (m : Int) := by omega
          have hSt : S.toNat = m + 257 := by omega
          obtain ⟨lv, hlv⟩ : ∃ lv, (cLen (m + 257)).1 = lv := ⟨_, rfl⟩
          obtain ⟨ln, hln⟩ : ∃ ln, (cLen (m + 257)).2 = ln := ⟨_, rfl⟩
          have hcb := cLen_bound (m + 257) (by omega) (by omega)
          rw [hlv, hln] at hcb
          have HLN : Hid (∀ k, Calls Tryz.prog 74 #[.int .i64 m] k fun e w' => e = .returned (.tuple #[.int .i64 lv, .int .i64 ln]) ∧ ∃ j, w' = k.drewN j) := fun k => by
            have := length_any m k hm28
            rw [hlv, hln] at this
            exact this
          have hi2 := HJ.out.2.2.2.2 hS hS'
          rw [hSt, hlv, hln] at hi2
          have HS2 : Hid (Sub lim.toNat s B { s1 with least := lv, nb := ln, now := 8 } (B'.drop n)) := HSB.out.2.2.2.2.2.ok hd10 hi2
          have HFa := rfail_any false 6 HA3.out.1
          rw [show flE 0 false 6 = 0 from rfl] at HFa
          have HMM : Hid (S - 257 = (m : Int) ∧ (lv ≤ 258 ∧ ln ≤ 5) ∧ m ≤ 28) := ⟨hmi, hcb, hm28⟩
          clear hi2 HJ hlv hln hm hmi hcb hSt hm28 hS hS'
          go_wp2_with fail
          refine HFa.mono ?_
          rintro e w4 ⟨rfl, a4, f4, _⟩
          have q44 := a4.cE
          have HA4 : Hid (RunAt w4 r gb go' gq (B'.drop n) out' lim 0 dn ∧ Fr W w4 r go) := ⟨a4, HA3.out.2.trans (Fr.none f4) (.inl rfl)⟩
          have hmi := HMM.out.1
          have hm28 := HMM.out.2.2
          clear HFa a4 f4 q4 HA3
          go_wp2_with fail
          refine (HLN.out w4).mono ?_
          rintro e w5 ⟨rfl, j5, hw5⟩
          have HA5 : Hid (RunAt w5 r gb go' gq (B'.drop n) out' lim 0 dn ∧ Fr W w5 r go) := by
            rw [hw5]
            exact ⟨HA4.out.1.drewN j5, ⟨HA4.out.2.os, HA4.out.2.tape, HA4.out.2.output, HA4.out.2.size, HA4.out.2.block⟩⟩
          have hcb := HMM.out.2.1
          clear hw5 HA4 HLN q44 hmi
          have hb2 := HA.out.2.2.1.drop n
          obtain ⟨B2, hB2⟩ : ∃ B2, B'.drop n = B2 := ⟨_, rfl⟩
          have hl2 : B2.length = B'.length - n := by rw [← hB2, List.length_drop]
          rw [hB2] at HS2 HA5 hb2
          clear hB2
          have HTK := rtake_any ln (by omega) hb2 HA5.out.1
          obtain ⟨X, hX, hX32⟩ := tkR_small (E := 0) (k := 5) hb2 hcb.2
          have hb3 := tkR_bits (E := 0) (n := ln) hb2
          obtain ⟨o1, ho1⟩ : ∃ o1, tkR 0 B2 ln = o1 := ⟨_, rfl⟩
          have HO1 : Hid (tkR 0 B2 ln = o1) := ho1
          rw [ho1] at HTK hX hb3
          clear ho1
          obtain ⟨x1, B3, E3⟩ := o1
          simp only at hX hb3
          subst hX
          have hbnd : lv + X ≤ 300 := by have := hcb.1; have : (2:Nat) ^ 5 = 32 := rfl; omega
          clear hX32
          obtain ⟨L, hL⟩ : ∃ L, lv + X = L := ⟨_, rfl⟩
          have HL : Hid (lv + X = L) := hL
          have hLi : (lv : Int) + (X : Int) = (L : Int) := by omega
          rw [hL] at hbnd
          clear hL
          go_wp2_with fail
          refine HTK.mono ?_
          rintro e w6 ⟨rfl, a6, f6⟩
          simp only at a6
          have hfr6 := HA5.out.2.trans (Fr.none f6) (.inl rfl)
          have hq2 := words_fr HQ.out.2.2.1 HQ.out.2.2.2.1 HRW.out hfr6
          have HN2 := rnext_any ns2 _ _ xs2 HC.out.2.1 hq2.1 hq2.2 hb3.1 (by have := HA.out.2.2.2.1; omega) a6
          have HF6 : Hid (Fr W w6 r go) := hfr6
          have hb4 := nxR_bits (E := E3) (ns := ns2) hb3.1
          obtain ⟨o2, ho2⟩ : ∃ o2, nxR E3 ns2 B3 = o2 := ⟨_, rfl⟩
          have HO2 : Hid (nxR E3 ns2 B3 = o2) := ho2
          rw [ho2] at HN2 hb4
          clear ho2 HTK a6 f6 hfr6 hq2 HA5
          obtain ⟨T, B4, E4⟩ := o2
          simp only at hb4
          go_wp2_with fail
          refine HN2.mono ?_
          rintro e w7 ⟨rfl, a7, f7⟩
          simp only at a7
          obtain ⟨b29, hb29⟩ : ∃ b, decide (29 < T) = b := ⟨_, rfl⟩
          have HFb := rfail_any b29 6 a7
          obtain ⟨E5, hE5⟩ : ∃ E5, flE E4 b29 6 = E5 := ⟨_, rfl⟩
          have HLD : Hid _ := len_dist (last := s.last) (E5 := E5) HS2.out rfl HSB.out.2.2.1 HSB.out.2.2.2.1 HO1.out HO2.out (by rw [hb29]; exact hE5)
          rw [hE5] at HFb
          have HF7 : Hid (Fr W w7 r go) := HF6.out.trans (Fr.none f7) (.inl rfl)
          clear HN2 a7 f7 HF6 hE5 HO1 HO2
          go_wp2_with fail
          refine HFb.mono ?_
          rintro e w8 ⟨rfl, a8, f8, _⟩
          have q8 := a8.cE
          have HA8 : Hid (RunAt w8 r gb go' gq B4 out' lim E5 dn ∧ Fr W w8 r go) := ⟨a8, HF7.out.trans (Fr.none f8) (.inl rfl)⟩
          have hl4 : B4.length ≤ B'.length - n := by omega
          clear HFb a8 f8 HF7 hb29
          by_cases hE5 : E5 = 0
          · subst hE5
            obtain ⟨tm, htm, ht30, hs10⟩ := HLD.out.2 rfl
            have HS10 : Hid _ := hs10
            subst htm
            have hdb := dist_bound tm ht30
            obtain ⟨fd, hfd⟩ : ∃ fd, (sprd tm 2).1 + 1 = fd := ⟨_, rfl⟩
            obtain ⟨fm, hfm⟩ : ∃ fm, (sprd tm 2).2 = fm := ⟨_, rfl⟩
            have HDN : Hid (∀ k, Calls Tryz.prog 75 #[.int .i64 tm] k fun e w' => e = .returned (.tuple #[.int .i64 fd, .int .i64 fm]) ∧ ∃ j, w' = k.drewN j) := fun k => by
              have := distance_any tm k (by omega)
              rw [hfd, hfm] at this
              exact this
            rw [hfd, hfm] at hdb
            have hfd1 : 1 ≤ fd := by omega
            simp only [hfd, hfm] at HS10
            clear hs10 HLD hfd hfm HS2
            go_wp2_with fail
            refine (HDN.out w8).mono ?_
            rintro e w9 ⟨rfl, j9, hw9⟩
            have HA9 : Hid (RunAt w9 r gb go' gq B4 out' lim 0 dn ∧ Fr W w9 r go) := by
              rw [hw9]
              exact ⟨HA8.out.1.drewN j9, ⟨HA8.out.2.os, HA8.out.2.tape, HA8.out.2.output, HA8.out.2.size, HA8.out.2.block⟩⟩
            clear hw9 HA8 HDN q8
            have HTK2 := rtake_any fm (by omega) hb4.1 HA9.out.1
            obtain ⟨Y, hY, hY13⟩ := tkR_small (E := 0) (k := 13) hb4.1 hdb.2
            have hb5 := tkR_bits (E := 0) (n := fm) hb4.1
            obtain ⟨o3, ho3⟩ : ∃ o3, tkR 0 B4 fm = o3 := ⟨_, rfl⟩
            have HO3 : Hid (tkR 0 B4 fm = o3) := ho3
            rw [ho3] at HTK2 hY hb5
            clear ho3
            obtain ⟨y1, B5, E6⟩ := o3
            simp only at hY hb5
            subst hY
            have hfar : fd + Y ≤ 100000 := by have := hdb.1; have : (2:Nat) ^ 13 = 8192 := rfl; omega
            obtain ⟨far, hfr'⟩ : ∃ far, fd + Y = far := ⟨_, rfl⟩
            have hfi : (fd : Int) + (Y : Int) = (far : Int) := by omega
            clear hY13
            go_wp2_with fail
            refine HTK2.mono ?_
            rintro e w10 ⟨rfl, a10, f10⟩
            simp only at a10
            have hlen' : out'.length ≤ 1000000 := by have := HA.out.2.1; omega
            obtain ⟨bf, hbf⟩ : ∃ b, decide (out'.length < far) = b := ⟨_, rfl⟩
            have HFc := rfail_any bf 7 a10
            obtain ⟨E7, hE7⟩ : ∃ E7, flE E6 bf 7 = E7 := ⟨_, rfl⟩
            have HFC : Hid _ := far_copy (last := s.last) (E7 := E7) HS10.out rfl HSB.out.2.2.2.1 HO3.out hfi (by rw [hbf]; exact hE7)
            rw [hE7] at HFc
            obtain ⟨vb, vo, vk, all, ks, r1, r2, r3, r4, r5⟩ := id a10
            obtain ⟨ao, co, hv, hle, hcm, hnn'⟩ := r3.shape
            rw [vals_len] at hv hle
            subst hv
            have p2 := r1.cells.2.1
            have HF10 : Hid (Fr W w10 r go) := HA9.out.2.trans (Fr.none f10) (.inl rfl)
            clear HTK2 a10 f10 HA9 hE7 HO3 r1 r2 r3 r4 r5 HS10
            have hf1 : 1 ≤ far := by omega
            go_wp2_with fail
            refine HFc.mono ?_
            rintro e w11 ⟨rfl, a11, f11, _⟩
            have HFD : Hid (E7 = 0 → ∀ o, (cpy lim.toNat far L out' = (o, true) → ∃ s3 : St, s3.now = 7 ∧ s3.la = some ns1 ∧ s3.da = some ns2 ∧ s3.out = o ∧ s3.last = s.last ∧ Sub lim.toNat s B s3 B5) ∧ (cpy lim.toNat far L out' = (o, false) → Says lim.toNat s B s.last 9 o B5)) := by
              intro e o
              have h := (HFC.out.2 e).2 o
              have hLL : lv + (X : Int).toNat = L := HL.out
              simp only [hLL] at h
              exact ⟨fun hc => ⟨{ s1 with now := 7, out := o, least := fd, nb := fm, len := L }, rfl, HSB.out.2.1, HSB.out.2.2.1, rfl, HSB.out.2.2.2.2.1, h.1 hc⟩, fun hc => h.2 hc _⟩
            have z1 : Fr W w11 r go := HF10.out.trans (Fr.none f11) (.inl rfl)
            have z2 := HFC.out.1
            have z3 := HFC.out.2
            have z4 : E7 = 0 → E7 = 0 ∧ far ≤ out'.length ∧ cpy lim.toNat far L out' = cpy lim.toNat far (L - 0) out' := fun e => ⟨e, (z3 e).1, by rw [Nat.sub_zero]⟩
            have HC0 : Hid (CyRel W r gb go gq lim dn s B far L E7 B5 out' 0 w11) := ⟨go', out', E7, a11, HA.out.2.1, z1, HA.out.2.2.2.2.2, z4, fun e => z2 e _⟩
            clear HFc a11 f11 HF10 p2 hbf hle hcm hnn' hfr' hdb z1 z2 z3 z4 HFC HL
            go_wp2
            go_loopw [14] (fun i wr => ∃ t : Nat, t ≤ L ∧ i = .int .i64 t ∧ Hid (CyRel W r gb go gq lim dn s B far L E7 B5 out' t wr)) (fun i _ => L - (intOf i).toNat)
            case atStart => exact ⟨0, Nat.zero_le _, rfl, HC0.out⟩
            case round =>
              clear HC0
              obtain ⟨t, ht, rfl, HX⟩ := hrel
              obtain ⟨go2, out2, E2, ra2, hol2, hfr2, hgo2, h02, hn2⟩ := HX.out
              have k4 := ra2.cE
              clear HX
              by_cases hE2 : E2 = 0
              · subst hE2
                obtain ⟨h7, hfl, hcp⟩ := h02 rfl
                by_cases hlt : t < L
                · have hlti : (t : Int) < (L : Int) := by omega
                  obtain ⟨vb, vo, vk, all, ks, r1, r2, r3, r4, r5⟩ := id ra2
                  obtain ⟨ao, co, hv, hle, hcm, hnn'⟩ := r3.shape
                  rw [vals_len] at hv hle
                  subst hv
                  have p2 := r1.cells.2.1
                  obtain ⟨p, hp⟩ : ∃ p, out2.length - far = p := ⟨_, rfl⟩
                  have hpl : p < out2.length := by omega
                  obtain ⟨b, off, rfl, hcell⟩ : ∃ b off, ao = some ⟨b, off, none⟩ ∧ ∀ i, i < out2.length → wr.cell? ⟨b, off + i, none⟩ = some (.int .u8 (out2[i]?.getD 0)) := by
                    rcases r3.row rfl with h | h
                    · rw [h] at hpl; simp at hpl
                    · exact h
                  have kc := hcell p hpl
                  have HCS := cpy_step lim.toNat far (L - (t + 1)) out2 hfl lim rfl hol2
                  rw [hp] at HCS
                  obtain ⟨c, hc⟩ : ∃ c, out2[p]?.getD 0 = c := ⟨_, rfl⟩
                  rw [hc] at kc HCS
                  have hpi : (out2.length : Int) - (far : Int) = (p : Int) := by omega
                  have hlen2 : out2.length ≤ 1000000 := by omega
                  have hwp : IntKind.i64.wrap (p : Int) = (p : Int) := by rw [IntKind.wrap_i64]; omega
                  have hpl' : (0 : Int) ≤ (p : Int) ∧ (p : Int) < (out2.length : Int) := ⟨by omega, by omega⟩
                  have HTL : Hid (∀ n, Calls Tryz.prog 71 #[.pointer (some ⟨r, 0, none⟩), .int .u8 c] (wr.drewN n) fun e w' => TlPost (wr.drewN n) r gb go2 gq B5 lim dn (tlR lim 0 out2 c) e w') := fun n => rtell_any c hlen2 (ra2.drewN n)
                  have HE0 : Hid (∀ w12, TlPost (wr.drewN 1) r gb go2 gq B5 lim dn (tlR lim 0 out2 c) (.returned (.tuple #[])) w12 → CyRel W r gb go gq lim dn s B far L E7 B5 out' (t + 1) w12) := by
                    rintro w12 ⟨_, go4, a4, f4, hg4⟩
                    have hfr4 : Fr W w12 r go := hfr2.more hgo2 ⟨f4.os, f4.tape, f4.output, f4.size, f4.block⟩
                    have hgo4 : go4 = go ∨ ∃ j, go4 = some j ∧ W.heap.size ≤ j := by
                      rcases hg4 with e | ⟨j, e, hj⟩
                      · rw [e]; exact hgo2
                      · exact .inr ⟨j, e, Nat.le_trans hfr2.size hj⟩
                    by_cases h9 : (tlR lim 0 out2 c).2 = 0
                    · obtain ⟨e1, e2, e3⟩ := HCS.1 h9
                      exact ⟨go4, _, _, a4, e3, hfr4, hgo4, fun _ => ⟨h7, e2, by rw [hcp, show L - t = (L - (t + 1)) + 1 by omega, e1]⟩, fun e => absurd h9 e⟩
                    · obtain ⟨e1, e2⟩ := HCS.2 h9
                      rw [e2] at a4
                      refine ⟨go4, out2, 9, a4, hol2, hfr4, hgo4, (fun e => by cases e), fun _ => (HFD.out h7 out2).2 ?_⟩
                      rw [hcp, show L - t = (L - (t + 1)) + 1 by omega, e1]
                  clear r1 r2 r3 r4 r5 hcell HCS hc hp hpl ra2 hfr2 hgo2 h02 hn2 hcp hfl h7 hle hcm hnn' hol2
                  go_wp2
                  refine wp_region_still_tail 14 (by kernel_rfl) (by kernel_rfl) ?_
                  simp only [List.take_succ_cons, List.take_zero, List.drop_succ_cons, List.drop_zero]
                  rw [show ({ wr with drawn := wr.drawn + 1 } : World) = wr.drewN 1 from rfl]
                  iterate 12 still_step
                  with_reducible refine wpStill_step (fun K' hK' => ?_)
                  go_simp
                  refine hK' _ ?_
                  clear hK' K'
                  still_step
                  with_reducible refine wpStill_nil ?_
                  go_wp2_with fail
                  refine (HTL.out 1).mono ?_
                  rintro e w12 hpost
                  obtain rfl := hpost.1
                  have HE : Hid (CyRel W r gb go gq lim dn s B far L E7 B5 out' (t + 1) w12) := HE0.out w12 hpost
                  clear hpost HTL HE0 p2 kc k4
                  go_wp2
                  go_roundw
                  case rel => exact ⟨t + 1, by omega, by go_num, HE.out⟩
                  case measure => simp [intOf]; omega
                · have hlti : ¬ (t : Int) < (L : Int) := by omega
                  obtain rfl : t = L := by omega
                  have HE : Hid (SyRel W r gb go gq lim dn s B ns1 ns2 (B5.length + 1) wr) := by
                    refine ⟨go2, B5, out2, 0, ra2, hol2, hb5.1, by have := HA.out.2.2.2.1; omega, hfr2, hgo2, fun _ => Nat.le_refl _, fun _ => ?_, fun e => absurd rfl e⟩
                    refine (HFD.out h7 out2).1 ?_
                    rw [hcp, Nat.sub_self, cpy]
                  clear ra2 hfr2 hgo2 h02 hn2 hcp hfl h7 HA HFD HSB
                  go_wp2
                  go_roundg (B5.length + 1)
                  case rel => exact HE.out
                  case measure => omega
              · have hE2b : (E2 == 0) = false := by simpa using hE2
                have HE : Hid (SyRel W r gb go gq lim dn s B ns1 ns2 0 wr) := ⟨go2, B5, out2, E2, ra2, hol2, hb5.1, by have := HA.out.2.2.2.1; omega, hfr2, hgo2, fun e => absurd e hE2, fun e => absurd e hE2, fun _ => hn2 hE2⟩
                clear ra2 hfr2 hgo2 h02 hn2 HA HFD HSB
                by_cases hlt : t < L
                · have hlti : (t : Int) < (L : Int) := by omega
                  go_wp2
                  go_roundg 0
                  case rel => exact HE.out
                  case measure => omega
                · have hlti : ¬ (t : Int) < (L : Int) := by omega
                  go_wp2
                  go_roundg 0
                  case rel => exact HE.out
                  case measure => omega
          · have hE5b : (E5 == 0) = false := by simpa using hE5
            have HP : Hid (BkPost w r gb go gq lim dn s B (.returned (.tuple #[])) w8) := HPW.out w8 (SyRel.post HA8.out.1 (HLD.out.1 hE5 _) HA.out.2.1 hb4.1 (by have := HA.out.2.2.2.1; omega) HA8.out.2 HA.out.2.2.2.2.2)
            clear HA HA8 HSB HS2 HLD
            go_wp2
            refine bodyPost_ret (results_none rfl _ _ _) rfl ?_
            exact HP.out
      · have herb : (er == 0) = false := by simpa using her
        have HP : Hid (BkPost w r gb go gq lim dn s B (.returned (.tuple #[])) w3) := by
          refine HPW.out w3 (SyRel.post HA3.out.1 ?_ HA.out.2.1 (HA.out.2.2.1.drop n) (by rw [List.length_drop]; have := HA.out.2.2.2.1; omega) HA3.out.2 HA.out.2.2.2.2.2)
          by_cases h2 : er = 2
          · subst h2
            exact HSB.out.2.2.2.2.2.short (by rw [HSB.out.1]; decide) (HIH.out.1 rfl) HSB.out.2.2.2.1
          · have := HIH.out.2.1 h2 her
            rw [HSB.out.2.2.2.1] at this
            exact HSB.out.2.2.2.2.2.bad (by rw [HSB.out.1]; decide) this her h2
        clear HA HA3 HIH HSB
        go_wp2
        refine bodyPost_ret (results_none rfl _ _ _) rfl ?_
        exact HP.out
    · have hEb : (E' == 0) = false := by simpa using hE
      have HP : Hid (BkPost w r gb go gq lim dn s B (.returned (.tuple #[])) wr) := HPW.out wr (SyRel.post HA.out.1 (hsays hE) HA.out.2.1 HA.out.2.2.1 HA.out.2.2.2.1 HA.out.2.2.2.2.1 HA.out.2.2.2.2.2)
      clear ra hfr hgo hgoes hsays HA
      go_wp2
      go_end0
      exact HP.out
end
end Go.Proofs.YtloagniacjfkfaaGreatDoor
