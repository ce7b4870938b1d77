/- What is written is read as it was: the bytes; no program in it. -/
import Derived.Test.YtaibojmaghmfnaaMgW
namespace Go.Proofs.Ytaibojmaghmfnaa
open Go.RowKit
theorem lit_octs (v : Int) (n : Nat) (h4 : n ≤ 4) (h0 : 0 ≤ v) (h1 : v < 256 ^ n) : litN (octs v n) = v := by
  match n, h4 with
  | 0, _ => simp [octs, litN] at *; omega
  | 1, _ => simp [octs, litN, oct, List.range_succ] at *; omega
  | 2, _ => simp [octs, litN, oct, List.range_succ] at *; omega
  | 3, _ => simp [octs, litN, oct, List.range_succ] at *; omega
  | 4, _ => simp [octs, litN, oct, List.range_succ] at *; omega
theorem bN_bg (n : Nat) (v : Int) (r : List Int) (h4 : n ≤ 4) (h0 : 0 ≤ v) (h1 : v < 256 ^ n) : bN n (.ok (bg n v ++ r)) = v := by
  have hl := bg_len n v
  unfold bN
  rw [bL_more (by rw [List.length_append]; omega), List.take_append_of_le_length (by omega), List.take_of_length_le (by omega)]
  unfold bg
  rw [bigN_reverse]
  exact lit_octs v n h4 h0 h1
theorem bS_bg (n : Nat) (v : Int) (r : List Int) : bS n (.ok (bg n v ++ r)) = .ok r := by
  have hl := bg_len n v
  rw [bS_more (by rw [List.length_append]; omega), List.drop_append_of_le_length (by omega), List.drop_of_length_le (by omega), List.nil_append]
theorem bS_bg0 (n : Nat) (v : Int) : bS n (.ok (bg n v)) = .ok [] := by have := bS_bg n v []; rwa [List.append_nil] at this
theorem bN_bg0 (n : Nat) (v : Int) (h4 : n ≤ 4) (h0 : 0 ≤ v) (h1 : v < 256 ^ n) : bN n (.ok (bg n v)) = v := by have := bN_bg n v [] h4 h0 h1; rwa [List.append_nil] at this
/-- A message as what it says. -/
def Ms.mn (m : Ms) (G : List (Int × Int)) (D : List Int) : Mn := ⟨m.k, m.bo, m.fi, m.su, m.si, m.ap, m.bd, m.ix, m.pa, m.co, G, D⟩
theorem myN_mn (m : Ms) (G : List (Int × Int)) (D : List Int) (hg : G.length = m.rn) (hd : D.length = m.dn) : myN (m.mn G D) = myM m G := by
  obtain ⟨k, bo, fi, su, si, ap, bd, ix, pa, co, ra, rn, rc, da, dn, dc⟩ := m
  simp only at hg hd
  subst hg hd
  rfl
theorem wi_iff {v lo hi : Int} : wi v lo hi = true ↔ lo ≤ v ∧ v ≤ hi := by unfold wi; simp
theorem same_ask {m l : Ms} (h : sameM m l = true) : m.fi = l.fi ∧ m.su = l.su ∧ m.si = l.si ∧ m.ap = l.ap ∧ m.bd = l.bd ∧ m.ix = l.ix ∧ m.pa = l.pa ∧ m.co = l.co ∧ m.rn = l.rn ∧ m.dn = l.dn := by
  unfold sameM at h
  simp only [Bool.and_eq_true, beq_iff_eq] at h
  obtain ⟨⟨⟨⟨⟨⟨⟨⟨⟨h1, h2⟩, h3⟩, h4⟩, h5⟩, h6⟩, h7⟩, h8⟩, h9⟩, h10⟩ := h
  exact ⟨h1, h2, h3, h4, h5, h6, h7, h8, by omega, by omega⟩
theorem ordP_bd : ∀ (G : List (Int × Int)) (a : Int), 0 ≤ a → ordP a G = true → ∀ p ∈ G, 0 ≤ p.1 ∧ p.1 < 4294967296 ∧ 0 ≤ p.2 ∧ p.2 < 4294967296
  | [], _, _, _ => fun p hp => by cases hp
  | (x, y) :: r, a, ha, h => by
    simp only [ordP, Bool.and_eq_true, decide_eq_true_eq, wi_iff] at h
    obtain ⟨⟨⟨⟨h1, h2⟩, h3⟩, h4⟩, h5⟩ := h
    intro p hp
    rcases List.mem_cons.1 hp with rfl | hp
    · exact ⟨by show 0 ≤ x; omega, by show x < _; omega, h1, by show y < _; omega⟩
    · exact ordP_bd r y h1 h5 p hp
theorem rdG_cons (x y : Int) (hx : 0 ≤ x ∧ x < 4294967296) (hy : 0 ≤ y ∧ y < 4294967296) (r : List Int) : ∀ j, rdG (j + 1) (.ok (bg 4 x ++ bg 4 y ++ r)) = ((x, y) :: (rdG j (.ok r)).1, (rdG j (.ok r)).2) := by
  intro j
  induction j with
  | zero =>
    show ([] ++ [(bN 4 (.ok (bg 4 x ++ bg 4 y ++ r)), bN 4 (bS 4 (.ok (bg 4 x ++ bg 4 y ++ r))))], bS 4 (bS 4 (.ok (bg 4 x ++ bg 4 y ++ r)))) = _
    rw [List.append_assoc, bS_bg, bS_bg, bN_bg 4 x _ (by omega) hx.1 (by simpa using hx.2), bN_bg 4 y _ (by omega) hy.1 (by simpa using hy.2)]
    rfl
  | succ j ih =>
    show ((rdG (j + 1) _).1 ++ [(bN 4 (rdG (j + 1) _).2, bN 4 (bS 4 (rdG (j + 1) _).2))], bS 4 (bS 4 (rdG (j + 1) _).2)) = _
    rw [ih]
    rfl
theorem rdG_all : ∀ (G : List (Int × Int)), (∀ p ∈ G, 0 ≤ p.1 ∧ p.1 < 4294967296 ∧ 0 ≤ p.2 ∧ p.2 < 4294967296) → rdG G.length (.ok (rgB G)) = (G, .ok [])
  | [], _ => rfl
  | (x, y) :: r, h => by
    have hp := h (x, y) (by simp)
    have ih := rdG_all r (fun p hp => h p (by simp [hp]))
    have e : rgB ((x, y) :: r) = bg 4 x ++ bg 4 y ++ rgB r := by simp [rgB]
    rw [e, List.length_cons, rdG_cons x y ⟨hp.1, hp.2.1⟩ ⟨hp.2.2.1, hp.2.2.2⟩, ih]
theorem back_ask (m : Ms) (G : List (Int × Int)) (D : List Int) (hy : my_ask m G = true) (hg : G.length = m.rn) (hd : D.length = m.dn) (hsu : 0 ≤ m.su ∧ m.su < 4294967296) : (tk_ask (.ok (by_ask m))).kb m.k m.bo = m.mn G D ∧ bS 4 (bS 4 (bS 1 (.ok (by_ask m)))) = .ok [] := by
  unfold my_ask bn_ask at hy
  simp only [Bool.and_eq_true, wi_iff] at hy
  obtain ⟨hs, h1, h2⟩ := hy
  obtain ⟨s1, s2, s3, s4, s5, s6, s7, s8, s9, s10⟩ := same_ask hs
  simp only [on_ask] at s1 s2 s3 s4 s5 s6 s7 s8 s9 s10
  obtain rfl : G = [] := List.length_eq_zero_iff.1 (by omega)
  obtain rfl : D = [] := List.length_eq_zero_iff.1 (by omega)
  have e : by_ask m = bg 1 m.fi ++ (bg 4 m.su ++ bg 4 m.ap) := by unfold by_ask; rw [List.append_assoc]
  rw [e]
  refine ⟨?_, by rw [bS_bg, bS_bg, bS_bg0]⟩
  unfold tk_ask Mn.kb Ms.mn
  simp only [bS_bg, bN_bg 1 m.fi _ (by omega) h1.1 (by simp; omega), bN_bg 4 m.su _ (by omega) hsu.1 (by simpa using hsu.2), bN_bg0 4 m.ap (by omega) h2.1 (by simp; omega), s3, s5, s6, s7, s8]
theorem back_no (m : Ms) (G : List (Int × Int)) (D : List Int) (hy : my_no m G = true) (hg : G.length = m.rn) (hd : D.length = m.dn) : (tk_no (.ok (by_no m))).kb m.k m.bo = m.mn G D ∧ bS 1 (bS 1 (.ok (by_no m))) = .ok [] := by
  unfold my_no bn_no at hy
  simp only [Bool.and_eq_true, wi_iff] at hy
  obtain ⟨hs, h1, h2⟩ := hy
  obtain ⟨s1, s2, s3, s4, s5, s6, s7, s8, s9, s10⟩ := same_ask hs
  simp only [on_no] at s1 s2 s3 s4 s5 s6 s7 s8 s9 s10
  obtain rfl : G = [] := List.length_eq_zero_iff.1 (by omega)
  obtain rfl : D = [] := List.length_eq_zero_iff.1 (by omega)
  unfold by_no
  refine ⟨?_, by rw [bS_bg, bS_bg0]⟩
  unfold tk_no Mn.kb Ms.mn
  simp only [bS_bg, bN_bg 1 m.fi _ (by omega) h1.1 (by simp; omega), bN_bg0 1 m.co (by omega) h2.1 (by simp; omega), s2, s3, s4, s5, s6, s7]
theorem back_offer (m : Ms) (G : List (Int × Int)) (D : List Int) (hy : my_offer m G = true) (hg : G.length = m.rn) (hd : D.length = m.dn) (hsu : 0 ≤ m.su ∧ m.su < 4294967296) : (tk_offer (.ok (by_offer m))).kb m.k m.bo = m.mn G D ∧ bS 2 (bS 4 (bS 4 (bS 4 (bS 1 (.ok (by_offer m)))))) = .ok [] := by
  unfold my_offer bn_offer at hy
  simp only [Bool.and_eq_true, wi_iff] at hy
  obtain ⟨hs, ⟨⟨h1, h2⟩, h3⟩, h4⟩ := hy
  obtain ⟨s1, s2, s3, s4, s5, s6, s7, s8, s9, s10⟩ := same_ask hs
  simp only [on_offer] at s1 s2 s3 s4 s5 s6 s7 s8 s9 s10
  obtain rfl : G = [] := List.length_eq_zero_iff.1 (by omega)
  obtain rfl : D = [] := List.length_eq_zero_iff.1 (by omega)
  have e : by_offer m = bg 1 m.fi ++ (bg 4 m.su ++ (bg 4 m.si ++ (bg 4 m.ap ++ bg 2 m.bd))) := by unfold by_offer; simp only [List.append_assoc]
  rw [e]
  refine ⟨?_, by rw [bS_bg, bS_bg, bS_bg, bS_bg, bS_bg0]⟩
  unfold tk_offer Mn.kb Ms.mn
  simp only [bS_bg, bN_bg 1 m.fi _ (by omega) h1.1 (by simp; omega), bN_bg 4 m.su _ (by omega) hsu.1 (by simpa using hsu.2), bN_bg 4 m.si _ (by omega) (by omega) (by simp; omega), bN_bg 4 m.ap _ (by omega) h3.1 (by simp; omega), bN_bg0 2 m.bd (by omega) (by omega) (by simp; omega), s6, s7, s8]
theorem back_data (m : Ms) (G : List (Int × Int)) (D : List Int) (hy : my_data m G = true) (hg : G.length = m.rn) : (tk_data (.ok (by_data m D))).kb m.k m.bo = m.mn G D ∧ bS (stZ (dtS (.ok (by_data m D)))).length (dtS (.ok (by_data m D))) = .ok [] := by
  unfold my_data bn_data at hy
  simp only [Bool.and_eq_true, wi_iff] at hy
  obtain ⟨hs, ⟨h1, h2⟩, h3⟩ := hy
  obtain ⟨s1, s2, s3, s4, s5, s6, s7, s8, s9, s10⟩ := same_ask hs
  simp only [on_data] at s1 s2 s3 s4 s5 s6 s7 s8 s9 s10
  obtain rfl : G = [] := List.length_eq_zero_iff.1 (by omega)
  have e : by_data m D = bg 4 m.ix ++ (bg 1 m.pa ++ D) := by unfold by_data; rw [List.append_assoc]
  have e2 : dtS (.ok (by_data m D)) = .ok D := by unfold dtS; rw [e, bS_bg, bS_bg]
  rw [e2]
  have e3 : bS (stZ (.ok D)).length (.ok D) = .ok [] := by show bS D.length (.ok D) = _; rw [bS_more (by omega), List.drop_length]
  have e4 : bL (stZ (.ok D)).length (.ok D) = D := by show bL D.length (.ok D) = _; rw [bL_more (by omega), List.take_length]
  refine ⟨?_, e3⟩
  unfold tk_data Mn.kb Ms.mn
  rw [e2, e4, e]
  simp only [bS_bg, bN_bg 4 m.ix _ (by omega) h1.1 (by simp; omega), bN_bg 1 m.pa _ (by omega) h2.1 (by simp; omega), s1, s2, s3, s4, s5, s8]
theorem back_ack (m : Ms) (G : List (Int × Int)) (D : List Int) (hy : my_ack m G = true) (hg : G.length = m.rn) (hd : D.length = m.dn) : (tk_ack (.ok (by_ack m G))).kb m.k m.bo = m.mn G D ∧ tk_ackS (.ok (by_ack m G)) = .ok [] := by
  unfold my_ack bn_ack at hy
  simp only [Bool.and_eq_true, wi_iff, decide_eq_true_eq] at hy
  obtain ⟨hs, ⟨h1, h2⟩, h3⟩ := hy
  obtain ⟨s1, s2, s3, s4, s5, s6, s7, s8, s9, s10⟩ := same_ask hs
  simp only [on_ack] at s1 s2 s3 s4 s5 s6 s7 s8 s9 s10
  obtain rfl : D = [] := List.length_eq_zero_iff.1 (by omega)
  have e : by_ack m G = bg 4 m.ix ++ (bg 1 m.rn ++ rgB G) := by unfold by_ack; rw [List.append_assoc]
  have e1 : akN (.ok (by_ack m G)) = G.length := by unfold akN; rw [e, bS_bg, bN_bg 1 (m.rn : Int) _ (by omega) (by omega) (by simp; omega), hg]; simp
  have e2 : bS 1 (bS 4 (.ok (by_ack m G))) = .ok (rgB G) := by rw [e, bS_bg, bS_bg]
  have e3 := rdG_all G (ordP_bd G m.ix h1.1 h3)
  refine ⟨?_, by unfold tk_ackS; rw [e1, e2, e3]⟩
  unfold tk_ack Mn.kb Ms.mn
  rw [e1, e2, e3, e]
  simp only [bN_bg 4 m.ix _ (by omega) h1.1 (by simp; omega), s1, s2, s3, s4, s5, s7, s8]
theorem back_kind (m : Ms) (G : List (Int × Int)) (D : List Int) (hy : myM m G = true) (hg : G.length = m.rn) (hd : D.length = m.dn) (hsu : 0 ≤ m.su ∧ m.su < 4294967296) : (tkN m.k (.ok (bdM m G D))).kb m.k m.bo = m.mn G D ∧ tkS m.k (.ok (bdM m G D)) = .ok [] := by
  by_cases k1 : m.k = 1
  ·
    have e1 : ∀ st, tkN m.k st = tk_ask st := fun st => by unfold tkN; rw [if_pos k1]
    have e3 : bdM m G D = by_ask m := by unfold bdM; rw [if_pos k1]
    have e4 : my_ask m G = true := by unfold myM at hy; rwa [if_pos k1] at hy
    have b := back_ask m G D e4 hg hd hsu
    rw [e1, e3]
    refine ⟨b.1, ?_⟩
    unfold tkS
    rw [if_pos k1]
    exact b.2
  ·
    by_cases k2 : m.k = 2
    ·
      have e1 : ∀ st, tkN m.k st = tk_offer st := fun st => by unfold tkN; rw [if_neg k1, if_pos k2]
      have e3 : bdM m G D = by_offer m := by unfold bdM; rw [if_neg k1, if_pos k2]
      have e4 : my_offer m G = true := by unfold myM at hy; rwa [if_neg k1, if_pos k2] at hy
      have b := back_offer m G D e4 hg hd hsu
      rw [e1, e3]
      refine ⟨b.1, ?_⟩
      unfold tkS
      rw [if_neg k1, if_pos k2]
      exact b.2
    ·
      by_cases k3 : m.k = 3
      ·
        have e1 : ∀ st, tkN m.k st = tk_data st := fun st => by unfold tkN; rw [if_neg k1, if_neg k2, if_pos k3]
        have e3 : bdM m G D = by_data m D := by unfold bdM; rw [if_neg k1, if_neg k2, if_pos k3]
        have e4 : my_data m G = true := by unfold myM at hy; rwa [if_neg k1, if_neg k2, if_pos k3] at hy
        have b := back_data m G D e4 hg
        rw [e1, e3]
        refine ⟨b.1, ?_⟩
        unfold tkS
        rw [if_neg k1, if_neg k2, if_pos k3]
        exact b.2
      ·
        by_cases k4 : m.k = 4
        ·
          have e1 : ∀ st, tkN m.k st = tk_ack st := fun st => by unfold tkN; rw [if_neg k1, if_neg k2, if_neg k3, if_pos k4]
          have e3 : bdM m G D = by_ack m G := by unfold bdM; rw [if_neg k1, if_neg k2, if_neg k3, if_pos k4]
          have e4 : my_ack m G = true := by unfold myM at hy; rwa [if_neg k1, if_neg k2, if_neg k3, if_pos k4] at hy
          have b := back_ack m G D e4 hg hd
          rw [e1, e3]
          refine ⟨b.1, ?_⟩
          unfold tkS
          rw [if_neg k1, if_neg k2, if_neg k3, if_pos k4]
          exact b.2
        ·
          have e1 : ∀ st, tkN m.k st = tk_no st := fun st => by unfold tkN; rw [if_neg k1, if_neg k2, if_neg k3, if_neg k4]
          have e3 : bdM m G D = by_no m := by unfold bdM; rw [if_neg k1, if_neg k2, if_neg k3, if_neg k4]
          have e4 : my_no m G = true := by unfold myM at hy; rwa [if_neg k1, if_neg k2, if_neg k3, if_neg k4] at hy
          have b := back_no m G D e4 hg hd
          rw [e1, e3]
          refine ⟨b.1, ?_⟩
          unfold tkS
          rw [if_neg k1, if_neg k2, if_neg k3, if_neg k4]
          exact b.2
/-- What is written without its sum is a message again. -/
theorem back_all (m : Ms) (G : List (Int × Int)) (D : List Int) (hk : isKd m.k = true) (hy : myM m G = true) (hg : G.length = m.rn) (hd : D.length = m.dn) (hsu : 0 ≤ m.su ∧ m.su < 4294967296) (hbo : 0 ≤ m.bo ∧ m.bo < 4294967296) : okT (txM m G D) = true ∧ mnT (txM m G D) = m.mn G D := by
  have hk' : 1 ≤ m.k ∧ m.k ≤ 5 := of_decide_eq_true hk
  have e : txM m G D = bg 1 m.k ++ (bg 4 m.bo ++ bdM m G D) := by unfold txM; rw [List.append_assoc]
  have e1 : kdT (txM m G D) = m.k := by unfold kdT; rw [e, bN_bg 1 m.k _ (by omega) (by omega) (by simp; omega)]
  have e2 : boT (txM m G D) = m.bo := by unfold boT; rw [e, bS_bg, bN_bg 4 m.bo _ (by omega) hbo.1 (by simpa using hbo.2)]
  have e3 : s2T (txM m G D) = .ok (bdM m G D) := by unfold s2T; rw [e, bS_bg, bS_bg]
  obtain ⟨b1, b2⟩ := back_kind m G D hy hg hd hsu
  have e4 : mnT (txM m G D) = m.mn G D := by unfold mnT; rw [e1, e2, e3, b1]
  refine ⟨?_, e4⟩
  have e5 : enT (txM m G D) = .ok [] := by unfold enT; rw [e1, e3, b2]
  unfold okT
  rw [e1, hk, e5, e4, myN_mn m G D hg hd, hy]
  rfl
theorem octs_len (v : Int) (n : Nat) : (octs v n).length = n := by simp [octs]
/-- What is sealed is read. -/
theorem seal_tx (t : List Int) : txT (sealM t) = t := by
  unfold txT sealM
  rw [List.length_append, octs_len, show t.length + 4 - 4 = t.length by omega, List.take_append_of_le_length (Nat.le_refl _), List.take_length]
theorem seal_ok (t : List Int) (h5 : 5 ≤ t.length) (ho : okT t = true) : rdOk (sealM t) = true := by
  have e1 := seal_tx t
  have hl : (sealM t).length = t.length + 4 := by unfold sealM; rw [List.length_append, octs_len]
  have e2 : smT (sealM t) = crT (sealM t) := by
    unfold smT crT
    rw [e1, hl, show t.length + 4 - 4 = t.length by omega]
    unfold sealM
    rw [List.drop_append_of_le_length (Nat.le_refl _), List.drop_length, List.nil_append]
    exact lit_octs _ 4 (by omega) (by omega) (by have := (crcM (BitVec.ofNat 32 0) t).isLt; simp; omega)
  unfold rdOk
  rw [e1, ho, decide_eq_true e2, hl, decide_eq_true (by omega)]
  rfl
theorem tx_len (m : Ms) (G : List (Int × Int)) (D : List Int) : 5 ≤ (txM m G D).length := by unfold txM; rw [List.length_append, List.length_append, bg_len, bg_len]; omega
end Go.Proofs.Ytaibojmaghmfnaa
