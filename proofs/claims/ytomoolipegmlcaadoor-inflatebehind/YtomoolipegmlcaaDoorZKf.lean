/- Behind the end, and behind an error. -/
import Derived.Test.YtomoolipegmlcaaDoorZr
namespace Go.Proofs.YtomoolipegmlcaaDoor
open Go.RowKit
section
variable {base : Nat} {w w' : World} {d lim : Nat} {L : List Int} {o o' : Ow} {r r' : Og}
theorem behind_end {s : St} {l M : List Int} (h : Dec base w d lim L o (.stop s l)) (h11 : s.now = 11) (h' : Dec base w' d lim (L ++ bitsL M) o' r') : r' = .stop s (l ++ bitsL M) :=
  h'.runs.det (h.runs.more_end (bitsL_m8 M) h.bit inv_start h11)
theorem behind_fail {er : Int} {out M : List Int} (h : Dec base w d lim L o (.fail er out)) (h' : Dec base w' d lim (L ++ bitsL M) o' r') : r' = .fail er out :=
  h'.runs.det (h.runs.more_fail (bitsL_m8 M) h.bit inv_start)
theorem rest_more {s : St} {l M rs rs' : List Int} (h11 : s.now = 11) (hM : Bytes M) (h : (Og.stop s l).rest rs) (h' : (Og.stop s (l ++ bitsL M)).rest rs') : rs' = rs ++ M := by
  have h : if s.now = 11 then Bytes rs ∧ l = bitsL rs else rs = [] := h
  have h' : if s.now = 11 then Bytes rs' ∧ l ++ bitsL M = bitsL rs' else rs' = [] := h'
  rw [if_pos h11] at h h'
  refine bitsL_inj h'.1 (fun z hz => (List.mem_append.1 hz).elim (h.1 z) (hM z)) ?_
  rw [← h'.2, h.2, bitsL_append]
end
theorem wpList_more_g {w : World} {ops : Array Oper} {rest : List Oper} {o : Oper} {a : Act} {Q : Exit → Act → World → Prop} (hw : Region.wanted o (yielded ops a.tmps) = true) (s x : Operand)
    (ho : o.op = .call { callee := .builtin .append, args := #[s, x], argTypes := #[22, 22] })
    (v : Value) (g : Option Nat) (zs : List Int) (hs : a.eval s = v) (hsl : Sl w 5 v g (vals zs))
    (ad : Option Addr) (m c : Nat) (ys : List Int) (hx : a.eval x = .slice ad m c) (hc : ad = none → c = 0) (hm : ys.length = m) (hr : Row w ad ys) (hlen : zs.length + m ≤ 140737488351232)
    (h : ∀ v' w' g', Sl w' 5 v' g' (vals (zs ++ ys)) → (g' = g ∨ ∃ k, g' = some k ∧ w.heap.size ≤ k) → w.grownBy w' g → wpList Tryd.prog ops Q rest (a.put o.dst v') w') : wpList Tryd.prog ops Q (o :: rest) a w := by
  refine wpList_step fun K hK => ?_
  rw [if_pos hw]
  have := step_more (ops := ops) (o := { o with guard := none }) (a := a) (K := K) (Q := Q) (E := True) rfl s x ho v g zs hs hsl ad m c ys hx hc hm hr hlen fun v' w' g' h1 h2 h3 => hK _ _ (h v' w' g' h1 h2 h3)
  rw [if_pos (by simp [Region.wanted])] at this
  exact this
set_option maxHeartbeats 3200000 in
set_option maxRecDepth 20000 in
theorem ibehind_walk (a : Option Addr) (len cap : Nat) (a1 : Option Addr) (len1 cap1 : Nat) (w : World) (hord : Ord w) (ha : BArg w a len cap) (hb : BArg w a1 len1 cap1) :
    Calls Tryd.prog 5 #[.slice a len cap, .slice a1 len1 cap1] w fun e w' => e = .returned (.bool true) ∧ Below w.heap.size w w' := by
  obtain ⟨A, hA, rfl, hn, hc, hc0, hAr⟩ := ha
  obtain ⟨M, hM, rfl, hn1, hc1, hc10, hMr⟩ := hb
  have HA : Hid (Bytes A ∧ Row w a A ∧ (a = none → cap = 0) ∧ Ord w) := ⟨hA, hAr, hc0, hord⟩
  have HM : Hid (Bytes M ∧ Row w a1 M ∧ (a1 = none → cap1 = 0)) := ⟨hM, hMr, hc10⟩
  clear hA hAr hc0 hord hM hMr hc10
  by_cases hbig : 2000 < (A.length : Int)
  · go_enter Tryd.func5, Tryd.ntmps5
    go_wp2_with (go_at_call 9; refine (fixed_any _ HA.out.2.2.2).mono ?_; rintro e w1 ⟨rfl, hbel⟩)
    go_ret
    exact ⟨rfl, hbel⟩
  have hdb : decide (2000 < (A.length : Int)) = false := by simp; omega
  by_cases hbig1 : 2000 < (M.length : Int)
  · go_enter Tryd.func5, Tryd.ntmps5
    go_wp2_with (go_at_call 9; refine (fixed_any _ HA.out.2.2.2).mono ?_; rintro e w1 ⟨rfl, hbel⟩)
    go_ret
    exact ⟨rfl, hbel⟩
  have hdb1 : decide (2000 < (M.length : Int)) = false := by simp; omega
  go_enter Tryd.func5, Tryd.ntmps5
  go_wp2_with fail
  refine (fixed_any _ HA.out.2.2.2).mono ?_
  rintro e w1 ⟨rfl, b1⟩
  have HB1 : Hid (Below w.heap.size w w1) := b1
  have HO1 : Hid (Ord w1) := HA.out.2.2.2.below b1 HA.out.2.2.2.pos
  have HP1 := all_zero a cap A 5000 w1 (HA.out.2.1.old b1) HA.out.1 hn hc HA.out.2.2.1 (by omega) (by decide) HO1.out
  clear b1
  go_wp2_with fail
  refine HP1.mono ?_
  rintro e w2 hp
  obtain ⟨r, o, d, ax, cx, L, rfl, hd, hL, hr, hrow, hle, hcx, b2⟩ := hp.open
  have H2 : Hid (Dec w1.heap.size w2 d 5000 L o r ∧ L.length ≤ 8 * A.length) := ⟨hd, hL⟩
  have HB2 : Hid (Below w.heap.size w w2) := HB1.out.trans (b2.mono HB1.out.size)
  have HO2 : Hid (Ord w2 ∧ w1.heap.size ≤ w2.heap.size ∧ 1 ≤ w1.heap.size ∧ w.heap.size ≤ w1.heap.size) := ⟨HO1.out.below b2 HO1.out.pos, b2.size, HO1.out.pos, HB1.out.size⟩
  have HD := done_any hd
  obtain ⟨Z, hZ⟩ : ∃ Z, r.out.length = Z := ⟨_, rfl⟩
  have HZ : Hid (r.out.length = Z) := hZ
  have hZl : Z ≤ 5000 := by omega
  rw [hZ]
  clear HP1 hp hd hL hr hrow b2 HB1 HO1 hZ hle hcx
  cases r with
  | fail er out =>
    have her : ¬ er = 0 := H2.out.1.err_ne
    have heb : (er == 0) = false := by simpa using her
    have HR := rest_any H2.out.1 (by have := H2.out.2; omega)
    rw [show (Og.fail er out).err = er from rfl]
    clear HD
    go_wp2_with fail
    refine HR.mono ?_
    rintro e w3 ⟨v3, g3, rs, rfl, hrs, hs3, hg3, b3⟩
    obtain ⟨a3, c3, hv3, _⟩ := hs3.shape
    rw [vals_len] at hv3
    subst hv3
    have HB3 : Hid (Below w.heap.size w w3) := HB2.out.trans (b3.mono HB2.out.size)
    have HPU := push_any (H2.out.1.old b3) M a1 M.length cap1 rfl HM.out.1 (fun e => by have := HM.out.2.2 e; omega) (HM.out.2.1.old HB3.out) (Nat.le_trans HO2.out.2.1 b3.size) HO2.out.2.2.1 (HO2.out.1.below b3 HO2.out.1.pos) (by decide) (by have := H2.out.2; omega)
    have HLE : Hid (w1.heap.size ≤ w3.heap.size) := Nat.le_trans HO2.out.2.1 b3.size
    have HD3 : Hid (Dec w1.heap.size w3 d 5000 L o (.fail er out)) := H2.out.1.old b3
    clear HR hrs hs3 hg3 b3
    generalize rs.length = RL at *
    go_wp2_with fail
    refine HPU.mono ?_
    rintro e w4 ⟨r', o', tv, tg, rfl, hd4, hpre, hsl, hfr, hst⟩
    obtain rfl := behind_fail HD3.out hd4
    obtain ⟨a4, c4, hv4, _⟩ := hsl.shape
    rw [vals_len, show ((Og.fail er out).out.drop (Og.fail er out).out.length).length = 0 by simp] at hv4
    subst hv4
    have H4 : Hid (Dec w1.heap.size w4 d 5000 (L ++ bitsL M) o' (.fail er out)) := hd4
    have HB4 : Hid (Below w.heap.size w w4) := HB3.out.trans ((hst.below HD3.out.fr HLE.out).mono HO2.out.2.2.2)
    rw [show (Og.fail er out).err = er from rfl]
    clear HPU hd4 hpre hsl hfr hst
    have HT := total_any H4.out
    rw [HZ.out] at HT
    go_wp2_with fail
    refine HT.mono ?_
    rintro e w5 ⟨rfl, hw⟩
    rw [hw]
    clear hw HT
    have HD4 := done_any H4.out
    rw [show (Og.fail er out).ended = false from rfl] at HD4
    go_wp2_with fail
    refine HD4.mono ?_
    rintro e w5 ⟨rfl, hw⟩
    rw [hw]
    clear hw HD4
    have HR4 := rest_row H4.out (by rw [List.length_append, bitsL_len]; have := H2.out.2; omega)
    go_wp2_with fail
    refine HR4.mono ?_
    rintro e w5 ⟨a5, c5, rs5, rfl, hrs5, hrow5, _, _, b5⟩
    obtain rfl : rs5 = [] := hrs5
    have HB5 : Hid (Below w.heap.size w w5) := HB4.out.trans (b5.mono HB4.out.size)
    clear HR4 hrow5 b5
    rw [List.length_nil]
    go_wp2
    go_ret
    exact ⟨rfl, HB5.out⟩
  | stop s l =>
    by_cases h11 : s.now = 11
    · have hen : (Og.stop s l).ended = true := by simp [Og.ended, h11]
      have HR := rest_any H2.out.1 (by have := H2.out.2; omega)
      rw [show (Og.stop s l).err = 0 from rfl]
      rw [hen] at HD
      go_wp2_with fail
      refine HD.mono ?_
      rintro e w2' ⟨rfl, hw⟩
      rw [hw]
      clear hw HD
      go_wp2_with fail
      refine HR.mono ?_
      rintro e w3 ⟨v3, g3, rs, rfl, hrs, hs3, hg3, b3⟩
      obtain ⟨a3, c3, hv3, _⟩ := hs3.shape
      rw [vals_len] at hv3
      subst hv3
      have HB3 : Hid (Below w.heap.size w w3) := HB2.out.trans (b3.mono HB2.out.size)
      have HPU := push_any (H2.out.1.old b3) M a1 M.length cap1 rfl HM.out.1 (fun e => by have := HM.out.2.2 e; omega) (HM.out.2.1.old HB3.out) (Nat.le_trans HO2.out.2.1 b3.size) HO2.out.2.2.1 (HO2.out.1.below b3 HO2.out.1.pos) (by decide) (by have := H2.out.2; omega)
      have HLE : Hid (w1.heap.size ≤ w3.heap.size) := Nat.le_trans HO2.out.2.1 b3.size
      have HD3 : Hid (Dec w1.heap.size w3 d 5000 L o (.stop s l)) := H2.out.1.old b3
      have hrl : 8 * rs.length ≤ 16000 := by
        have h : if s.now = 11 then Bytes rs ∧ l = bitsL rs else rs = [] := hrs
        rw [if_pos h11] at h
        obtain ⟨_, n, _, hn'⟩ := H2.out.1.runs.kept H2.out.1.bit inv_start s l rfl
        have h1 := congrArg List.length h.2
        have h2 := congrArg List.length hn'
        rw [bitsL_len] at h1
        rw [List.length_drop] at h2
        have := H2.out.2
        omega
      have HRS : Hid ((Og.stop s l).rest rs) := hrs
      obtain ⟨bd, bg, bq⟩ := H2.out.1.blocks
      have HSL : Hid (Sl w3 5 (.slice a3 rs.length c3) g3 (vals rs) ∧ ∀ k, g3 = some k → w2.heap.size ≤ k ∧ k ≠ d ∧ o.g ≠ some k ∧ o.q ≠ some k) :=
        ⟨hs3, fun k hk => ⟨hg3 k hk, by have := hg3 k hk; omega, fun e => by have := bg k e; have := hg3 k hk; omega, fun e => by have := bq k e; have := hg3 k hk; omega⟩⟩
      clear HR hrs hs3 hg3 b3 bd bg bq
      obtain ⟨RL, hRL⟩ : ∃ RL, rs.length = RL := ⟨_, rfl⟩
      have HRL : Hid (rs.length = RL) := hRL
      rw [hRL]
      rw [hRL] at hrl
      clear hRL
      go_wp2_with fail
      refine HPU.mono ?_
      rintro e w4 ⟨r', o', tv, tg, rfl, hd4, hpre, hsl, hfr, hst⟩
      obtain rfl := behind_end HD3.out h11 hd4
      obtain ⟨a4, c4, hv4, _⟩ := hsl.shape
      rw [vals_len, show ((Og.stop s (l ++ bitsL M)).out.drop (Og.stop s l).out.length).length = 0 by simp [Og.out]] at hv4
      subst hv4
      have H4 : Hid (Dec w1.heap.size w4 d 5000 (L ++ bitsL M) o' (.stop s (l ++ bitsL M))) := hd4
      have HB4 : Hid (Below w.heap.size w w4) := HB3.out.trans ((hst.below HD3.out.fr HLE.out).mono HO2.out.2.2.2)
      have HSL4 : Hid (Sl w4 5 (.slice a3 RL c3) g3 (vals rs) ∧ ∀ k, g3 = some k → w2.heap.size ≤ k) := by
        refine ⟨?_, fun k hk => (HSL.out.2 k hk).1⟩
        have h0 := HSL.out.1
        rw [HRL.out] at h0
        exact h0.same fun k hk => hst.block k (h0.lt hk) (HSL.out.2 k hk).2.1 (fun e => (HSL.out.2 k hk).2.2.1 e.symm) (fun e => (HSL.out.2 k hk).2.2.2 e.symm) (fun e => by rw [HD3.out.t] at e; cases e)
      rw [show (Og.stop s (l ++ bitsL M)).err = 0 from rfl]
      clear HPU hd4 hpre hsl hfr hst HSL
      have HT := total_any H4.out
      rw [show (Og.stop s (l ++ bitsL M)).out.length = Z from HZ.out] at HT
      go_wp2_with fail
      refine HT.mono ?_
      rintro e w5 ⟨rfl, hw⟩
      rw [hw]
      clear hw HT
      have HD4 := done_any H4.out
      rw [show (Og.stop s (l ++ bitsL M)).ended = true by simp [Og.ended, h11]] at HD4
      go_wp2_with fail
      refine HD4.mono ?_
      rintro e w5 ⟨rfl, hw⟩
      rw [hw]
      clear hw HD4
      have HR4 := rest_any H4.out (by rw [List.length_append, bitsL_len]; have := H2.out.2; omega)
      go_wp2_with fail
      refine HR4.mono ?_
      rintro e w5 ⟨v5, g5, rs5, rfl, hrs5, hs5, hg5, b5⟩
      obtain rfl : rs5 = rs ++ M := rest_more h11 HM.out.1 HRS.out hrs5
      obtain ⟨a5, c5, hv5, _⟩ := hs5.shape
      rw [vals_len, List.length_append, HRL.out] at hv5
      subst hv5
      have HB5 : Hid (Below w.heap.size w w5) := HB4.out.trans (b5.mono HB4.out.size)
      have HSL5 : Hid (Sl w5 5 (.slice a3 RL c3) g3 (vals rs) ∧ (∀ k, g3 = some k → w2.heap.size ≤ k ∧ k < w4.heap.size)) := ⟨HSL4.out.1.same fun k hk => b5.block k (HSL4.out.1.lt hk), fun k hk => ⟨HSL4.out.2 k hk, HSL4.out.1.lt hk⟩⟩
      have HS5 : Hid (Sl w5 5 (.slice a5 (RL + M.length) c5) g5 (vals (rs ++ M)) ∧ ∀ k, g5 = some k → w4.heap.size ≤ k) := ⟨hs5, hg5⟩
      clear HR4 hrs5 hs5 hg5 b5 HSL4 H4
      go_wp2_with (at_builtin; refine wpList_more_g rfl _ _ rfl (.slice a3 RL c3) g3 rs rfl HSL5.out.1 a1 M.length cap1 M rfl HM.out.2.2 rfl (HM.out.2.1.old HB5.out) (by rw [HRL.out]; omega) ?_)
      intro v6 w6 g6 hs6 hg6 hgr6
      obtain ⟨a6, c6, hv6, _⟩ := hs6.shape
      rw [vals_len, List.length_append, HRL.out] at hv6
      subst hv6
      have HB6 : Hid (Below w.heap.size w w6) := by
        refine HB5.out.trans ⟨hgr6.os, hgr6.tape, hgr6.output, hgr6.size, fun k hk => hgr6.block k (by have := HB5.out.size; omega) (fun e => ?_)⟩
        have := (HSL5.out.2 k e.symm).1
        have := HB2.out.size
        omega
      have HS6 : Hid (Row w6 a5 (rs ++ M) ∧ Row w6 a6 (rs ++ M)) := by
        refine ⟨(HS5.out.1.same fun k hk => hgr6.block k (HS5.out.1.lt hk) (fun e => ?_)).row rfl, hs6.row rfl⟩
        have := (HSL5.out.2 k e.symm).2
        have := HS5.out.2 k hk
        omega
      have HSM := same_any a5 a6 (RL + M.length) c5 c6 (rs ++ M) w6 (by rw [List.length_append, HRL.out]) HS6.out.1 HS6.out.2
      clear hs6 hg6 hgr6 HS5 HSL5 HS6
      go_wp2_with fail
      refine HSM.mono ?_
      rintro e w7 ⟨rfl, hw⟩
      rw [hw]
      clear hw HSM
      go_wp2
      go_ret
      exact ⟨rfl, HB6.out⟩
    · have hen : (Og.stop s l).ended = false := by simp [Og.ended, h11]
      rw [show (Og.stop s l).err = 0 from rfl]
      rw [hen] at HD
      go_wp2_with fail
      refine HD.mono ?_
      rintro e w3 ⟨rfl, hw⟩
      rw [hw]
      clear hw HD
      go_wp2
      go_ret
      exact ⟨rfl, HB2.out⟩
end Go.Proofs.YtomoolipegmlcaaDoor
