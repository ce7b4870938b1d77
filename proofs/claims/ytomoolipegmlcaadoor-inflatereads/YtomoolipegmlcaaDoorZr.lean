/- Joined: CpB SmC Kd. -/
import Derived.Test.YtomoolipegmlcaaDoorZa
import Derived.Test.YtomoolipegmlcaaDoorZd
import Derived.Test.YtomoolipegmlcaaDoorZq
import Derived.Test.YtomoolipegmlcaaDoorZo
/- 'append([]byte{}, x...)'. -/
namespace Go.Proofs.YtomoolipegmlcaaDoor
open Go.RowKit

theorem Row.alloc {w : World} {a : Option Addr} {l : List Int} (h : Row w a l) (o : Obj) : Row (w.alloc o) a l := h.old ((Below.refl _ _).alloc (Nat.le_refl _) _)
theorem Sl.empty (w : World) (e : TypeId) : Sl (w.alloc (.cells #[] e)) e (.slice (some ⟨w.heap.size, 0, none⟩) 0 0) (some w.heap.size) [] :=
  .inr ⟨_, 0, 0, #[], rfl, rfl, heap_alloc_new _ _, by simp, by simp, by unfold maxLen; omega, by simp⟩
theorem wpList_copy {wr : World} {ops : Array Oper} {rest : List Oper} {o : Oper} {a : Act} {Q : Exit → Act → World → Prop} (hgd : o.guard = none) (s x : Operand)
    (ho : o.op = .call { callee := .builtin .append, args := #[s, x], argTypes := #[22, 22] })
    (ad : Option Addr) (m c : Nat) (zs : List Int) (hs : a.eval s = .slice (some ⟨wr.heap.size, 0, none⟩) 0 0) (hx : a.eval x = .slice ad m c) (hc : ad = none → c = 0) (hm : zs.length = m) (hr : Row wr ad zs) (hlen : m ≤ 140737488351232)
    (h : ∀ a' c' w' g', Sl w' 5 (.slice a' m c') g' (vals zs) → (∀ k, g' = some k → wr.heap.size ≤ k) → Below wr.heap.size wr w' → wpList Tryd.prog ops Q rest (a.put o.dst (.slice a' m c')) w') : wpList Tryd.prog ops Q (o :: rest) a (wr.alloc (.cells #[] 5)) := by
  obtain ⟨i0, hi, hz0, hz1, hz2⟩ := info_parts Tryd.info5
  have hB : Below wr.heap.size wr (wr.alloc (.cells #[] 5)) := (Below.refl _ _).alloc (Nat.le_refl _) _
  cases ad with
  | none =>
    have hb : zs = [] := by
      rcases hr with h | ⟨b, off, h, _⟩
      · exact h
      · cases h
    have hc0 := hc rfl
    subst hb hc0
    simp at hm
    subst hm
    refine wpList_append_sl_none hgd s x 22 ho 5 i0 Tryd.underlying22 hi _ 0 0 hs (Nat.le_refl _) hx ?_
    exact h _ 0 _ (some wr.heap.size) (Sl.empty wr 5) (by intro k hk; cases hk; exact Nat.le_refl _) hB
  | some y =>
    refine wpList_append_sl hgd s x 22 ho 5 i0 (.int .u8 0) 1 Tryd.underlying22 hi hz0 hz1 hz2 rfl _ _ [] hs (Sl.empty wr 5) y m c (vals zs) hx (by rw [vals_len]; exact hm) (news_row (hr.alloc _)) (vals_one zs) (by simp; omega) (by simp; unfold maxLen; omega) ?_
    intro v' w' g' h1 h2 h3
    obtain ⟨a', c', hv, _⟩ := h1.shape
    rw [List.nil_append] at h1 hv
    rw [vals_len, hm] at hv
    subst hv
    refine h a' c' w' g' h1 ?_ ⟨h3.os.trans hB.os, h3.tape.trans hB.tape, h3.output.trans hB.output, Nat.le_trans hB.size h3.size, fun k hk => (h3.block k (by simp; omega) (by simp; omega)).trans (hB.block k hk)⟩
    intro k hk
    rcases h2 with e | ⟨q, e, hq⟩
    · rw [e] at hk; cases hk; exact Nat.le_refl _
    · rw [e] at hk; cases hk; simp at hq; omega
end Go.Proofs.YtomoolipegmlcaaDoor
/- Whether bytes are the same; a byte of a slice is another one. -/
namespace Go.Proofs.YtomoolipegmlcaaDoor
open Go.RowKit

theorem conv_row {w : World} {a : Option Addr} {n c : Nat} {l : List Int} (hl : l.length = n) (hr : Row w a l) : (convert 22 9 (.slice a n c)).run Tryd.prog w = .ok (.string (strOfNums l)) w := by
  rcases hr with rfl | ⟨b, off, rfl, hc⟩
  · simp at hl
    subst hl
    cases a with
    | none => exact run_convert_bytes_nil w 22 5 Tryd.underlying22 Tryd.underlying5 0 c 9 Tryd.underlying9
    | some x =>
      rw [run_convert_bytes_string w 22 9 5 _ 0 c Tryd.underlying22 Tryd.underlying5 Tryd.underlying9, run_bytesToString w x 0 c [] (by simpa using run_loadCells_list (P := Tryd.prog) w x [] (fun j v hj => by simp at hj))]
      rfl
  · exact run_convert_bytes_arg w 22 5 Tryd.underlying22 Tryd.underlying5 b off n c l hl (fun i hi => by rw [hc i (by omega)]; simp) 9 Tryd.underlying9
set_option maxHeartbeats 800000 in
theorem same_any (a b : Option Addr) (n ca cb : Nat) (l : List Int) (w : World) (hl : l.length = n) (ra : Row w a l) (rb : Row w b l) :
    Calls Tryd.prog 14 #[.slice a n ca, .slice b n cb] w fun e w' => e = .returned (.bool true) ∧ w' = w := by
  have h1 := conv_row (c := ca) hl ra
  have h2 := conv_row (c := cb) hl rb
  clear ra rb hl
  generalize strOfNums l = s at *
  go_enter Tryd.func14, Tryd.ntmps14
  go_wp2
  go_ret
  exact ⟨rfl, rfl⟩

theorem str_inj {l m : List Int} (hl : Bytes l) (hm : Bytes m) (h : (strOfNums l).toList = (strOfNums m).toList) : l = m := by
  have e := h
  rw [ByteArray.toList_eq, ByteArray.toList_eq, strOfNums_data, strOfNums_data] at e
  clear h
  induction l generalizing m with
  | nil => cases m with
    | nil => rfl
    | cons y r => simp at e
  | cons x q ih =>
    cases m with
    | nil => simp at e
    | cons y r =>
      simp only [List.map_cons, List.cons.injEq] at e
      have hx := hl x (by simp)
      have hy := hm y (by simp)
      have e1 := congrArg UInt8.toNat e.1
      simp at e1
      have := ih (m := r) (fun z hz => hl z (by simp [hz])) (fun z hz => hm z (by simp [hz])) e.2
      rw [this]
      congr 1
      omega
set_option maxHeartbeats 800000 in
theorem unlike_any (a b : Option Addr) (n ca cb : Nat) (l m : List Int) (w : World) (hl : l.length = n) (hm : m.length = n) (bl : Bytes l) (bm : Bytes m) (ra : Row w a l) (rb : Row w b m) (hne : l ≠ m) :
    Calls Tryd.prog 14 #[.slice a n ca, .slice b n cb] w fun e w' => e = .returned (.bool false) ∧ w' = w := by
  have h1 := conv_row (c := ca) hl ra
  have h2 := conv_row (c := cb) hm rb
  have h3 : ((strOfNums l).toList == (strOfNums m).toList) = false := by
    rw [Bool.eq_false_iff]
    intro h
    exact hne (str_inj bl bm (by simpa using h))
  clear ra rb hl hm bl bm hne
  generalize strOfNums l = s at *
  generalize strOfNums m = t at *
  go_enter Tryd.func14, Tryd.ntmps14
  go_wp2
  go_ret
  exact ⟨rfl, rfl⟩
theorem Sl.setAt {w : World} {e : TypeId} {g : Option Nat} {xs : List Value} {b off n cap : Nat} (h : Sl w e (.slice (some ⟨b, off, none⟩) n cap) g xs) (k : Nat) (u : Value) : Sl (w.setCell ⟨b, off + k, none⟩ u) e (.slice (some ⟨b, off, none⟩) n cap) g (xs.set k u) := by
  rcases h with ⟨h, _⟩ | ⟨b', off', cap', cur, h, hg, hh, h1, h2, h3, hc⟩
  · cases h
  · simp at h
    obtain ⟨⟨rfl, rfl⟩, rfl, rfl⟩ := h
    refine .inr ⟨b, off, cap, cur.setIfInBounds (off + k) u, by simp, hg, heap_setCell_same w b (off + k) cur e u hh, by simpa using h1, by simpa using h2, h3, fun i hi => ?_⟩
    simp at hi
    by_cases hik : i = k
    · subst hik
      rw [Array.getElem?_setIfInBounds_self_of_lt (by omega), List.getElem?_set_self (by omega)]
    · rw [Array.getElem?_setIfInBounds_ne (by omega), List.getElem?_set_ne (by omega), hc i hi]
theorem vals_set (l : List Int) (k : Nat) (v : Int) : vals (l.set k v) = (vals l).set k (.int .u8 v) := by simp [vals]
end Go.Proofs.YtomoolipegmlcaaDoor
/- Bytes pushed at once and in pieces. -/
namespace Go.Proofs.YtomoolipegmlcaaDoor
open Go.RowKit
theorem AlPost.open {w w' : World} {bs : List Int} {lim : Nat} {e : Ending} (h : AlPost w bs lim e w') : ∃ r o d a' c' L, e = .returned (.tuple #[.slice a' r.out.length c', .int .i64 r.err, .pointer (some ⟨d, 0, none⟩)]) ∧ Dec w.heap.size w' d lim L o r ∧ L.length ≤ 8 * bs.length ∧ Runs lim St.start (bitsL bs) r ∧ Row w' a' r.out ∧ r.out.length ≤ lim ∧ r.out.length ≤ c' ∧ Below w.heap.size w w' := by
  obtain ⟨r, o, d, v, g, L, he, hd, hL, hr, hs, hg, hb⟩ := h
  obtain ⟨a', c', hv, hle, _, h3⟩ := hs.shape
  rw [vals_len] at hv hle
  exact ⟨r, o, d, a', c', L, by rw [he, hv], hd, hL, hr, hs.row hv, hd.le, hle, hb⟩
theorem bitsL_inj : ∀ {l m : List Int}, Bytes l → Bytes m → bitsL l = bitsL m → l = m
  | [], [], _, _, _ => rfl
  | [], y :: m, _, _, h => by have := congrArg List.length h; rw [bitsL_len, bitsL_len] at this; simp at this
  | x :: l, [], _, _, h => by have := congrArg List.length h; rw [bitsL_len, bitsL_len] at this; simp at this
  | x :: l, y :: m, hl, hm, h => by
    rw [bitsL_cons, bitsL_cons] at h
    obtain ⟨h1, h2⟩ := List.append_inj h (by rw [lowL_len, lowL_len])
    have e := congrArg binN h1
    rw [binN_lowL, binN_lowL] at e
    have b1 := hl x (by simp)
    have b2 := hm y (by simp)
    have e8 : (2 : Int) ^ 8 = 256 := by decide
    rw [e8] at e
    have exy : x = y := by omega
    rw [exy, bitsL_inj (fun z hz => hl z (by simp [hz])) (fun z hz => hm z (by simp [hz])) h2]
theorem Og.rest_one {r : Og} {rs rs' : List Int} (h : r.rest rs) (h' : r.rest rs') : rs = rs' := by
  cases r with
  | stop s l =>
    have h : if s.now = 11 then Bytes rs ∧ l = bitsL rs else rs = [] := h
    have h' : if s.now = 11 then Bytes rs' ∧ l = bitsL rs' else rs' = [] := h'
    by_cases h11 : s.now = 11
    · rw [if_pos h11] at h h'
      exact bitsL_inj h.1 h'.1 (h.2.symm.trans h'.2)
    · rw [if_neg h11] at h h'
      rw [h, h']
  | fail er out => exact Eq.trans h (Eq.symm h')
def RtPost (w : World) (r : Og) (e : Ending) (w' : World) : Prop :=
  ∃ ax cx rs, e = .returned (.slice ax rs.length cx) ∧ r.rest rs ∧ Row w' ax rs ∧ rs.length ≤ cx ∧ (ax = none → cx = 0) ∧ Below w.heap.size w w'
theorem rest_row {base : Nat} {w : World} {d lim : Nat} {L : List Int} {o : Ow} {r : Og} (h : Dec base w d lim L o r) (hL : L.length ≤ 1125899906842624) : Calls Tryd.prog 16 #[.pointer (some ⟨d, 0, none⟩)] w fun e w' => RtPost w r e w' := by
  refine (rest_any h hL).mono ?_
  rintro e w' ⟨v, g, rs, rfl, hr, hs, hg, hb⟩
  obtain ⟨ax, cx, hv, hle, _, h3⟩ := hs.shape
  rw [vals_len] at hv hle
  exact ⟨ax, cx, rs, by rw [hv], hr, hs.row hv, hle, h3, hb⟩
set_option maxHeartbeats 3200000 in
set_option maxRecDepth 20000 in
theorem icuts_walk (a : Option Addr) (len cap : Nat) (s l : Int) (w : World) (hord : Ord w) (ha : BArg w a len cap) (ws : (Lit.int .u8 s).wf = true) (wl : (Lit.int .u16 l).wf = true) :
    Calls Tryd.prog 4 #[.slice a len cap, .int .u8 s, .int .u16 l] w fun e w' => e = .returned (.bool true) ∧ Below w.heap.size w w' := by
  have hs := bounds_u8 ws
  have hl := bounds_u16 wl
  clear ws wl
  obtain ⟨m, rfl⟩ : ∃ m : Nat, l = (m : Int) := ⟨l.toNat, by omega⟩
  obtain ⟨q, rfl⟩ : ∃ q : Nat, s = (q : Int) := ⟨s.toNat, by omega⟩
  obtain ⟨A, hA, rfl, hn, hc, hc0, hAr⟩ := ha
  have HA : Hid (Bytes A ∧ Row w a A ∧ (a = none → cap = 0) ∧ Ord w) := ⟨hA, hAr, hc0, hord⟩
  clear hA hAr hc0 hord
  by_cases hbig : 2000 < (A.length : Int)
  · go_enter Tryd.func4, Tryd.ntmps4
    go_wp2_with (go_at_call 9; refine (fixed_any _ HA.out.2.2.2).mono ?_; rintro e w1 ⟨rfl, hbel⟩)
    go_ret
    exact ⟨rfl, hbel⟩
  obtain ⟨N, hN⟩ : ∃ N : Nat, 1 + q % 16 = N := ⟨_, rfl⟩
  have hN1 : 1 ≤ N ∧ N ≤ 100 := by omega
  have hNi : (1 : Int) + ((q : Int) % 16) = (N : Int) := by omega
  go_enter Tryd.func4, Tryd.ntmps4
  go_wp2_with fail
  refine (fixed_any _ HA.out.2.2.2).mono ?_
  rintro e w1 ⟨rfl, b1⟩
  have HO1 : Hid (Ord w1) := HA.out.2.2.2.below b1 HA.out.2.2.2.pos
  have HB1 : Hid (Below w.heap.size w w1) := b1
  clear b1
  go_wp2_with fail
  refine (all_zero a cap A m w1 (HA.out.2.1.old HB1.out) HA.out.1 hn hc HA.out.2.2.1 (by omega) (by omega) HO1.out).mono ?_
  rintro e w2 hp
  obtain ⟨r, o, d, ax, cx, L, rfl, hd, hL, hr, hrow, hle, hcx, b2⟩ := hp.open
  have H2 : Hid (Dec w1.heap.size w2 d m L o r ∧ L.length ≤ 8 * A.length ∧ Runs m St.start (bitsL A) r ∧ Row w2 ax r.out) := ⟨hd, hL, hr, hrow⟩
  have HB2 : Hid (Below w.heap.size w w2) := HB1.out.trans (b2.mono HB1.out.size)
  have HO2 : Hid (Ord w2) := HA.out.2.2.2.below HB2.out HA.out.2.2.2.pos
  have HP2 := all_pos a cap A N m w2 (HA.out.2.1.old HB2.out) HA.out.1 hn hc HA.out.2.2.1 (by omega) (by omega) hN1.1 hN1.2 HO2.out
  obtain ⟨ER, hER⟩ : ∃ ER, r.err = ER := ⟨_, rfl⟩
  have HER : Hid (r.err = ER) := hER
  obtain ⟨Z, hZ⟩ : ∃ Z, r.out.length = Z := ⟨_, rfl⟩
  have HZ : Hid (r.out.length = Z) := hZ
  have hZl : Z ≤ 65535 := by omega
  rw [hER, hZ]
  clear hp hd hL hr hrow b2 HB1 HO1 hER hZ hle hcx
  go_wp2_with fail
  refine HP2.mono ?_
  rintro e w3 hp
  obtain ⟨r2, o2, d2, ay, cy, L2, rfl, hd, hL, hr, hrow, hle, hcy, b3⟩ := hp.open
  obtain rfl : r = r2 := H2.out.2.2.1.det hr
  have H3 : Hid (Dec w2.heap.size w3 d2 m L2 o2 r ∧ L2.length ≤ 8 * A.length ∧ Row w3 ay r.out ∧ Dec w1.heap.size w3 d m L o r ∧ L.length ≤ 8 * A.length ∧ Row w3 ax r.out) := ⟨hd, hL, hrow, H2.out.1.old b3, H2.out.2.1, H2.out.2.2.2.old b3⟩
  have HB3 : Hid (Below w.heap.size w w3) := HB2.out.trans (b3.mono HB2.out.size)
  rw [HER.out, HZ.out]
  clear HP2 hp hd hL hr hrow hle hcy b3 H2 HB2 HO2
  have HSM := same_any ax ay Z cx cy r.out w3 HZ.out H3.out.2.2.2.2.2 H3.out.2.2.1
  go_wp2_with fail
  refine HSM.mono ?_
  rintro e w4 ⟨rfl, hw⟩
  rw [hw]
  clear hw HSM
  have HD1 := done_any H3.out.2.2.2.1
  go_wp2_with fail
  refine HD1.mono ?_
  rintro e w4 ⟨rfl, hw⟩
  rw [hw]
  clear hw HD1
  have HD2 := done_any H3.out.1
  go_wp2_with fail
  refine HD2.mono ?_
  rintro e w4 ⟨rfl, hw⟩
  rw [hw]
  clear hw HD2
  obtain ⟨EN, hEN⟩ : ∃ EN, r.ended = EN := ⟨_, rfl⟩
  rw [hEN]
  clear hEN
  have HR1 := rest_row H3.out.2.2.2.1 (by have := H3.out.2.2.2.2.1; omega)
  go_wp2_with fail
  refine HR1.mono ?_
  rintro e w5 ⟨au, cu, rs, rfl, hrs, hrow, _, _, b5⟩
  have H5 : Hid (r.rest rs ∧ Row w5 au rs ∧ Dec w2.heap.size w5 d2 m L2 o2 r ∧ Dec w1.heap.size w5 d m L o r) := ⟨hrs, hrow, H3.out.1.old b5, H3.out.2.2.2.1.old b5⟩
  have HB5 : Hid (Below w.heap.size w w5) := HB3.out.trans (b5.mono HB3.out.size)
  have HR2 := rest_row H5.out.2.2.1 (by have := H3.out.2.1; omega)
  clear HR1 hrs hrow b5
  go_wp2_with fail
  refine HR2.mono ?_
  rintro e w6 ⟨av, cv, rs2, rfl, hrs, hrow, _, _, b6⟩
  obtain rfl : rs = rs2 := Og.rest_one H5.out.1 hrs
  have H6 : Hid (Dec w2.heap.size w6 d2 m L2 o2 r ∧ Dec w1.heap.size w6 d m L o r) := ⟨H5.out.2.2.1.old b6, H5.out.2.2.2.old b6⟩
  have HB6 : Hid (Below w.heap.size w w6) := HB5.out.trans (b6.mono HB5.out.size)
  have HSR := same_any au av rs.length cu cv rs w6 rfl (H5.out.2.1.old b6) hrow
  generalize rs.length = RL at *
  clear HR2 hrs hrow b6 H5 HB5 HB3 H3
  go_wp2_with fail
  refine HSR.mono ?_
  rintro e w7 ⟨rfl, hw⟩
  rw [hw]
  clear hw HSR
  have HT1 := total_any H6.out.2
  go_wp2_with fail
  refine HT1.mono ?_
  rintro e w7 ⟨rfl, hw⟩
  rw [hw, HZ.out]
  clear hw HT1
  have HT2 := total_any H6.out.1
  go_wp2_with fail
  refine HT2.mono ?_
  rintro e w7 ⟨rfl, hw⟩
  rw [hw, HZ.out]
  clear hw HT2
  go_wp2
  go_ret
  exact ⟨rfl, HB6.out⟩
end Go.Proofs.YtomoolipegmlcaaDoor
