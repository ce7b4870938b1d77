/- The best lengths, as the program finds them. -/
import Derived.Test.YtjellgkojmgmjaaHhA
namespace Go.Proofs.Ytjellgkojmgmjaa
open Go.RowKit

def okCount (n : Int) : Bool := decide (0 ≤ n) && decide (n ≤ 2147483648)
def okCounts (cs : List Int) : Bool := decide (cs.length ≤ 288) && cs.all okCount
theorem okCounts_no {ls : List Int} (k : Nat) (hk : k < ls.length) (h : ls[k]?.getD 0 < 0 ∨ 2147483648 < ls[k]?.getD 0) : okCounts ls = false := by
  have : ls.all okCount = false := by
    rw [Bool.eq_false_iff]
    intro ha
    have := List.all_eq_true.1 ha _ (List.getElem_mem hk)
    rw [List.getElem?_eq_getElem hk] at h
    simp [okCount] at this h
    omega
  simp [okCounts, this]
theorem okCounts_yes {ls : List Int} (hl : ls.length ≤ 288) (h : ∀ k, k < ls.length → 0 ≤ ls[k]?.getD 0 ∧ ls[k]?.getD 0 ≤ 2147483648) : okCounts ls = true := by
  have : ls.all okCount = true := by
    rw [List.all_eq_true]
    intro x hx
    obtain ⟨k, hk, rfl⟩ := List.mem_iff_getElem.1 hx
    have := h k hk
    rw [List.getElem?_eq_getElem hk] at this
    simpa [okCount] using this
  simp [okCounts, this, hl]
theorem okCounts_long {ls : List Int} (hl : 288 < ls.length) : okCounts ls = false := by simp [okCounts]; omega
theorem okCounts_few {ls : List Int} (h : okCounts ls = true) : ls.length ≤ 288 := by
  simp only [okCounts, Bool.and_eq_true] at h
  simpa using h.1
theorem okCounts_mem {ls : List Int} (h : okCounts ls = true) : ∀ x ∈ ls, 0 ≤ x ∧ x ≤ 2147483648 := by
  simp only [okCounts, Bool.and_eq_true, List.all_eq_true] at h
  intro x hx
  simpa [okCount] using h.2 x hx

set_option maxHeartbeats 800000 in
theorem countable_any (a : Option Addr) (len cap : Nat) (ls : List Int) (w : World) (hn : ls.length = len) (hl : len ≤ 140737488355328) (hr : IRow w a ls) :
    Calls Try.prog 40 #[.slice a len cap] w fun e w' => e = .returned (.bool (okCounts ls)) ∧ w' = w := by
  have HN : Hid (ls.length = len) := hn
  have HR : Hid (IRow w a ls) := hr
  clear hn hr
  by_cases hlong : 288 < len
  · have hz : (288 : Int) < (len : Int) := by omega
    have HO : Hid (okCounts ls = false) := okCounts_long (by rw [HN.out]; exact hlong)
    go_enter Try.func40, Try.ntmps40
    go_wp2
    go_ret
    exact ⟨ret_bool HO.out.symm, rfl⟩
  · have hz : ¬ (288 : Int) < (len : Int) := by omega
    go_enter Try.func40, Try.ntmps40
    go_wp2
    go_loop [10] (fun i => ∃ k : Nat, k ≤ len ∧ i = .int .i64 k ∧ Hid (∀ j, j < k → 0 ≤ ls[j]?.getD 0 ∧ ls[j]?.getD 0 ≤ 2147483648)) (fun i => len - (intOf i).toNat)
    case atStart => exact ⟨0, Nat.zero_le _, rfl, fun j hj => by omega⟩
    case round =>
      obtain ⟨k, hk, rfl, HA⟩ := hrel
      by_cases hlt : k < len
      · obtain ⟨b, off, rfl, hck⟩ := HR.out.at k (by have := HN.out; omega)
        by_cases h0 : ls[k]?.getD 0 < 0
        · have HO : Hid (okCounts ls = false) := okCounts_no k (by rw [HN.out]; exact hlt) (.inl h0)
          generalize ls[k]?.getD 0 = z at *
          go_wp2
          go_ret
          exact ⟨ret_bool HO.out.symm, rfl⟩
        · by_cases h1 : 2147483648 < ls[k]?.getD 0
          · have HO : Hid (okCounts ls = false) := okCounts_no k (by rw [HN.out]; exact hlt) (.inr h1)
            generalize ls[k]?.getD 0 = z at *
            go_wp2
            go_ret
            exact ⟨ret_bool HO.out.symm, rfl⟩
          · have HB : Hid (∀ j, j < k + 1 → 0 ≤ ls[j]?.getD 0 ∧ ls[j]?.getD 0 ≤ 2147483648) := fun j hj => by
              by_cases hjk : j < k
              · exact HA.out j hjk
              · obtain rfl : j = k := by omega
                omega
            clear HA
            generalize ls[k]?.getD 0 = z at h0 h1 hck
            go_wp2
            go_round
            case rel => exact ⟨k + 1, by omega, by go_num, HB.out⟩
            case measure => simp [intOf]; omega
      · have HO : Hid (okCounts ls = true) := okCounts_yes (by rw [HN.out]; omega) (fun j hj => HA.out j (by rw [HN.out] at hj; omega))
        go_wp2
        go_ret
        exact ⟨ret_bool HO.out.symm, rfl⟩
theorem sing_bd (len : Nat) (cs : List Int) (k : Nat) (h : k + cs.length ≤ len) (hc : ∀ x ∈ cs, 0 ≤ x ∧ x ≤ 2147483648) : Bd len 0 (sing k cs) := by
  induction cs generalizing k with
  | nil => intro p hp; simp [sing] at hp
  | cons x r ih =>
    have h' : k + 1 + r.length ≤ len := by rw [List.length_cons] at h; omega
    have ih' := ih (k + 1) h' (fun y hy => hc y (by simp [hy]))
    intro p hp
    rw [sing] at hp
    by_cases hx : 0 < x
    · rw [if_pos hx] at hp
      rcases List.mem_cons.1 hp with rfl | hp
      · refine ⟨hx, by have := hc x (by simp); simp only; omega, Nat.le_refl _, fun s hs => ?_⟩
        simp only [List.mem_cons, List.not_mem_nil, or_false] at hs
        subst hs
        rw [List.length_cons] at h
        omega
      · exact ih' p hp
    · rw [if_neg hx] at hp; exact ih' p hp
set_option maxHeartbeats 400000 in
theorem lengths_arg (a : Option Addr) (len cap : Nat) (cs : List Int) (most : Int) (w : World) (hn : cs.length = len) (hl : len ≤ 140737488355328) (hr : IRow w a cs) (h : okCounts cs = false ∨ most < 1 ∨ 15 < most) :
    Calls Try.prog 23 #[.slice a len cap, .int .i64 most] w fun e w' => e = .returned (.tuple #[.slice none 0 0, .int .i64 1]) ∧ w' = w := by
  have C := countable_any a len cap cs w hn hl hr
  cases hk : okCounts cs with
  | false =>
    rw [hk] at C
    clear hn hr h hk
    go_enter Try.func23, Try.ntmps23
    go_wp2_with (go_at_call 40; refine C.mono ?_; rintro e w' ⟨rfl, rfl⟩)
    go_ret2
    exact ⟨rfl, rfl⟩
  | true =>
    rw [hk] at C h
    have h' : most < 1 ∨ 15 < most := by simpa using h
    clear hn hr h hk
    by_cases h1 : most < 1
    · clear h'
      go_enter Try.func23, Try.ntmps23
      go_wp2_with (go_at_call 40; refine C.mono ?_; rintro e w' ⟨rfl, rfl⟩)
      go_ret2
      exact ⟨rfl, rfl⟩
    · have h2 : 15 < most := by omega
      clear h'
      go_enter Try.func23, Try.ntmps23
      go_wp2_with (go_at_call 40; refine C.mono ?_; rintro e w' ⟨rfl, rfl⟩)
      go_ret2
      exact ⟨rfl, rfl⟩
set_option maxHeartbeats 400000 in
theorem lengths_code (a : Option Addr) (len cap : Nat) (cs : List Int) (most : Nat) (w : World) (hn : cs.length = len) (hl : len ≤ 140737488355328) (hr : IRow w a cs) (hk : okCounts cs = true) (h1 : 1 ≤ most) (h2 : most ≤ 15) (h : 2 ^ most < wordsN cs) :
    Calls Try.prog 23 #[.slice a len cap, .int .i64 most] w fun e w' => e = .returned (.tuple #[.slice none 0 0, .int .i64 5]) ∧ w' = w := by
  have C := countable_any a len cap cs w hn hl hr
  have C2 := withWord_any a len cap cs w hn hl hr
  rw [hk] at C
  have hp : (2 : Int) ^ most = ((2 ^ most : Nat) : Int) := by rw [Int.natCast_pow]; rfl
  have hq : (2 : Nat) ^ most ≤ 2 ^ 15 := Nat.pow_le_pow_right (by omega) h2
  obtain ⟨P, hP⟩ : ∃ P : Nat, 2 ^ most = P := ⟨_, rfl⟩
  rw [hP] at hp hq h
  have hw : wrap64 (2 ^ most) = 2 ^ most := by rw [hp]; unfold wrap64; omega
  have hlt : (2 : Int) ^ most < (wordsN cs : Int) := by rw [hp]; omega
  clear hn hr hk hp hP
  generalize wordsN cs = W at *
  go_enter Try.func23, Try.ntmps23
  go_wp2_with (first | (go_at_call 40; refine C.mono ?_; rintro e w' ⟨rfl, rfl⟩) | (go_at_call 28; refine C2.mono ?_; rintro e w' ⟨rfl, rfl⟩))
  go_ret2
  exact ⟨rfl, rfl⟩

/-- The lengths out of parcels in their order. -/
def lensOf (len most : Nat) (ps : List Pc) : List Int :=
  if ps.length = 1 then cnt len (ps.flatMap Prod.snd) else cnt len (((rowN ps (most - 1)).take (2 * ps.length - 2)).flatMap Prod.snd)
def RisingP (ps : List Pc) : Prop := ps.Pairwise fun a b => a.1 ≤ b.1
def LenPost (w : World) (cs : List Int) (most : Nat) (e : Ending) (w' : World) : Prop :=
  ∃ g ps, e = .returned (.tuple #[.slice (some ⟨g, 0, none⟩) cs.length cs.length, .int .i64 0]) ∧ ps.Perm (sing 0 cs) ∧ RisingP ps ∧ LRow w' g (lensOf cs.length most ps) ∧ w.heap.size ≤ g ∧ Below w.heap.size w w'
theorem rising_ps {w : World} {ys : List Pv} {ps : List Pc} (h : PS w ys ps) (hr : Rising ys) : RisingP ps := by
  induction h with
  | nil => exact .nil
  | @cons x p xs ps h1 h2 ih =>
    obtain ⟨r1, r2⟩ := List.pairwise_cons.1 hr
    refine List.pairwise_cons.2 ⟨fun q hq => ?_, ih r2⟩
    obtain ⟨i, hi, rfl⟩ := List.mem_iff_getElem.1 hq
    have hl := All2.len h2
    have := All2.at h2 i (by omega)
    have hm := r1 (xs[i]?.getD default) (by rw [List.getElem?_eq_getElem (by omega)]; exact List.getElem_mem _)
    rw [List.getElem?_eq_getElem (by omega), List.getElem?_eq_getElem hi] at this
    rw [List.getElem?_eq_getElem (by omega)] at hm
    have e1 := this.1
    have e2 := h1.1
    simp only [Option.getD_some] at e1 hm
    omega
theorem PRow.cap {w : World} {base : Nat} {a : Option Addr} {n cap : Nat} {xs : List Pv} (h : PRow w base (.slice a n cap) xs) : cap ≤ maxLen := by
  rcases h.2 with ⟨h, _⟩ | ⟨g, c, cur, h, _, _, _, h2, _⟩
  · simp only [Value.slice.injEq] at h
    rw [h.2.2]; exact Nat.zero_le _
  · simp only [Value.slice.injEq] at h
    rw [h.2.2]; exact h2
theorem PRow.setL {w : World} {base g i : Nat} {v u : Value} {xs : List Pv} {ls : List Int} (h : PRow w base v xs) (hl : LRow w g ls) : PRow (w.setCell ⟨g, i, none⟩ u) base v xs := by
  obtain ⟨h1, h⟩ := h
  refine ⟨h1, ?_⟩
  rcases h with h | ⟨b, cap, cur, h, hb', hh, r⟩
  · exact .inl h
  · refine .inr ⟨b, cap, cur, h, hb', (Below.heap_setCell w _ u b ?_).trans hh, r⟩
    intro e
    simp only at e
    subst e
    unfold LRow at hl
    rw [hl] at hh
    simp at hh
theorem PS.setL {w : World} {g i : Nat} {u : Value} {xs : List Pv} {ps : List Pc} (h : PS w xs ps) (hg : ∀ x ∈ xs, g < x.b) : PS (w.setCell ⟨g, i, none⟩ u) xs ps :=
  All2.imp h fun x _ hx k => ⟨k.1, k.2.same (Below.heap_setCell w _ u x.b (by have := hg x hx; simp; omega))⟩
theorem bd_use {len k : Nat} {ps : List Pc} (hk : k ≤ 14) (h : Bd len k ps) : ∀ p ∈ ps, 0 ≤ p.1 ∧ p.1 ≤ 70368744177664 ∧ p.2.length ≤ 100000 := fun p hp => by
  obtain ⟨h1, h2, h3, _⟩ := h p hp
  have e1 : (2 : Nat) ^ k ≤ 2 ^ 14 := Nat.pow_le_pow_right (by omega) hk
  have e2 : (2 : Int) ^ k = ((2 ^ k : Nat) : Int) := by rw [Int.natCast_pow]; rfl
  rw [e2] at h2
  generalize (2 : Nat) ^ k = P at *
  omega
theorem flat_le (l : List Pc) (h : ∀ p ∈ l, p.2.length ≤ 16384) : (l.flatMap Prod.snd).length ≤ 16384 * l.length := by
  induction l with
  | nil => exact Nat.le_refl _
  | cons p r ih =>
    have h1 := h p (by simp)
    have h2 := ih fun q hq => h q (by simp [hq])
    rw [List.flatMap_cons, List.length_append, List.length_cons]
    omega
theorem flat_snoc (l : List Pc) (j : Nat) (hj : j < l.length) : (l.take (j + 1)).flatMap Prod.snd = (l.take j).flatMap Prod.snd ++ (l[j]?.getD default).2 := by
  rw [List.take_succ_eq_append_getElem hj, List.flatMap_append, List.getElem?_eq_getElem hj]
  simp
theorem row_small {len k : Nat} {ps : List Pc} (hk : k ≤ 14) (h : Bd len k ps) : ∀ p ∈ ps, p.2.length ≤ 16384 := fun p hp => by
  have h3 := (h p hp).2.2.1
  have e1 : (2 : Nat) ^ k ≤ 2 ^ 14 := Nat.pow_le_pow_right (by omega) hk
  omega
/-- Behind the symbols T. -/
def LcRel (w : World) (g len : Nat) (rows : List Pc) (v9 : Value) (xs : List Pv) (T : List Int) (wr : World) : Prop :=
  PRow wr w.heap.size v9 xs ∧ PS wr xs rows ∧ LRow wr g (cnt len T) ∧ Below w.heap.size w wr
/-- Behind k rounds: the single parcels, and the row. -/
def LnRel (w : World) (g len : Nat) (ps : List Pc) (v8 : Value) (k : Nat) (v9 : Value) (wr : World) : Prop :=
  ∃ ss xs, PRow wr w.heap.size v8 ss ∧ PS wr ss ps ∧ PRow wr w.heap.size v9 xs ∧ PS wr xs (rowN ps k) ∧ (∀ x ∈ ss, g < x.b) ∧ (∀ x ∈ xs, g < x.b) ∧ LRow wr g (cnt len []) ∧ Below w.heap.size w wr
set_option maxHeartbeats 1600000 in
set_option maxRecDepth 20000 in
theorem lengths_yes (a : Option Addr) (len cap : Nat) (cs : List Int) (most : Nat) (w : World) (hn : cs.length = len) (hr : IRow w a cs) (hk : okCounts cs = true) (h1 : 1 ≤ most) (h2 : most ≤ 15) (h : wordsN cs ≤ 2 ^ most)
    (hsort : ∀ base w' v xs, xs.length = wordsN cs → Sorts w' base v xs) :
    Calls Try.prog 23 #[.slice a len cap, .int .i64 most] w fun e w' => LenPost w cs most e w' := by
  have hl : len ≤ 288 := by rw [← hn]; exact okCounts_few hk
  have C := countable_any a len cap cs w hn (by omega) hr
  have C2 := withWord_any a len cap cs w hn (by omega) hr
  rw [hk] at C
  have hp : (2 : Int) ^ most = ((2 ^ most : Nat) : Int) := by rw [Int.natCast_pow]; rfl
  have hq : (2 : Nat) ^ most ≤ 2 ^ 15 := Nat.pow_le_pow_right (by omega) h2
  have HM : Hid (wordsN cs ≤ 2 ^ most) := h
  obtain ⟨P, hP⟩ : ∃ P : Nat, 2 ^ most = P := ⟨_, rfl⟩
  rw [hP] at hp hq h
  have hw : wrap64 (2 ^ most) = 2 ^ most := by rw [hp]; unfold wrap64; omega
  have hlt : ¬ (2 : Int) ^ most < (wordsN cs : Int) := by rw [hp]; omega
  have HN : Hid (cs.length = len) := hn
  have HR : Hid (IRow w a cs) := hr
  have HK : Hid (okCounts cs = true) := hk
  have HSO : Hid (∀ base w' v xs, xs.length = wordsN cs → Sorts w' base v xs) := hsort
  have hW : wordsN cs ≤ 288 := by have := wordsN_le cs; omega
  clear hn hr hk hp hP hsort h hq
  obtain ⟨W, hWW⟩ : ∃ W, wordsN cs = W := ⟨_, rfl⟩
  rw [hWW] at C2 hlt hW HM
  have HWW : Hid (wordsN cs = W) := hWW
  clear hWW
  obtain ⟨i0, hi, hz0, hz1, hz2⟩ := info_parts Try.info3
  have hmk : i0.bytes * len ≤ 281474976710656 := by rw [hz2]; omega
  go_enter Try.func23, Try.ntmps23
  go_wp2_with (first | (go_at_call 40; refine C.mono ?_; rintro e w ⟨rfl, rfl⟩) | (go_at_call 28; refine C2.mono ?_; rintro e w ⟨rfl, rfl⟩) | (at_make; refine wpList_make_full _ rfl _ _ 22 rfl w.heap.size 3 i0 _ 1 Try.underlying22 hi hz0 hz1 .i64 .i64 len len len rfl rfl rfl rfl hmk (by unfold maxLen; omega) (Nat.le_refl _) ?_; intro w1 hown hgrow))
  have hb1 : Below w.heap.size w w1 := ⟨hgrow.os, hgrow.tape, hgrow.output, hgrow.size, fun k hk => hgrow.block k hk (by simp)⟩
  have HL1 : Hid (LRow w1 w.heap.size (cnt len [])) := by rw [cnt_nil]; exact LRow.made hown
  have HB1 : Hid (Below w.heap.size w w1) := hb1
  clear hown hgrow hb1
  refine (singles_any a len cap cs w1 HN.out hl (HR.out.old HB1.out) (fun w' v xs h => HSO.out _ w' v xs h)).mono ?_
  rintro e w2 ⟨v8, ss, ps, rfl, hp8, hps8, hperm, hris, hsb, hb2⟩
  have hgw1 : w.heap.size < w1.heap.size := lt_of_block HL1.out
  have HSB : Hid (∀ x ∈ ss, w.heap.size < x.b) := fun x hx => Nat.lt_of_lt_of_le hgw1 (hsb x hx)
  have HPL : Hid (ps.length = W) := by rw [hperm.length_eq, sing_len]; exact HWW.out
  have HBD : Hid (Bd len 0 ps) := by
    have h := sing_bd len cs 0 (by rw [HN.out]; omega) (okCounts_mem HK.out)
    intro p hp
    exact h p (hperm.mem_iff.1 hp)
  have HRP : Hid (RisingP ps) := rising_ps hps8 hris
  have HPM : Hid (ps.Perm (sing 0 cs)) := hperm
  have HP8 : Hid (PRow w2 w.heap.size v8 ss ∧ PS w2 ss ps) := ⟨hp8.lower HB1.out.size, hps8⟩
  have HB2 : Hid (Below w.heap.size w w2) := HB1.out.trans (hb2.mono HB1.out.size)
  have HL2 : Hid (LRow w2 w.heap.size (cnt len [])) := HL1.out.same (hb2.block _ hgw1)
  have HSL : Hid (ss.length = W) := by rw [All2.len hps8]; exact HPL.out
  clear hp8 hps8 hperm hris hsb hb2 HL1 HB1 C C2 hgw1 HWW
  obtain ⟨g, hg⟩ : ∃ g, w.heap.size = g := ⟨_, rfl⟩
  have HG : Hid (w.heap.size = g) := hg
  obtain ⟨a8, c8, hv8⟩ := HP8.out.1.shape
  rw [HSL.out] at hv8
  subst hv8
  by_cases hW1 : W = 1
  · have hWb : ((W : Int) == 1) = true := by simp; omega
    have hW0 : (0 : Int) < (W : Int) := by omega
    obtain ⟨x, rfl⟩ := List.length_eq_one_iff.1 (HSL.out.trans hW1)
    obtain ⟨p, rfl⟩ := List.length_eq_one_iff.1 (HPL.out.trans hW1)
    clear hW1
    obtain ⟨-, -, -, hrv, -⟩ := HP8.out.1.rv
    obtain ⟨b, off, rfl, x0, x1⟩ := hrv.at 0 (by simp)
    obtain ⟨hrp⟩ : Rp w2 x p := by cases HP8.out.2 with | cons h _ => exact h
    rename_i hsy
    obtain ⟨xw, xb, xn, xc⟩ := x
    obtain ⟨pw, sy⟩ := p
    have hbd := HBD.out (pw, sy) (by simp)
    have hsl : sy.length = 1 := by have h1 := hsy.1; have h2 := hsy.2.1; have h3 := hbd.2.2.1; simp only at h1 h2 h3; omega
    obtain ⟨s0, rfl⟩ := List.length_eq_one_iff.1 hsl
    obtain ⟨hb0, hb1⟩ := hbd.2.2.2 s0 (by simp)
    have hxn : xn = 1 := hsy.1
    subst hxn
    obtain ⟨-, -, -, -, cur, hcur, hcc⟩ := hsy
    have y0 : w2.cell? ⟨xb, 0, none⟩ = some (.int .i64 s0) := by have := hcc 0 (by simp); simp [World.cell?, hcur, this]
    simp only [List.getElem?_cons_zero, Option.getD_some, Nat.zero_mul, Nat.add_zero] at x0 x1
    obtain ⟨s, rfl⟩ := Int.eq_ofNat_of_zero_le hb0
    have hsl2 : s < len := by omega
    have hlr := HL2.out
    rw [hg] at hlr
    obtain ⟨l0, l1⟩ := hlr.cell s (by rw [cnt_len]; exact hsl2)
    rw [cnt_at _ _ _ hsl2, List.count_nil] at l0
    have R : Hid (LenPost w cs most (.returned (.tuple #[.slice (some ⟨g, 0, none⟩) len len, .int .i64 0])) (w2.setCell ⟨g, s, none⟩ (.int .i64 1))) := by
      refine ⟨g, [(pw, [(s : Int)])], by rw [HN.out], HPM.out, HRP.out, ?_, by rw [HG.out]; exact Nat.le_refl _, Fr.below HB2.out (Fr.set g s _ none) (by rw [HG.out]; exact Nat.le_refl _) (by intro q hq; cases hq) HB2.out.size⟩
      have h := hlr.set s 1
      have e := cnt_set len [] s hsl2
      unfold lensOf
      have e0 : [(pw, [(s : Int)])].length = 1 := rfl
      rw [HN.out, if_pos e0]
      simp only [List.count_nil] at e
      rw [show ((0 : Nat) : Int) + 1 = 1 from rfl] at e
      rw [e] at h
      exact h
    rw [hg]
    clear hrv hcur hcc hbd hlr HP8 HL2 HB2 HPM HRP HBD hg hsl hb0 hrp HPL HSL
    have hsz : (s : Int) < (len : Int) := by omega
    go_wp2
    go_ret2
    exact R.out
  · have hW1b : ((W : Int) == 1) = false := by simp; omega
    have HS : Hid (LnRel w g len ps (.slice a8 W c8) 0 (.slice a8 W c8) w2) := ⟨ss, ss, HP8.out.1, HP8.out.2, HP8.out.1, HP8.out.2, by rw [← HG.out]; exact HSB.out, by rw [← HG.out]; exact HSB.out, by rw [← HG.out]; exact HL2.out, HB2.out⟩
    rw [hg]
    clear HP8 HB2 HL2 hg
    go_wp2
    go_loopw [9, 50] (fun v9 i wr => ∃ k : Nat, k ≤ most - 1 ∧ i = .int .i64 k ∧ LnRel w g len ps (.slice a8 W c8) k v9 wr) (fun _ i _ => most - (intOf i).toNat)
    case atStart => exact ⟨0, Nat.zero_le _, rfl, HS.out⟩
    case round =>
      clear HS
      obtain ⟨k, hk, rfl, ss', xs, hp8, hps8, hp9, hps9, hsg, hxg, hlr, hbel⟩ := hrel
      obtain ⟨a9, c9, hv9⟩ := hp9.shape
      subst hv9
      have HXL : Hid (xs.length = (rowN ps k).length) := All2.len hps9
      have hx576 : xs.length ≤ 576 := by rw [HXL.out]; have := rowN_le ps k; have := HPL.out; omega
      by_cases hkm : k < most - 1
      · obtain ⟨_, q1, q2, q3, _⟩ := hp9.rv
        have q4 := hp9.cap
        obtain ⟨s0, s1, s2, s3, _⟩ := hp8.rv
        have s4 := hp8.cap
        have C4 := paired_any a9 xs.length c9 xs (rowN ps k) wr rfl (by omega) q1 q4 q3 hps9 (bd_use (by omega) (HBD.out.row k))
        have HKK : Hid (PRow wr w.heap.size (.slice a8 W c8) ss' ∧ PS wr ss' ps ∧ RV wr a8 ss' ∧ ss'.length = W ∧ (∀ x ∈ ss', g < x.b) ∧ LRow wr g (cnt len []) ∧ Below w.heap.size w wr) := ⟨hp8, hps8, s3, s0.symm, hsg, hlr, hbel⟩
        have hgw : g < wr.heap.size := lt_of_block hlr
        clear hp8 hps8 hp9 hps9 hsg hxg hlr hbel q1 q2 q3 q4 s0 s2 s3 s4
        have hkz : (k : Int) < (most : Int) - 1 := by omega
        go_wp2_with fail
        refine C4.mono ?_
        rintro e w3 ⟨vp, yp, rfl, hpp, hpsp, hypb, hb3⟩
        obtain ⟨ap, cp, hvp⟩ := hpp.shape
        subst hvp
        obtain ⟨_, r1, r2, r3, _⟩ := hpp.rv
        have r4 := hpp.cap
        have hyl : yp.length ≤ 576 := by rw [All2.len hpsp, prs_len]; have := HXL.out; omega
        have C5 := laid_any a8 ap W yp.length c8 cp ss' yp w3 HKK.out.2.2.2.1 rfl (by omega) r2 r1 r4 (HKK.out.2.2.1.old hb3) r3
        have HK3 : Hid (PRow w3 w.heap.size (.slice a8 W c8) ss' ∧ PS w3 ss' ps ∧ PS w3 yp (prs (rowN ps k)) ∧ (∀ x ∈ yp, g < x.b) ∧ LRow w3 g (cnt len []) ∧ Below w.heap.size w w3) :=
          ⟨HKK.out.1.kept hb3, PS.old HKK.out.2.1 hb3, hpsp, fun x hx => Nat.lt_of_lt_of_le hgw (hypb x hx), HKK.out.2.2.2.2.2.1.same (hb3.block _ hgw), HKK.out.2.2.2.2.2.2.trans (hb3.mono HKK.out.2.2.2.2.2.2.size)⟩
        have HSG : Hid (∀ x ∈ ss', g < x.b) := HKK.out.2.2.2.2.1
        clear hpp hpsp hypb hb3 r1 r2 r3 r4 C4 HKK
        go_wp2_with fail
        refine C5.mono ?_
        rintro e w4 ⟨v4, rfl, hp4, hb4⟩
        have R : Hid (LnRel w g len ps (.slice a8 W c8) (k + 1) v4 w4) := by
          obtain ⟨m1, m2, m3, m4, m5, m6⟩ := HK3.out
          refine ⟨ss', _, m1.kept hb4, PS.old m2 hb4, hp4.lower m6.size, ?_, HSG.out, fun x hx => ?_, m5.same (hb4.block _ (lt_of_block m5)), m6.trans (hb4.mono m6.size)⟩
          · exact All2.mrg (fun x y h => h.1) (PS.old m2 hb4) (PS.old m3 hb4)
          · rcases mem_mrg _ hx with hx | hx
            · exact HSG.out x hx
            · exact m4 x hx
        clear hp4 hb4 HK3 HSG C5
        go_wp2
        go_roundw
        case rel => exact ⟨k + 1, by omega, by go_num, R.out⟩
        case measure => simp [intOf]; omega
      · obtain rfl : k = most - 1 := by omega
        have hkz : ¬ ((most - 1 : Nat) : Int) < (most : Int) - 1 := by omega
        obtain ⟨_, q1, q2, q3, _⟩ := hp9.rv
        have q4 := hp9.cap
        unfold maxLen at q4
        obtain ⟨M, hM⟩ : ∃ M, 2 * W - 2 = M := ⟨_, rfl⟩
        have hmx : max (0 : Int) (2 * (W : Int) - 2) = (M : Int) := by omega
        have hMl : M ≤ xs.length := by
          rw [HXL.out, ← hM]
          have := rowN_ge ps most h1 (by rw [HPL.out]; exact HM.out)
          rw [HPL.out] at this
          exact this
        have HMM : Hid (2 * W - 2 = M) := hM
        have HKK : Hid (PRow wr w.heap.size (.slice a9 xs.length c9) xs ∧ PS wr xs (rowN ps (most - 1)) ∧ (∀ x ∈ xs, g < x.b) ∧ LRow wr g (cnt len []) ∧ Below w.heap.size w wr) := ⟨hp9, hps9, hxg, hlr, hbel⟩
        clear hp8 hps8 hp9 hps9 hsg hxg hlr hbel hM
        obtain ⟨rows, hrows⟩ : ∃ rows, rowN ps (most - 1) = rows := ⟨_, rfl⟩
        rw [hrows] at HKK HXL
        have HRB : Hid (Bd len (most - 1) rows) := by rw [← hrows]; exact HBD.out.row _
        have HRW : Hid (rowN ps (most - 1) = rows) := hrows
        have HXG : Hid (∀ x ∈ xs, g < x.b) := HKK.out.2.2.1
        have HS2 : Hid (LcRel w g len rows (.slice a9 xs.length c9) xs [] wr) := ⟨HKK.out.1, HKK.out.2.1, HKK.out.2.2.2.1, HKK.out.2.2.2.2⟩
        clear hrows HKK
        go_wp2
        go_loopw [64] (fun i wr => ∃ j : Nat, j ≤ M ∧ i = .int .i64 j ∧ LcRel w g len rows (.slice a9 xs.length c9) xs ((rows.take j).flatMap Prod.snd) wr) (fun i _ => M - (intOf i).toNat)
        case atStart => exact ⟨0, Nat.zero_le _, rfl, HS2.out⟩
        case round =>
          clear HS2 q3
          obtain ⟨j, hj, rfl, hp9, hps9, hlr, hbel⟩ := hrel
          by_cases hjM : j < M
          · obtain ⟨_, _, _, hrv, _⟩ := hp9.rv
            obtain ⟨b, off, ha9, x0, x1⟩ := hrv.at j (by omega)
            have hxx := All2.at hps9 j (by omega)
            have HXB : Hid (g < (xs[j]?.getD default).b) := HXG.out _ (by rw [List.getElem?_eq_getElem (by omega)]; exact List.getElem_mem _)
            have hjr : j < rows.length := by rw [← HXL.out]; omega
            have hmr : rows[j]?.getD default ∈ rows := by rw [List.getElem?_eq_getElem hjr]; exact List.getElem_mem _
            have HSM := row_small (by omega) HRB.out
            have hbq := (HRB.out _ hmr).2.2.2
            have hbl := HSM _ hmr
            have HT : Hid ((rows.take (j + 1)).flatMap Prod.snd = (rows.take j).flatMap Prod.snd ++ (rows[j]?.getD default).2) := flat_snoc rows j hjr
            have hTl : ((rows.take j).flatMap Prod.snd).length ≤ 16384 * j := by
              have := flat_le (rows.take j) fun p hp => HSM p (List.mem_of_mem_take hp)
              rw [List.length_take] at this
              omega
            obtain ⟨⟨xw, xb, xn, xc⟩, hx⟩ : ∃ x, xs[j]?.getD default = x := ⟨_, rfl⟩
            obtain ⟨⟨pw, sy⟩, hp⟩ : ∃ p, rows[j]?.getD default = p := ⟨_, rfl⟩
            rw [hx] at x0 x1 hxx HXB
            rw [hp] at hxx hbq hbl HT
            simp only at x0 x1 HXB hbq hbl HT
            obtain ⟨T, hT⟩ : ∃ T, (rows.take j).flatMap Prod.snd = T := ⟨_, rfl⟩
            rw [hT] at hlr hTl HT
            have hxn : xn = sy.length := hxx.2.1
            subst hxn
            subst ha9
            have HK2 : Hid (PRow wr w.heap.size (.slice (some ⟨b, off, none⟩) xs.length c9) xs ∧ PS wr xs rows ∧ LRow wr g (cnt len T) ∧ Below w.heap.size w wr ∧ Sy wr ⟨xw, xb, sy.length, xc⟩ sy) := ⟨hp9, hps9, hlr, hbel, hxx.2⟩
            have HBQ : Hid (∀ s ∈ sy, 0 ≤ s ∧ s < (len : Int)) := hbq
            clear hp9 hps9 hlr hbel hxx hrv hx hp hT hbq HSM hmr
            obtain ⟨w5, hw5⟩ : ∃ w5, wr.alloc (.cells #[.int .i64 xw, .slice (some ⟨xb, 0, none⟩) sy.length xc] 86) = w5 := ⟨_, rfl⟩
            have HS5 : Hid (LcRel w g len rows (.slice (some ⟨b, off, none⟩) xs.length c9) xs (T ++ sy.take 0) w5 ∧ Sy w5 ⟨xw, xb, sy.length, xc⟩ sy) := by
              obtain ⟨m1, m2, m3, m4, m5⟩ := HK2.out
              have hb : Below wr.heap.size wr w5 := by rw [← hw5]; exact (Below.refl _ _).alloc (Nat.le_refl _) _
              exact ⟨⟨m1.kept hb, PS.old m2 hb, by rw [List.take_zero, List.append_nil]; exact m3.same (hb.block _ (lt_of_block m3)), m4.trans (hb.mono m4.size)⟩, m5.old hb⟩
            clear HK2
            have y1 : w5.cell? ⟨wr.heap.size, 1, none⟩ = some (.slice (some ⟨xb, 0, none⟩) sy.length xc) := by rw [← hw5]; simp
            go_wp2
            clear hw5 y1
            go_loopw [71] (fun i wr2 => ∃ k : Nat, k ≤ sy.length ∧ i = .int .i64 k ∧ LcRel w g len rows (.slice (some ⟨b, off, none⟩) xs.length c9) xs (T ++ sy.take k) wr2 ∧ Sy wr2 ⟨xw, xb, sy.length, xc⟩ sy) (fun i _ => sy.length - (intOf i).toNat)
            case atStart => exact ⟨0, Nat.zero_le _, rfl, HS5.out.1, HS5.out.2⟩
            case round =>
              clear HS5 x0 x1
              obtain ⟨k, hk, rfl, ⟨m1, m2, m3, m4⟩, m5⟩ := hrel
              by_cases hkl : k < sy.length
              · obtain ⟨_, _, _, _, cur, hcur, hcc⟩ := m5
                have y0 : wr.cell? ⟨xb, k, none⟩ = some (.int .i64 (sy[k]?.getD 0)) := by simp [World.cell?, hcur, hcc k hkl]
                have hbs := HBQ.out (sy[k]?.getD 0) (by rw [List.getElem?_eq_getElem hkl]; exact List.getElem_mem _)
                have HTK : Hid (T ++ sy.take (k + 1) = T ++ sy.take k ++ [sy[k]?.getD 0]) := by show _ = _; rw [take_snocI sy k hkl, List.append_assoc]
                have hTk : (T ++ sy.take k).length ≤ 16384 * 577 := by rw [List.length_append, List.length_take]; omega
                obtain ⟨U, hU⟩ : ∃ U, T ++ sy.take k = U := ⟨_, rfl⟩
                rw [hU] at m3 hTk HTK
                clear hU
                obtain ⟨s, hs⟩ := Int.eq_ofNat_of_zero_le hbs.1
                rw [hs] at y0 HTK hbs
                have hsl : s < len := by omega
                obtain ⟨l0, l1⟩ := m3.cell s (by rw [cnt_len]; exact hsl)
                rw [cnt_at _ _ _ hsl] at l0
                have hcn : U.count (s : Int) ≤ 16384 * 577 := Nat.le_trans List.count_le_length hTk
                have R : Hid (LcRel w g len rows (.slice (some ⟨b, off, none⟩) xs.length c9) xs (T ++ sy.take (k + 1)) (wr.setCell ⟨g, s, none⟩ (.int .i64 (((U.count (s : Int) : Nat) : Int) + 1))) ∧ Sy (wr.setCell ⟨g, s, none⟩ (.int .i64 (((U.count (s : Int) : Nat) : Int) + 1))) ⟨xw, xb, sy.length, xc⟩ sy) := by
                  refine ⟨⟨m1.setL m3, PS.setL m2 HXG.out, ?_, ?_⟩, ?_⟩
                  · rw [HTK.out, ← cnt_set len U s hsl]; exact m3.set s _
                  · exact Fr.below m4 (Fr.set g s _ none) (by rw [HG.out]; exact Nat.le_refl _) (by intro q hq; cases hq) m4.size
                  · exact Sy.same ⟨rfl, by assumption, by assumption, by assumption, cur, hcur, hcc⟩ (Below.heap_setCell wr _ _ xb (by have := HXB.out; simp; omega))
                clear m1 m2 m3 m4 hcur hcc HTK
                generalize U.count (s : Int) = N at *
                have hsz : (s : Int) < (len : Int) := by omega
                go_wp2
                go_roundw
                case rel => exact ⟨k + 1, by omega, by go_num, R.out.1, R.out.2⟩
                case measure => simp [intOf]; omega
              · obtain rfl : k = sy.length := by omega
                have R : Hid (LcRel w g len rows (.slice (some ⟨b, off, none⟩) xs.length c9) xs ((rows.take (j + 1)).flatMap Prod.snd) wr) := by
                  rw [List.take_length] at m3
                  exact ⟨m1, m2, by rw [HT.out]; exact m3, m4⟩
                clear m1 m2 m3 m4 m5
                go_wp2
                go_roundw
                case rel => exact ⟨j + 1, by omega, by go_num, R.out⟩
                case measure => simp [intOf]; omega
          · obtain rfl : j = M := by omega
            have R : Hid (LenPost w cs most (.returned (.tuple #[.slice (some ⟨g, 0, none⟩) len len, .int .i64 0])) wr) := by
              refine ⟨g, ps, by rw [HN.out], HPM.out, HRP.out, ?_, by rw [HG.out]; exact Nat.le_refl _, hbel⟩
              unfold lensOf
              rw [HPL.out, if_neg hW1, HRW.out, HMM.out, HN.out]
              exact hlr
            clear hp9 hps9 hlr hbel
            go_wp2
            go_ret2
            exact R.out
end Go.Proofs.Ytjellgkojmgmjaa
