import Derived.Test.YtjellgkojmgmjaaHjB
import Derived.Test.YtjellgkojmgmjaaHiC
namespace Go.Proofs.Ytjellgkojmgmjaa
open Go.RowKit

theorem Sy.irow {w : World} {s : Int} {b n c : Nat} {l : List Int} (h : Sy w ⟨s, b, n, c⟩ l) : IRow w (some ⟨b, 0, none⟩) l := by
  obtain ⟨h1, h2, h3, h4, cur, h5, h6⟩ := h
  refine .inr ⟨b, 0, rfl, fun i hi => ?_⟩
  rw [Nat.zero_add]
  simp only at h5
  simp [World.cell?, h5, h6 i hi]
set_option maxHeartbeats 800000 in
theorem put_any (s : Int) (b n c : Nat) (l : List Int) (w : World) (h : Sy w ⟨s, b, n, c⟩ l) (hb : Bit l) (h32 : l.length ≤ 32) :
    Calls Try.prog 14 #[.agg #[.int .i64 s, .slice (some ⟨b, 0, none⟩) n c]] w fun e w' => e = .returned (.int .i64 (binN l)) ∧ Below w.heap.size w w' := by
  have HS : Hid (Sy w ⟨s, b, n, c⟩ l) := h
  have HB : Hid (Bit l ∧ l.length ≤ 32) := ⟨hb, h32⟩
  have HN : Hid (l.length = n) := h.1.symm
  clear h hb h32
  go_enter Try.func14, Try.ntmps14
  go_wp2_with fail
  refine (number_any (some ⟨b, 0, none⟩) n c l _ HN.out (by have := HB.out.2; have := HN.out; omega) HB.out.1 (Sy.irow (HS.out.same (Below.heap_alloc _ _ _ HS.out.lt)))).mono ?_
  rintro e w1 ⟨rfl, hw1⟩
  have HW : Hid (Below w.heap.size w w1) := by rw [hw1]; exact (Below.refl _ _).alloc (Nat.le_refl _) _
  clear hw1
  go_wp2
  go_ret
  exact ⟨rfl, HW.out⟩
theorem checkV_yes {ls : List Int} (h1 : okLens ls = true) (h2 : wholeB ls = true) : checkV ls = 0 := by unfold checkV; rw [h1, h2]; rfl
theorem checkV_no {ls : List Int} (h : (okLens ls && wholeB ls) = false) : checkV ls = if okLens ls then 5 else 1 := by
  unfold checkV
  cases h1 : okLens ls with
  | false => rfl
  | true => rw [h1, Bool.true_and] at h; rw [h]; rfl
def posN (l : List Nat) : Nat := l.countP fun k => decide (0 < k)
theorem posN_drop (ns : List Nat) (s : Nat) (hs : s < ns.length) : posN (ns.drop s) = (if 0 < hn ns s then 1 else 0) + posN (ns.drop (s + 1)) := by
  unfold posN hn
  rw [List.drop_eq_getElem_cons hs, List.countP_cons, List.getElem?_eq_getElem hs, Nat.add_comm]
  simp
theorem posN_le (l : List Nat) : posN l ≤ l.length := List.countP_le_length

set_option maxHeartbeats 3200000 in
set_option maxRecDepth 20000 in
theorem makes_walk (a : Option Addr) (len cap : Nat) (sym : Int) (w : World) (h : IArg w a len cap) (hsym : (Lit.int .i64 sym).wf = true) :
    Calls Try.prog 3 #[.slice a len cap, .int .i64 sym] w fun e w' => e = .returned (.bool true) ∧ Below w.heap.size w w' := by
  obtain ⟨ls, hl, hc, hcap, _, hrow⟩ := h
  have HR : Hid (IRow w a ls) := hrow
  have HL : Hid (ls.length = len) := hl
  have HSY : Hid ((Lit.int .i64 sym).wf = true) := hsym
  clear hrow hl hsym
  go_enter Try.func3, Try.ntmps3
  go_wp2_with fail
  refine (fixed_any _).mono ?_
  rintro e w1 ⟨rfl, hb1⟩
  have HB1 : Hid (Below w.heap.size w w1) := hb1
  clear hb1
  go_wp2_with fail
  refine (new_all a len cap ls w1 HL.out (by omega) (HR.out.old HB1.out)).mono ?_
  rintro e w2 (⟨hok, hwh, c, rfl, hcw, hco, hb2⟩ | ⟨f, hf, hno, rfl, hw2⟩)
  · have HB2 : Hid (Below w.heap.size w w2) := HB1.out.trans (hb2.mono HB1.out.size)
    have HCD : Hid (Cd (ls.map Int.toNat)) := whole_cd hok hwh
    have HE : Hid (ints (ls.map Int.toNat) = ls) := ints_toNat hok
    have HNL : Hid ((ls.map Int.toNat).length = len) := by show _ = _; rw [List.length_map]; exact HL.out
    have HCV : Hid (checkV ls = 0) := checkV_yes hok hwh
    clear hcw hb2 hok hwh HB1
    go_wp2_with fail
    refine (check_any a len cap ls w2 HL.out (by omega) (HR.out.old HB2.out)).mono ?_
    rintro e w3 ⟨rfl, hw3⟩
    rw [hw3, HCV.out]
    clear hw3 HCV
    obtain ⟨ns, hns⟩ : ∃ ns, ls.map Int.toNat = ns := ⟨_, rfl⟩
    rw [hns] at hco HCD HE HNL
    have HCO : Hid (CodeAt w2 c ns) := hco
    have HRI : Hid (IRow w a (ints ns)) := by rw [HE.out]; exact HR.out
    have hl288 : len ≤ 288 := by rw [← HNL.out]; exact HCD.out.few
    clear hns hco HR HE HL
    go_wp2_with fail
    refine (word_any c sym ns w2 HCO.out HCD.out).mono ?_
    rintro e w3 ⟨rfl, hb3⟩
    have HB3 : Hid (Below w2.heap.size w2 w3) := hb3
    clear hb3
    have HWZ : Hid (sym < 0 ∨ (len : Int) ≤ sym → (wordV ns sym).1 = 0 ∧ (wordV ns sym).2 = 0) := by
      intro hs
      unfold wordV
      by_cases h0 : sym < 0
      · rw [if_pos h0]; exact ⟨rfl, rfl⟩
      · rw [if_neg h0]
        have hz : hn ns sym.toNat = 0 := by
          unfold hn
          rw [List.getElem?_eq_none (by have := HNL.out; omega)]; rfl
        rw [hz]
        exact ⟨rfl, rfl⟩
    obtain ⟨V, hV⟩ : ∃ V, (wordV ns sym).1 = V := ⟨_, rfl⟩
    obtain ⟨M, hM⟩ : ∃ M, (wordV ns sym).2 = M := ⟨_, rfl⟩
    rw [hV, hM] at HWZ ⊢
    clear hV hM
    have HBX : Hid (Below w.heap.size w w3) := HB2.out.trans (HB3.out.mono HB2.out.size)
    by_cases hs0 : sym < 0
    · obtain ⟨rfl, rfl⟩ := HWZ.out (.inl hs0)
      go_wp2_with fail
      refine (words_any a len cap ns w3 HNL.out HCD.out (HRI.out.old HBX.out)).mono ?_
      rintro e w4 ⟨v4, xs, rfl, hq, hps, hb4⟩
      obtain ⟨ad, cp, hsh⟩ := hq.shape
      subst hsh
      have HK : Hid (QRow w4 w3.heap.size (.slice ad xs.length cp) xs ∧ PS w4 xs (wds ns)) := ⟨hq, hps⟩
      have HB4 : Hid (Below w2.heap.size w2 w4) := HB3.out.trans (hb4.mono HB3.out.size)
      have HXL : Hid (xs.length = posN ns) := by show _ = _; rw [All2.len hps, HCD.out.wds_len]; rfl
      have hxl : xs.length ≤ 288 := by
        have h1 := HXL.out
        have h2 := posN_le ns
        have := HNL.out
        omega
      obtain ⟨L, hL⟩ : ∃ L, xs.length = L := ⟨_, rfl⟩
      have HLL : Hid (xs.length = L) := hL
      rw [hL] at HK hxl ⊢
      clear hq hps hb4 hL HB3 HBX HWZ
      go_wp2
      go_loopw [10, 66] (fun so i wr => ∃ k : Nat, k ≤ L ∧ i = .int .i64 k ∧ so = .int .i64 k ∧ Below w4.heap.size w4 wr) (fun _ i _ => L - (intOf i).toNat)
      case atStart => exact ⟨0, Nat.zero_le _, rfl, rfl, Below.refl _ _⟩
      case round =>
        obtain ⟨k, hk, rfl, rfl, hbel⟩ := hrel
        have HBL : Hid (Below w4.heap.size w4 wr) := hbel
        clear hbel
        by_cases hlt : k < L
        · have hki : k < xs.length := by rw [HLL.out]; exact hlt
          obtain ⟨b, hadb, hbl, hc0, hc1⟩ := HK.out.1.at k hki
          have hpm : (wds ns)[k]?.getD default ∈ wds ns := by
            have hkw : k < (wds ns).length := by rw [← All2.len HK.out.2]; exact hki
            rw [List.getElem?_eq_getElem hkw]
            exact List.getElem_mem hkw
          obtain ⟨s, hs0, hse⟩ := HCD.out.wds.1 hpm
          have hrp := All2.at HK.out.2 k hki
          rw [hse] at hrp
          generalize xs[k]?.getD default = x at hrp hc0 hc1
          obtain ⟨xw, xb, xn, xc⟩ := x
          obtain ⟨hx1, hsy⟩ := hrp
          simp only at hx1 hc0 hc1
          subst hx1
          have HXN : Hid (xn = hn ns s) := by have := hsy.1; rw [mb_len] at this; exact this
          have hc0' := (HBL.out.cell (p := ⟨b, k * 2, none⟩) hbl).trans hc0
          have hc1' := (HBL.out.cell (p := ⟨b, k * 2 + 1, none⟩) hbl).trans hc1
          have HSY : Hid (Sy wr ⟨s, xb, xn, xc⟩ (mb (hv ns s) (hn ns s))) := hsy.old HBL.out
          have HSN : Hid (s < ns.length) := hn_lt hs0
          subst hadb
          clear hc0 hc1 hpm hse hsy hbl hs0
          go_wp2_with fail
          refine (word_in c s ns _ ((HCO.out.old HB4.out).old (HBL.out.alloc HBL.out.size _)) HCD.out HSN.out).mono ?_
          rintro e w5 ⟨rfl, hb5⟩
          have h5 : w5.heap[wr.heap.size]? = some (.cells #[.int .i64 s, .slice (some ⟨xb, 0, none⟩) xn xc] 34 (0, 0)) := (hb5.block _ (by simp)).trans (heap_alloc_new _ _)
          have hb6 : Below wr.heap.size wr w5 := ((Below.refl _ _).alloc (Nat.le_refl _) _).trans (hb5.mono (by simp))
          obtain ⟨c0, c1, c2⟩ := two_cells h5
          have HS5 : Hid (Sy w5 ⟨s, xb, xn, xc⟩ (mb (hv ns s) (hn ns s))) := HSY.out.old hb6
          have HB5 : Hid (Below w4.heap.size w4 w5) := HBL.out.trans (hb6.mono HBL.out.size)
          obtain ⟨T, hT⟩ : ∃ T, turn (hv ns s) (hn ns s) = T := ⟨_, rfl⟩
          have HT : Hid (binN (mb (hv ns s) (hn ns s)) = (T : Int)) := by show _ = _; rw [binN_mb, hT]
          have HLE : Hid ((mb (hv ns s) (hn ns s)).length ≤ 32) := by show _ ≤ _; rw [mb_len]; have := HCD.out.le s; omega
          have hx15 : xn ≤ 15 := by rw [HXN.out]; exact HCD.out.le s
          rw [hT, ← HXN.out]
          obtain ⟨p, hp⟩ : ∃ p, wr.heap.size = p := ⟨_, rfl⟩
          rw [hp] at c0 c1 c2 ⊢
          clear h5 hb5 hb6 HSY hT HXN hc0' hc1' hp
          go_wp2_with fail
          refine (put_any s xb xn xc _ w5 HS5.out (mb_bit _ _) HLE.out).mono ?_
          rintro e w6 ⟨rfl, hb6⟩
          rw [HT.out]
          have HB6 : Hid (Below w4.heap.size w4 w6) := HB5.out.trans (hb6.mono HB5.out.size)
          have d0 := (hb6.cell (p := ⟨p, 0, none⟩) (cell_lt c0)).trans c0
          have d1 := (hb6.cell (p := ⟨p, 1, none⟩) (cell_lt c1)).trans c1
          clear c0 c1 c2 hb6 HS5 HT HLE HB5
          go_wp2
          go_roundw
          case rel => exact ⟨k + 1, by omega, by go_num, by go_num, HB6.out⟩
          case measure => simp [intOf]; omega
        · obtain rfl : k = L := by omega
          have HB7 : Hid (Below w2.heap.size w2 wr) := HB4.out.trans (HBL.out.mono HB4.out.size)
          have HKP : Hid (k = posN (ns.drop 0)) := by show _ = _; rw [List.drop_zero, ← HLL.out]; exact HXL.out
          clear HBL HLL HXL HK
          obtain ⟨w7, rfl⟩ : ∃ w7, w7 = wr := ⟨_, rfl⟩
          go_wp2
          go_loopw [10, 93] (fun so i wr => ∃ s m : Nat, s ≤ len ∧ i = .int .i64 s ∧ so = .int .i64 m ∧ m = posN (ns.drop s) ∧ Below w2.heap.size w2 wr) (fun _ i _ => len - (intOf i).toNat)
          case atStart => exact ⟨0, k, Nat.zero_le _, rfl, rfl, HKP.out, HB7.out⟩
          case round =>
            obtain ⟨s, m, hs, rfl, rfl, hm, hbel⟩ := hrel
            have HBL : Hid (Below w2.heap.size w2 wr) := hbel
            have HM : Hid (m = posN (ns.drop s)) := hm
            clear hbel hm HKP
            by_cases hlt : s < len
            · go_wp2_with fail
              refine (word_in c s ns wr (HCO.out.old HBL.out) HCD.out (by rw [HNL.out]; exact hlt)).mono ?_
              rintro e w8 ⟨rfl, hb8⟩
              have HB8 : Hid (Below w2.heap.size w2 w8) := HBL.out.trans (hb8.mono HBL.out.size)
              have HPD : Hid (m = (if 0 < hn ns s then 1 else 0) + posN (ns.drop (s + 1))) := by show _ = _; rw [HM.out]; exact posN_drop ns s (by rw [HNL.out]; exact hlt)
              have hple : posN (ns.drop (s + 1)) ≤ 288 := by
                have h1 := posN_le (ns.drop (s + 1))
                rw [List.length_drop] at h1
                have := HNL.out
                omega
              obtain ⟨T, hT⟩ : ∃ T, turn (hv ns s) (hn ns s) = T := ⟨_, rfl⟩
              obtain ⟨M, hM⟩ : ∃ M, hn ns s = M := ⟨_, rfl⟩
              rw [hT, hM]
              rw [hM] at HPD
              clear hb8 HBL HM hT hM
              by_cases h0 : 0 < M
              · have h0z : (0 : Int) < (M : Int) := by omega
                have HQ : Hid (m = 1 + posN (ns.drop (s + 1))) := by have := HPD.out; rw [if_pos h0] at this; exact this
                have hm := HQ.out
                have HM1 : Hid ((m : Int) - 1 = (posN (ns.drop (s + 1)) : Int)) := (by omega : (m : Int) - 1 = (posN (ns.drop (s + 1)) : Int))
                have hm1 : m ≤ 289 := by omega
                have hm2 : 1 ≤ m := by omega
                clear hm HPD HQ hple
                go_wp2
                go_roundw
                case rel => exact ⟨s + 1, posN (ns.drop (s + 1)), by omega, by go_num, by rw [← HM1.out], rfl, HB8.out⟩
                case measure => simp [intOf]; omega
              · obtain rfl : M = 0 := by omega
                have HQ : Hid (m = posN (ns.drop (s + 1))) := by have := HPD.out; rw [if_neg h0, Nat.zero_add] at this; exact this
                clear HPD hple
                go_wp2
                go_roundw
                case rel => exact ⟨s + 1, m, by omega, by go_num, rfl, HQ.out, HB8.out⟩
                case measure => simp [intOf]; omega
            · obtain rfl : s = len := by omega
              have hm0 : m = 0 := by rw [HM.out, List.drop_of_length_le (by have := HNL.out; omega)]; rfl
              subst hm0
              have HBW : Hid (Below w.heap.size w wr) := HB2.out.trans (HBL.out.mono HB2.out.size)
              clear HM HBL
              go_wp2
              go_ret
              exact ⟨rfl, HBW.out⟩
    · by_cases hs1 : (len : Int) ≤ sym
      · obtain ⟨rfl, rfl⟩ := HWZ.out (.inr hs1)
        go_wp2_with fail
        refine (words_any a len cap ns w3 HNL.out HCD.out (HRI.out.old HBX.out)).mono ?_
        rintro e w4 ⟨v4, xs, rfl, hq, hps, hb4⟩
        obtain ⟨ad, cp, hsh⟩ := hq.shape
        subst hsh
        have HK : Hid (QRow w4 w3.heap.size (.slice ad xs.length cp) xs ∧ PS w4 xs (wds ns)) := ⟨hq, hps⟩
        have HB4 : Hid (Below w2.heap.size w2 w4) := HB3.out.trans (hb4.mono HB3.out.size)
        have HXL : Hid (xs.length = posN ns) := by show _ = _; rw [All2.len hps, HCD.out.wds_len]; rfl
        have hxl : xs.length ≤ 288 := by
          have h1 := HXL.out
          have h2 := posN_le ns
          have := HNL.out
          omega
        obtain ⟨L, hL⟩ : ∃ L, xs.length = L := ⟨_, rfl⟩
        have HLL : Hid (xs.length = L) := hL
        rw [hL] at HK hxl ⊢
        clear hq hps hb4 hL HB3 HBX HWZ
        go_wp2
        go_loopw [10, 66] (fun so i wr => ∃ k : Nat, k ≤ L ∧ i = .int .i64 k ∧ so = .int .i64 k ∧ Below w4.heap.size w4 wr) (fun _ i _ => L - (intOf i).toNat)
        case atStart => exact ⟨0, Nat.zero_le _, rfl, rfl, Below.refl _ _⟩
        case round =>
          obtain ⟨k, hk, rfl, rfl, hbel⟩ := hrel
          have HBL : Hid (Below w4.heap.size w4 wr) := hbel
          clear hbel
          by_cases hlt : k < L
          · have hki : k < xs.length := by rw [HLL.out]; exact hlt
            obtain ⟨b, hadb, hbl, hc0, hc1⟩ := HK.out.1.at k hki
            have hpm : (wds ns)[k]?.getD default ∈ wds ns := by
              have hkw : k < (wds ns).length := by rw [← All2.len HK.out.2]; exact hki
              rw [List.getElem?_eq_getElem hkw]
              exact List.getElem_mem hkw
            obtain ⟨s, hs0, hse⟩ := HCD.out.wds.1 hpm
            have hrp := All2.at HK.out.2 k hki
            rw [hse] at hrp
            generalize xs[k]?.getD default = x at hrp hc0 hc1
            obtain ⟨xw, xb, xn, xc⟩ := x
            obtain ⟨hx1, hsy⟩ := hrp
            simp only at hx1 hc0 hc1
            subst hx1
            have HXN : Hid (xn = hn ns s) := by have := hsy.1; rw [mb_len] at this; exact this
            have hc0' := (HBL.out.cell (p := ⟨b, k * 2, none⟩) hbl).trans hc0
            have hc1' := (HBL.out.cell (p := ⟨b, k * 2 + 1, none⟩) hbl).trans hc1
            have HSY : Hid (Sy wr ⟨s, xb, xn, xc⟩ (mb (hv ns s) (hn ns s))) := hsy.old HBL.out
            have HSN : Hid (s < ns.length) := hn_lt hs0
            subst hadb
            clear hc0 hc1 hpm hse hsy hbl hs0
            go_wp2_with fail
            refine (word_in c s ns _ ((HCO.out.old HB4.out).old (HBL.out.alloc HBL.out.size _)) HCD.out HSN.out).mono ?_
            rintro e w5 ⟨rfl, hb5⟩
            have h5 : w5.heap[wr.heap.size]? = some (.cells #[.int .i64 s, .slice (some ⟨xb, 0, none⟩) xn xc] 34 (0, 0)) := (hb5.block _ (by simp)).trans (heap_alloc_new _ _)
            have hb6 : Below wr.heap.size wr w5 := ((Below.refl _ _).alloc (Nat.le_refl _) _).trans (hb5.mono (by simp))
            obtain ⟨c0, c1, c2⟩ := two_cells h5
            have HS5 : Hid (Sy w5 ⟨s, xb, xn, xc⟩ (mb (hv ns s) (hn ns s))) := HSY.out.old hb6
            have HB5 : Hid (Below w4.heap.size w4 w5) := HBL.out.trans (hb6.mono HBL.out.size)
            obtain ⟨T, hT⟩ : ∃ T, turn (hv ns s) (hn ns s) = T := ⟨_, rfl⟩
            have HT : Hid (binN (mb (hv ns s) (hn ns s)) = (T : Int)) := by show _ = _; rw [binN_mb, hT]
            have HLE : Hid ((mb (hv ns s) (hn ns s)).length ≤ 32) := by show _ ≤ _; rw [mb_len]; have := HCD.out.le s; omega
            have hx15 : xn ≤ 15 := by rw [HXN.out]; exact HCD.out.le s
            rw [hT, ← HXN.out]
            obtain ⟨p, hp⟩ : ∃ p, wr.heap.size = p := ⟨_, rfl⟩
            rw [hp] at c0 c1 c2 ⊢
            clear h5 hb5 hb6 HSY hT HXN hc0' hc1' hp
            go_wp2_with fail
            refine (put_any s xb xn xc _ w5 HS5.out (mb_bit _ _) HLE.out).mono ?_
            rintro e w6 ⟨rfl, hb6⟩
            rw [HT.out]
            have HB6 : Hid (Below w4.heap.size w4 w6) := HB5.out.trans (hb6.mono HB5.out.size)
            have d0 := (hb6.cell (p := ⟨p, 0, none⟩) (cell_lt c0)).trans c0
            have d1 := (hb6.cell (p := ⟨p, 1, none⟩) (cell_lt c1)).trans c1
            clear c0 c1 c2 hb6 HS5 HT HLE HB5
            go_wp2
            go_roundw
            case rel => exact ⟨k + 1, by omega, by go_num, by go_num, HB6.out⟩
            case measure => simp [intOf]; omega
          · obtain rfl : k = L := by omega
            have HB7 : Hid (Below w2.heap.size w2 wr) := HB4.out.trans (HBL.out.mono HB4.out.size)
            have HKP : Hid (k = posN (ns.drop 0)) := by show _ = _; rw [List.drop_zero, ← HLL.out]; exact HXL.out
            clear HBL HLL HXL HK
            obtain ⟨w7, rfl⟩ : ∃ w7, w7 = wr := ⟨_, rfl⟩
            go_wp2
            go_loopw [10, 93] (fun so i wr => ∃ s m : Nat, s ≤ len ∧ i = .int .i64 s ∧ so = .int .i64 m ∧ m = posN (ns.drop s) ∧ Below w2.heap.size w2 wr) (fun _ i _ => len - (intOf i).toNat)
            case atStart => exact ⟨0, k, Nat.zero_le _, rfl, rfl, HKP.out, HB7.out⟩
            case round =>
              obtain ⟨s, m, hs, rfl, rfl, hm, hbel⟩ := hrel
              have HBL : Hid (Below w2.heap.size w2 wr) := hbel
              have HM : Hid (m = posN (ns.drop s)) := hm
              clear hbel hm HKP
              by_cases hlt : s < len
              · go_wp2_with fail
                refine (word_in c s ns wr (HCO.out.old HBL.out) HCD.out (by rw [HNL.out]; exact hlt)).mono ?_
                rintro e w8 ⟨rfl, hb8⟩
                have HB8 : Hid (Below w2.heap.size w2 w8) := HBL.out.trans (hb8.mono HBL.out.size)
                have HPD : Hid (m = (if 0 < hn ns s then 1 else 0) + posN (ns.drop (s + 1))) := by show _ = _; rw [HM.out]; exact posN_drop ns s (by rw [HNL.out]; exact hlt)
                have hple : posN (ns.drop (s + 1)) ≤ 288 := by
                  have h1 := posN_le (ns.drop (s + 1))
                  rw [List.length_drop] at h1
                  have := HNL.out
                  omega
                obtain ⟨T, hT⟩ : ∃ T, turn (hv ns s) (hn ns s) = T := ⟨_, rfl⟩
                obtain ⟨M, hM⟩ : ∃ M, hn ns s = M := ⟨_, rfl⟩
                rw [hT, hM]
                rw [hM] at HPD
                clear hb8 HBL HM hT hM
                by_cases h0 : 0 < M
                · have h0z : (0 : Int) < (M : Int) := by omega
                  have HQ : Hid (m = 1 + posN (ns.drop (s + 1))) := by have := HPD.out; rw [if_pos h0] at this; exact this
                  have hm := HQ.out
                  have HM1 : Hid ((m : Int) - 1 = (posN (ns.drop (s + 1)) : Int)) := (by omega : (m : Int) - 1 = (posN (ns.drop (s + 1)) : Int))
                  have hm1 : m ≤ 289 := by omega
                  have hm2 : 1 ≤ m := by omega
                  clear hm HPD HQ hple
                  go_wp2
                  go_roundw
                  case rel => exact ⟨s + 1, posN (ns.drop (s + 1)), by omega, by go_num, by rw [← HM1.out], rfl, HB8.out⟩
                  case measure => simp [intOf]; omega
                · obtain rfl : M = 0 := by omega
                  have HQ : Hid (m = posN (ns.drop (s + 1))) := by have := HPD.out; rw [if_neg h0, Nat.zero_add] at this; exact this
                  clear HPD hple
                  go_wp2
                  go_roundw
                  case rel => exact ⟨s + 1, m, by omega, by go_num, rfl, HQ.out, HB8.out⟩
                  case measure => simp [intOf]; omega
              · obtain rfl : s = len := by omega
                have hm0 : m = 0 := by rw [HM.out, List.drop_of_length_le (by have := HNL.out; omega)]; rfl
                subst hm0
                have HBW : Hid (Below w.heap.size w wr) := HB2.out.trans (HBL.out.mono HB2.out.size)
                clear HM HBL
                go_wp2
                go_ret
                exact ⟨rfl, HBW.out⟩
      · have hsl : sym < 140737488355328 := by omega
        go_wp2_with fail
        refine (words_any a len cap ns w3 HNL.out HCD.out (HRI.out.old HBX.out)).mono ?_
        rintro e w4 ⟨v4, xs, rfl, hq, hps, hb4⟩
        obtain ⟨ad, cp, hsh⟩ := hq.shape
        subst hsh
        have HK : Hid (QRow w4 w3.heap.size (.slice ad xs.length cp) xs ∧ PS w4 xs (wds ns)) := ⟨hq, hps⟩
        have HB4 : Hid (Below w2.heap.size w2 w4) := HB3.out.trans (hb4.mono HB3.out.size)
        have HXL : Hid (xs.length = posN ns) := by show _ = _; rw [All2.len hps, HCD.out.wds_len]; rfl
        have hxl : xs.length ≤ 288 := by
          have h1 := HXL.out
          have h2 := posN_le ns
          have := HNL.out
          omega
        obtain ⟨L, hL⟩ : ∃ L, xs.length = L := ⟨_, rfl⟩
        have HLL : Hid (xs.length = L) := hL
        rw [hL] at HK hxl ⊢
        clear hq hps hb4 hL HB3 HBX HWZ
        go_wp2
        go_loopw [10, 66] (fun so i wr => ∃ k : Nat, k ≤ L ∧ i = .int .i64 k ∧ so = .int .i64 k ∧ Below w4.heap.size w4 wr) (fun _ i _ => L - (intOf i).toNat)
        case atStart => exact ⟨0, Nat.zero_le _, rfl, rfl, Below.refl _ _⟩
        case round =>
          obtain ⟨k, hk, rfl, rfl, hbel⟩ := hrel
          have HBL : Hid (Below w4.heap.size w4 wr) := hbel
          clear hbel
          by_cases hlt : k < L
          · have hki : k < xs.length := by rw [HLL.out]; exact hlt
            obtain ⟨b, hadb, hbl, hc0, hc1⟩ := HK.out.1.at k hki
            have hpm : (wds ns)[k]?.getD default ∈ wds ns := by
              have hkw : k < (wds ns).length := by rw [← All2.len HK.out.2]; exact hki
              rw [List.getElem?_eq_getElem hkw]
              exact List.getElem_mem hkw
            obtain ⟨s, hs0, hse⟩ := HCD.out.wds.1 hpm
            have hrp := All2.at HK.out.2 k hki
            rw [hse] at hrp
            generalize xs[k]?.getD default = x at hrp hc0 hc1
            obtain ⟨xw, xb, xn, xc⟩ := x
            obtain ⟨hx1, hsy⟩ := hrp
            simp only at hx1 hc0 hc1
            subst hx1
            have HXN : Hid (xn = hn ns s) := by have := hsy.1; rw [mb_len] at this; exact this
            have hc0' := (HBL.out.cell (p := ⟨b, k * 2, none⟩) hbl).trans hc0
            have hc1' := (HBL.out.cell (p := ⟨b, k * 2 + 1, none⟩) hbl).trans hc1
            have HSY : Hid (Sy wr ⟨s, xb, xn, xc⟩ (mb (hv ns s) (hn ns s))) := hsy.old HBL.out
            have HSN : Hid (s < ns.length) := hn_lt hs0
            subst hadb
            clear hc0 hc1 hpm hse hsy hbl hs0
            go_wp2_with fail
            refine (word_in c s ns _ ((HCO.out.old HB4.out).old (HBL.out.alloc HBL.out.size _)) HCD.out HSN.out).mono ?_
            rintro e w5 ⟨rfl, hb5⟩
            have h5 : w5.heap[wr.heap.size]? = some (.cells #[.int .i64 s, .slice (some ⟨xb, 0, none⟩) xn xc] 34 (0, 0)) := (hb5.block _ (by simp)).trans (heap_alloc_new _ _)
            have hb6 : Below wr.heap.size wr w5 := ((Below.refl _ _).alloc (Nat.le_refl _) _).trans (hb5.mono (by simp))
            obtain ⟨c0, c1, c2⟩ := two_cells h5
            have HS5 : Hid (Sy w5 ⟨s, xb, xn, xc⟩ (mb (hv ns s) (hn ns s))) := HSY.out.old hb6
            have HB5 : Hid (Below w4.heap.size w4 w5) := HBL.out.trans (hb6.mono HBL.out.size)
            obtain ⟨T, hT⟩ : ∃ T, turn (hv ns s) (hn ns s) = T := ⟨_, rfl⟩
            have HT : Hid (binN (mb (hv ns s) (hn ns s)) = (T : Int)) := by show _ = _; rw [binN_mb, hT]
            have HLE : Hid ((mb (hv ns s) (hn ns s)).length ≤ 32) := by show _ ≤ _; rw [mb_len]; have := HCD.out.le s; omega
            have hx15 : xn ≤ 15 := by rw [HXN.out]; exact HCD.out.le s
            rw [hT, ← HXN.out]
            obtain ⟨p, hp⟩ : ∃ p, wr.heap.size = p := ⟨_, rfl⟩
            rw [hp] at c0 c1 c2 ⊢
            clear h5 hb5 hb6 HSY hT HXN hc0' hc1' hp
            go_wp2_with fail
            refine (put_any s xb xn xc _ w5 HS5.out (mb_bit _ _) HLE.out).mono ?_
            rintro e w6 ⟨rfl, hb6⟩
            rw [HT.out]
            have HB6 : Hid (Below w4.heap.size w4 w6) := HB5.out.trans (hb6.mono HB5.out.size)
            have d0 := (hb6.cell (p := ⟨p, 0, none⟩) (cell_lt c0)).trans c0
            have d1 := (hb6.cell (p := ⟨p, 1, none⟩) (cell_lt c1)).trans c1
            clear c0 c1 c2 hb6 HS5 HT HLE HB5
            go_wp2
            go_roundw
            case rel => exact ⟨k + 1, by omega, by go_num, by go_num, HB6.out⟩
            case measure => simp [intOf]; omega
          · obtain rfl : k = L := by omega
            have HB7 : Hid (Below w2.heap.size w2 wr) := HB4.out.trans (HBL.out.mono HB4.out.size)
            have HKP : Hid (k = posN (ns.drop 0)) := by show _ = _; rw [List.drop_zero, ← HLL.out]; exact HXL.out
            clear HBL HLL HXL HK
            obtain ⟨w7, rfl⟩ : ∃ w7, w7 = wr := ⟨_, rfl⟩
            go_wp2
            go_loopw [10, 93] (fun so i wr => ∃ s m : Nat, s ≤ len ∧ i = .int .i64 s ∧ so = .int .i64 m ∧ m = posN (ns.drop s) ∧ Below w2.heap.size w2 wr) (fun _ i _ => len - (intOf i).toNat)
            case atStart => exact ⟨0, k, Nat.zero_le _, rfl, rfl, HKP.out, HB7.out⟩
            case round =>
              obtain ⟨s, m, hs, rfl, rfl, hm, hbel⟩ := hrel
              have HBL : Hid (Below w2.heap.size w2 wr) := hbel
              have HM : Hid (m = posN (ns.drop s)) := hm
              clear hbel hm HKP
              by_cases hlt : s < len
              · go_wp2_with fail
                refine (word_in c s ns wr (HCO.out.old HBL.out) HCD.out (by rw [HNL.out]; exact hlt)).mono ?_
                rintro e w8 ⟨rfl, hb8⟩
                have HB8 : Hid (Below w2.heap.size w2 w8) := HBL.out.trans (hb8.mono HBL.out.size)
                have HPD : Hid (m = (if 0 < hn ns s then 1 else 0) + posN (ns.drop (s + 1))) := by show _ = _; rw [HM.out]; exact posN_drop ns s (by rw [HNL.out]; exact hlt)
                have hple : posN (ns.drop (s + 1)) ≤ 288 := by
                  have h1 := posN_le (ns.drop (s + 1))
                  rw [List.length_drop] at h1
                  have := HNL.out
                  omega
                obtain ⟨T, hT⟩ : ∃ T, turn (hv ns s) (hn ns s) = T := ⟨_, rfl⟩
                obtain ⟨M, hM⟩ : ∃ M, hn ns s = M := ⟨_, rfl⟩
                rw [hT, hM]
                rw [hM] at HPD
                clear hb8 HBL HM hT hM
                by_cases h0 : 0 < M
                · have h0z : (0 : Int) < (M : Int) := by omega
                  have HQ : Hid (m = 1 + posN (ns.drop (s + 1))) := by have := HPD.out; rw [if_pos h0] at this; exact this
                  have hm := HQ.out
                  have HM1 : Hid ((m : Int) - 1 = (posN (ns.drop (s + 1)) : Int)) := (by omega : (m : Int) - 1 = (posN (ns.drop (s + 1)) : Int))
                  have hm1 : m ≤ 289 := by omega
                  have hm2 : 1 ≤ m := by omega
                  clear hm HPD HQ hple
                  go_wp2
                  go_roundw
                  case rel => exact ⟨s + 1, posN (ns.drop (s + 1)), by omega, by go_num, by rw [← HM1.out], rfl, HB8.out⟩
                  case measure => simp [intOf]; omega
                · obtain rfl : M = 0 := by omega
                  have HQ : Hid (m = posN (ns.drop (s + 1))) := by have := HPD.out; rw [if_neg h0, Nat.zero_add] at this; exact this
                  clear HPD hple
                  go_wp2
                  go_roundw
                  case rel => exact ⟨s + 1, m, by omega, by go_num, rfl, HQ.out, HB8.out⟩
                  case measure => simp [intOf]; omega
              · obtain rfl : s = len := by omega
                have hm0 : m = 0 := by rw [HM.out, List.drop_of_length_le (by have := HNL.out; omega)]; rfl
                subst hm0
                have HBW : Hid (Below w.heap.size w wr) := HB2.out.trans (HBL.out.mono HB2.out.size)
                clear HM HBL
                go_wp2
                go_ret
                exact ⟨rfl, HBW.out⟩
  · rw [hw2]
    have HCV : Hid (checkV ls = f) := by show _ = _; rw [hf]; exact checkV_no hno
    have hfb : (f == 0) = false := by rw [hf]; split <;> rfl
    clear hw2 hf hno
    go_wp2_with fail
    refine (check_any a len cap ls w1 HL.out (by omega) (HR.out.old HB1.out)).mono ?_
    rintro e w3 ⟨rfl, hw3⟩
    rw [hw3, HCV.out]
    clear hw3 HCV
    go_wp2
    go_ret
    exact ⟨rfl, HB1.out⟩
end Go.Proofs.Ytjellgkojmgmjaa
