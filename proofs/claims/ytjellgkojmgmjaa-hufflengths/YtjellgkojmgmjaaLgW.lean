import Derived.Test.YtjellgkojmgmjaaHnF
import Derived.Test.YtjellgkojmgmjaaArgI
import Derived.Test.YtjellgkojmgmjaaHhC
namespace Go.Proofs.Ytjellgkojmgmjaa
open Go.RowKit

/-- The library's stable sort, of all rows that Lengths may have. -/
def SortsAll : Prop := ∀ w' base v xs, xs.length ≤ 288 → Sorts w' base v xs
def posL (cs : List Int) : List Int := cs.filter fun c => decide (0 < c)
theorem posL_snoc (l : List Int) (x : Int) : posL (l ++ [x]) = posL l ++ if 0 < x then [x] else [] := by
  unfold posL
  rw [List.filter_append]
  by_cases h : 0 < x
  · simp [h]
  · simp [h]
def cstK (cs ls : List Int) (k : Nat) : Int := ((List.range k).map fun (j : Nat) => cs[j]?.getD 0 * ls[j]?.getD 0).sum
theorem cstK_succ (cs ls : List Int) (k : Nat) : cstK cs ls (k + 1) = cstK cs ls k + cs[k]?.getD 0 * ls[k]?.getD 0 := by
  unfold cstK
  rw [List.range_succ, List.map_append, List.sum_append]
  simp
theorem mul_bd {x y : Int} (h1 : 0 ≤ x ∧ x ≤ 2147483648) (h2 : 0 ≤ y ∧ y ≤ 15) : 0 ≤ x * y ∧ x * y ≤ 32212254720 := by
  refine ⟨Int.mul_nonneg h1.1 h2.1, ?_⟩
  have := Int.mul_le_mul h1.2 h2.2 h2.1 (by omega)
  omega
theorem cstK_bd {cs ls : List Int} (h1 : ∀ j : Nat, 0 ≤ cs[j]?.getD 0 ∧ cs[j]?.getD 0 ≤ 2147483648) (h2 : ∀ j : Nat, 0 ≤ ls[j]?.getD 0 ∧ ls[j]?.getD 0 ≤ 15) (k : Nat) : 0 ≤ cstK cs ls k ∧ cstK cs ls k ≤ 32212254720 * k := by
  induction k with
  | zero => simp [cstK]
  | succ k ih =>
    rw [cstK_succ]
    have := mul_bd (h1 k) (h2 k)
    omega
def LgRel (w2 : World) (cs : List Int) (k : Nat) (v : Value) (wr : World) : Prop :=
  ∃ g, Sl wr 3 v g (ivals (posL (cs.take k))) ∧ (∀ q, g = some q → w2.heap.size ≤ q) ∧ Below w2.heap.size w2 wr
set_option maxHeartbeats 3200000 in
set_option maxRecDepth 20000 in
theorem hlengths_walk (hsort : SortsAll) (a : Option Addr) (len cap : Nat) (most : Int) (w : World) (h : IArg w a len cap) (_ : (Lit.int .i64 most).wf = true) :
    Calls Try.prog 7 #[.slice a len cap, .int .i64 most] w fun e w' => e = .returned (.bool true) ∧ Below w.heap.size w w' := by
  obtain ⟨cs, hl, hc, hcap, _, hrow⟩ := h
  have HR : Hid (IRow w a cs) := hrow
  have HL : Hid (cs.length = len) := hl
  have HSO : Hid SortsAll := hsort
  clear hrow hl hsort
  go_enter Try.func7, Try.ntmps7
  go_wp2_with fail
  refine (fixed_any _).mono ?_
  rintro e w1 ⟨rfl, hb1⟩
  have HB1 : Hid (Below w.heap.size w w1) := hb1
  clear hb1
  by_cases harg : okCounts cs = false ∨ most < 1 ∨ 15 < most
  · have HCV : Hid (checkC cs most = 1) := checkC_arg harg
    go_wp2_with fail
    refine (lengths_arg a len cap cs most w1 HL.out (by omega) (HR.out.old HB1.out) harg).mono ?_
    rintro e w2 ⟨rfl, hw2⟩
    rw [hw2]
    clear hw2 harg
    go_wp2_with fail
    refine (checkCounts_any a len cap cs most w1 HL.out (by omega) (HR.out.old HB1.out)).mono ?_
    rintro e w3 ⟨rfl, hw3⟩
    rw [hw3, HCV.out]
    clear hw3 HCV
    go_wp2
    go_ret
    exact ⟨rfl, HB1.out⟩
  · have hok : okCounts cs = true := by
      cases h : okCounts cs with
      | true => rfl
      | false => exact absurd (.inl h) harg
    have hm1 : 1 ≤ most := by
      by_cases h : 1 ≤ most
      · exact h
      · exact absurd (.inr (.inl (by omega))) harg
    have hm2 : most ≤ 15 := by
      by_cases h : most ≤ 15
      · exact h
      · exact absurd (.inr (.inr (by omega))) harg
    clear harg
    obtain ⟨M, rfl⟩ := Int.eq_ofNat_of_zero_le (show 0 ≤ most by omega)
    have hM1 : 1 ≤ M := by omega
    have hM2 : M ≤ 15 := by omega
    have h288 : len ≤ 288 := by rw [← HL.out]; exact okCounts_few hok
    by_cases hcode : 2 ^ M < wordsN cs
    · have HCV : Hid (checkC cs M = 5) := by
        show _ = _
        unfold checkC
        rw [hok, if_pos (by simp; omega), Int.toNat_natCast, if_pos hcode]
      go_wp2_with fail
      refine (lengths_code a len cap cs M w1 HL.out (by omega) (HR.out.old HB1.out) hok hM1 hM2 hcode).mono ?_
      rintro e w2 ⟨rfl, hw2⟩
      rw [hw2]
      clear hw2 hcode hok
      go_wp2_with fail
      refine (checkCounts_any a len cap cs M w1 HL.out (by omega) (HR.out.old HB1.out)).mono ?_
      rintro e w3 ⟨rfl, hw3⟩
      rw [hw3, HCV.out]
      clear hw3 HCV
      go_wp2
      go_ret
      exact ⟨rfl, HB1.out⟩
    · have HCV : Hid (checkC cs M = 0) := by
        show _ = _
        unfold checkC
        rw [hok, if_pos (by simp; omega), Int.toNat_natCast, if_neg hcode]
      have HOK : Hid (okCounts cs = true ∧ wordsN cs ≤ 2 ^ M) := ⟨hok, by omega⟩
      clear hok hcode
      go_wp2_with fail
      refine (lengths_yes a len cap cs M w1 HL.out (HR.out.old HB1.out) HOK.out.1 hM1 hM2 HOK.out.2 (fun base w' v xs hx => HSO.out w' base v xs (by rw [hx]; have := wordsN_le cs; have := HL.out; omega))).mono ?_
      rintro e w2 ⟨gl, ps, rfl, hpp, hrr, hlr, hgl, hb2⟩
      have HG : Hid (Good cs (lensOf cs.length M ps) M) := lens_good HOK.out.1 hM1 hM2 HOK.out.2 hpp hrr
      have HLR : Hid (LRow w2 gl (lensOf cs.length M ps)) := hlr
      have HB2 : Hid (Below w.heap.size w w2) := HB1.out.trans (hb2.mono HB1.out.size)
      obtain ⟨ls, hls⟩ : ∃ ls, lensOf cs.length M ps = ls := ⟨_, rfl⟩
      rw [hls] at HG HLR
      rw [HL.out]
      clear hpp hrr hlr hgl hb2 hls
      go_wp2_with fail
      refine (checkCounts_any a len cap cs M w2 HL.out (by omega) (HR.out.old HB2.out)).mono ?_
      rintro e w3 ⟨rfl, hw3⟩
      rw [hw3, HCV.out]
      clear hw3 HCV
      go_wp2_with fail
      refine (check_any (some ⟨gl, 0, none⟩) len len ls w2 (by rw [HG.out.len]; exact HL.out) (by omega) HLR.out.irow).mono ?_
      rintro e w3 ⟨rfl, hw3⟩
      rw [hw3, HG.out.whole]
      clear hw3
      have HC0 : Hid (∀ j : Nat, 0 ≤ cs[j]?.getD 0 ∧ cs[j]?.getD 0 ≤ 2147483648) := fun j => by
        by_cases hj : j < cs.length
        · rw [List.getElem?_eq_getElem hj]; exact okCounts_mem HOK.out.1 _ (List.getElem_mem hj)
        · rw [List.getElem?_eq_none (by omega)]; simp
      have HL0 : Hid (∀ j : Nat, 0 ≤ ls[j]?.getD 0 ∧ ls[j]?.getD 0 ≤ 15) := fun j => by
        by_cases hj : j < cs.length
        · have := HG.out.each j hj; omega
        · rw [List.getElem?_eq_none (by rw [HG.out.len]; omega)]; simp
      have HS : Hid (LgRel w2 cs 0 (.slice none 0 0) w2) := ⟨none, Sl.nil _ _, (by intro q hq; cases hq), Below.refl _ _⟩
      go_wp2
      go_loopw [8, 9, 50] (fun v sm i wr => ∃ k : Nat, k ≤ len ∧ i = .int .i64 k ∧ sm = .int .i64 (cstK cs ls k) ∧ LgRel w2 cs k v wr) (fun _ _ i _ => len - (intOf i).toNat)
      case atStart => exact ⟨0, Nat.zero_le _, rfl, rfl, HS.out⟩
      case round =>
        clear HS
        obtain ⟨k, hk, rfl, rfl, g, hsl, hg, hbel⟩ := hrel
        have hcb := cstK_bd HC0.out HL0.out k
        by_cases hlt : k < len
        · have hkc : k < cs.length := by rw [HL.out]; exact hlt
          obtain ⟨b, off, ha, hck0⟩ := HR.out.at k hkc
          have hck := ((HB2.out.trans (hbel.mono HB2.out.size)).cell (p := ⟨b, off + k, none⟩) (cell_lt hck0)).trans hck0
          have hlk0 := (HLR.out.cell k (by rw [HG.out.len]; exact hkc)).1
          have hlk := (hbel.cell (p := ⟨gl, k, none⟩) (cell_lt hlk0)).trans hlk0
          have hE := HG.out.each k hkc
          have hcz := HC0.out k
          have hlz := HL0.out k
          have HCS : Hid (cstK cs ls (k + 1) = cstK cs ls k + cs[k]?.getD 0 * ls[k]?.getD 0) := cstK_succ cs ls k
          have HPS : Hid (posL (cs.take (k + 1)) = posL (cs.take k) ++ if 0 < cs[k]?.getD 0 then [cs[k]?.getD 0] else []) := by show _ = _; rw [take_snocI cs k hkc, posL_snoc]
          have hpl : (posL (cs.take k)).length ≤ 288 := by
            have h1 : (posL (cs.take k)).length ≤ (cs.take k).length := List.length_filter_le _ _
            rw [List.length_take] at h1
            omega
          have hmb := mul_bd hcz hlz
          have HX : Hid (Sl wr 3 u8 g (ivals (posL (cs.take k))) ∧ (∀ q, g = some q → w2.heap.size ≤ q) ∧ Below w2.heap.size w2 wr) := ⟨hsl, hg, hbel⟩
          clear hck0 hlk0 hsl hg hbel
          subst ha
          generalize cs[k]?.getD 0 = z at *
          generalize ls[k]?.getD 0 = y at *
          generalize cstK cs ls k = S at *
          have hyM : ¬ (M : Int) < y := by omega
          have hkk : (32212254720 : Int) * k ≤ 32212254720 * 288 := by omega
          have hmul : wrap64 (z * y) = z * y := by
            generalize z * y = P at hmb ⊢
            unfold wrap64; omega
          have hSb : S ≤ 10000000000000 := by omega
          have hadd : wrap64 (S + z * y) = S + z * y := by
            generalize z * y = P at hmb ⊢
            unfold wrap64; omega
          by_cases hz : 0 < z
          · have hy : 0 < y := hE.2.2.1 hz
            have HP2 : Hid (posL (cs.take (k + 1)) = posL (cs.take k) ++ [z]) := by show _ = _; rw [HPS.out, if_pos hz]
            clear HPS hE
            go_wp2_with (at_builtin; refine wpList_push_int3 rfl _ _ rfl wr z rfl _ g (posL (cs.take k)) rfl HX.out.1 rfl (by omega) ?_)
            intro v6 w6 g6 hs6 hg6 hgr
            have R : Hid (LgRel w2 cs (k + 1) v6 w6) := by
              obtain ⟨x1, x2, x3⟩ := HX.out
              refine ⟨g6, by rw [HP2.out]; exact hs6, fun q hq => ?_, Fr.below (x3.alloc x3.size _) (Fr.grown (r := w2.heap.size) hgr) (Nat.le_refl _) x2 (Nat.le_trans x3.size (by simp))⟩
              rcases hg6 with e | ⟨j, e, hj⟩
              · exact x2 q (by rw [← e]; exact hq)
              · rw [e] at hq; cases hq; have := x3.size; omega
            clear hs6 hg6 hgr HX HP2
            go_wp2
            go_roundw
            case rel => exact ⟨k + 1, by omega, by go_num, by rw [HCS.out], R.out⟩
            case measure => simp [intOf]; omega
          · have hy : ¬ 0 < y := fun h => hz (hE.2.2.2 h)
            have R : Hid (LgRel w2 cs (k + 1) u8 wr) := by
              obtain ⟨x1, x2, x3⟩ := HX.out
              exact ⟨g, by rw [HPS.out, if_neg hz, List.append_nil]; exact x1, x2, x3⟩
            clear HPS hE HX
            go_wp2
            go_roundw
            case rel => exact ⟨k + 1, by omega, by go_num, by rw [HCS.out], R.out⟩
            case measure => simp [intOf]; omega
        · obtain rfl : k = len := by omega
          have htk : cs.take k = cs := List.take_of_length_le (by rw [HL.out]; exact Nat.le_refl _)
          rw [htk] at hsl
          have HCO : Hid (cstK cs ls k = costN cs ls) := by show _ = _; unfold cstK costN; rw [HL.out]
          have HPW : Hid ((posL cs).length = wordsN cs) := filter_len cs
          have HBW : Hid (Below w.heap.size w wr) := HB2.out.trans (hbel.mono HB2.out.size)
          obtain ⟨as', cs', hv, hq1, hq2, _⟩ := hsl.shape
          rw [ivals_len] at hv hq1
          subst hv
          have HSL : Hid (IRow wr as' (posL cs)) := hsl.irow rfl
          rw [HPW.out] at hq1 ⊢
          rw [HCO.out]
          rw [HCO.out] at hcb
          have hwn : wordsN cs ≤ 288 := by have := wordsN_le cs; have := HL.out; omega
          clear hsl hg hbel htk HCO
          by_cases h0 : wordsN cs = 0
          · rw [h0]
            generalize costN cs ls = S at *
            clear HPW
            go_wp2
            go_ret
            exact ⟨rfl, HBW.out⟩
          · by_cases h1 : wordsN cs = 1
            · have hone := HG.out.one h1
              have hpc : (posL cs)[0]?.getD 0 = costN cs ls := by unfold posL; rw [← hone]; rfl
              obtain ⟨b, off, ha, hck⟩ := HSL.out.at 0 (by rw [HPW.out]; omega)
              rw [hpc, Nat.add_zero] at hck
              subst ha
              rw [h1]
              rw [h1] at hq1
              clear hone hpc HPW h0 h1
              generalize costN cs ls = S at *
              go_wp2
              go_ret
              exact ⟨by simp, HBW.out⟩
            · have hbest := HG.out.best (by omega)
              obtain ⟨b, off, ha, _⟩ := HSL.out.at 0 (by rw [HPW.out]; omega)
              subst ha
              have hn2 : ¬ (wordsN cs : Int) < 2 := by omega
              have hn2' : 2 ≤ wordsN cs := by omega
              have HMP : Hid (∀ y ∈ posL cs, 0 ≤ y ∧ y ≤ 2147483648) := fun y hy => okCounts_mem HOK.out.1 y (List.mem_filter.1 hy).1
              have HLV : Hid (leastV (posL cs) M = costN cs ls) := hbest.symm
              clear hbest h0 h1
              obtain ⟨N, hN⟩ : ∃ N, wordsN cs = N := ⟨_, rfl⟩
              rw [hN] at hn2 hn2' hwn hq1 HPW ⊢
              clear hN
              go_wp2_with fail
              refine (least_any ⟨b, off, none⟩ N cs' (posL cs) M wr HPW.out hn2' hwn hM2 HSL.out HMP.out).mono ?_
              rintro e w9 ⟨rfl, hb9⟩
              rw [HLV.out]
              have HB9 : Hid (Below w.heap.size w w9) := HBW.out.trans (hb9.mono HBW.out.size)
              clear hb9 HLV HPW HSL HMP
              generalize costN cs ls = S at *
              go_wp2
              go_ret
              exact ⟨by simp, HB9.out⟩
end Go.Proofs.Ytjellgkojmgmjaa
