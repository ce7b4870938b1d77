/- Read: the program. -/
import Derived.Test.YtinmkhdangknbaaTkR
namespace Go.Proofs.Ytinmkhdangknbaa
open Go.RowKit
/-- Bytes: their text, and the sum behind it. -/
def tbT (b : List Int) : List Int := b.take (b.length - 4)
def smT (b : List Int) : Int := litN (b.drop (b.length - 4))
def crT (b : List Int) : Int := ((crcM (BitVec.ofNat 32 0) (tbT b)).toNat : Int)
def rdOk (b : List Int) : Bool := decide (13 ≤ b.length) && decide (smT b = crT b) && okT (tbT b)
def rdE (b : List Int) : Int := if b.length < 13 then 2 else if smT b = crT b then 3 else 4
set_option maxHeartbeats 6400000 in
theorem read_any (a0 : Option Addr) (n0 cap0 : Nat) (b : List Int) (w : World) (hn : b.length = n0) (hnil : a0 = none → cap0 = 0) (hl : n0 ≤ 140737488351232) (hc0 : n0 ≤ cap0) (hcm : cap0 ≤ maxLen) (hb : Bytes b) (hr : Row w a0 b) : Calls Try.prog 14 #[.slice a0 n0 cap0] w fun e w' => PaT w (rdOk b) (rdE b) (flT (tbT b)) (suT (tbT b)) (daT (tbT b)) e w' := by
  have hA : Below w.heap.size w (w.alloc (.cells #[.int .i64 0, .int .u32 0, .slice none 0 0] 25)) := (Below.refl _ _).alloc (Nat.le_refl _) _
  have HZ0 : Hid ((w.alloc (.cells #[.int .i64 0, .int .u32 0, .slice none 0 0] 25)).heap[w.heap.size]? = some (.cells #[.int .i64 0, .int .u32 0, .slice none 0 0] 25 (0, 0))) := heap_alloc_newT w _
  have HA : Hid (Below w.heap.size w (w.alloc (.cells #[.int .i64 0, .int .u32 0, .slice none 0 0] 25))) := hA
  have HT : Hid (Bytes b ∧ b.length = n0) := ⟨hb, hn⟩
  by_cases h9 : n0 < 13
  · have h9i : (n0 : Int) < 13 := by omega
    have HF : Hid (PaT w (rdOk b) (rdE b) (flT (tbT b)) (suT (tbT b)) (daT (tbT b)) (.returned (.tuple #[.agg #[.int .i64 0, .int .u32 0, .slice none 0 0], .int .i64 2])) ((w.alloc (.cells #[.int .i64 0, .int .u32 0, .slice none 0 0] 25)).setCells w.heap.size 0 (Array.toList #[.int .i64 0, .int .u32 0, .slice none 0 0]))) := by
      have e1 : rdOk b = false := by unfold rdOk; rw [hn, decide_eq_false (by omega)]; rfl
      have e2 : rdE b = 2 := by unfold rdE; rw [hn, if_pos h9]
      rw [e1, e2]
      exact fin_bad 2 rfl hA
    obtain ⟨w1, hw1⟩ : ∃ w1, (w.alloc (.cells #[.int .i64 0, .int .u32 0, .slice none 0 0] 25)) = w1 := ⟨_, rfl⟩
    rw [hw1] at HF HZ0
    clear hA HA hn hnil hl hc0 hcm hb hr
    go_enter Try.func14, Try.ntmps14
    go_upto_region 1 with fail
    clear hw1
    have HX : Hid ((w1.setCells w.heap.size 0 (Array.toList #[.int .i64 0, .int .u32 0, .slice none 0 0])).heap[w.heap.size]? = some (.cells #[.int .i64 0, .int .u32 0, .slice none 0 0] 25 (0, 0))) := set_three _ _ _ HZ0.out
    obtain ⟨z0, z1, z2⟩ := three_cells HZ0.out
    obtain ⟨y0, y1, y2⟩ := fz_three HZ0.out
    go_wp2
    refine bodyPost_ret (v := .tuple #[.agg #[.int .i64 0, .int .u32 0, .slice none 0 0], .int .i64 2]) ?_ rfl HF.out
    rw [results_ct rfl]
    simp [asAddr]
    have L0 := load_tok HX.out
    refine (congrArg (fun r => Result.andThen r _) L0).trans ?_
    rfl
  · obtain ⟨bb, off, rfl⟩ : ∃ bb off, a0 = some ⟨bb, off, none⟩ := by
      rcases hr with e | ⟨bb, off, e, _⟩
      · rw [e] at hn; simp at hn; omega
      · exact ⟨bb, off, e⟩
    obtain ⟨m, hm⟩ : ∃ m, n0 = m + 4 := ⟨n0 - 4, by omega⟩
    subst hm
    have hm5 : 9 ≤ m := by omega
    obtain ⟨w1, hw1⟩ : ∃ w1, (w.alloc (.cells #[.int .i64 0, .int .u32 0, .slice none 0 0] 25)) = w1 := ⟨_, rfl⟩
    rw [hw1] at HZ0 HA hA
    have etx : tbT b = b.take m := by unfold tbT; rw [hn]; rfl
    have htl : (tbT b).length = m := by rw [etx, List.length_take]; omega
    have hrt : Row w1 (some ⟨bb, off, none⟩) (tbT b) := by rw [etx]; exact (hr.old hA).take m
    have htb : Bytes (tbT b) := by rw [etx]; exact hb.take m
    have hbok : BOk w1 (some ⟨bb, off, none⟩) m cap0 (tbT b) := ⟨htl, htb, by omega, ⟨by omega, by unfold maxLen at hcm; omega⟩, (by intro h; cases h), hrt⟩
    have CL := Little_any (some ⟨bb, off, none⟩) (m + 4) cap0 (m : Int) 4 b w1 hn hc0 hcm (by decide) hb (hr.old hA)
    have ecE : cutE b.length (m : Int) 4 = 0 := by unfold cutE; rw [hn, if_neg (by omega), if_neg (by omega)]
    have ecL : cutL b (m : Int) 4 = b.drop m := by unfold cutL; rw [ecE, if_pos rfl]; simp; rw [List.take_of_length_le (by rw [List.length_drop]; omega)]
    rw [ecE, ecL] at CL
    have esm : smT b = litN (b.drop m) := by unfold smT; rw [hn]; rfl
    have hsb := litN_bound (hb.drop m)
    rw [List.length_drop, hn, show m + 4 - m = 4 by omega] at hsb
    obtain ⟨S4, hS⟩ : ∃ S, litN (b.drop m) = S := ⟨_, rfl⟩
    rw [hS] at CL esm hsb
    have hS4 : 0 ≤ S4 ∧ S4 < 4294967296 := by simpa using hsb
    have CO := of_one w1 _ rfl (some ⟨bb, off, none⟩) m cap0 (tbT b) hbok
    have hA2 : Below w1.heap.size w1 (w1.alloc (.cells #[.slice (some ⟨bb, off, none⟩) m cap0] 23)) := (Below.refl _ _).alloc (Nat.le_refl _) _
    have CP := parse_any (some ⟨bb, off, none⟩) m cap0 (tbT b) (w1.alloc (.cells #[.slice (some ⟨bb, off, none⟩) m cap0] 23)) htl hm5 (by intro h; cases h) (by omega) htb (hrt.old hA2)
    obtain ⟨X, hX⟩ : ∃ X, (crcM (BitVec.ofNat 32 0) (tbT b)).toNat = X := ⟨_, rfl⟩
    have hXlt : X < 4294967296 := by rw [← hX]; exact (crcM (BitVec.ofNat 32 0) (tbT b)).isLt
    have ecr : crT b = (X : Int) := by unfold crT; rw [hX]
    rw [hX] at CO
    have HCL : Hid (Calls Try.prog 35 #[.slice (some ⟨bb, off, none⟩) (m + 4) cap0, .int .i64 (m : Int), .int .i64 4] w1 fun e w' => e = .returned (.tuple #[.int .i64 S4, .int .i64 0]) ∧ w' = w1) := CL
    have HCO : Hid (Calls Try.prog 30 #[.slice (some ⟨w1.heap.size, 0, none⟩) 1 1] (w1.alloc (.cells #[.slice (some ⟨bb, off, none⟩) m cap0] 23)) fun e w' => e = .returned (.int .u32 (X : Int)) ∧ w' = w1.alloc (.cells #[.slice (some ⟨bb, off, none⟩) m cap0] 23)) := CO
    have HCP : Hid (Calls Try.prog 36 #[.slice (some ⟨bb, off, none⟩) m cap0] (w1.alloc (.cells #[.slice (some ⟨bb, off, none⟩) m cap0] 23)) fun e w' => PaT (w1.alloc (.cells #[.slice (some ⟨bb, off, none⟩) m cap0] 23)) (okT (tbT b)) 3 (flT (tbT b)) (suT (tbT b)) (daT (tbT b)) e w') := CP
    have HE : Hid (rdOk b = (decide (S4 = (X : Int)) && okT (tbT b)) ∧ rdE b = if S4 = (X : Int) then 3 else 4) := by
      refine ⟨?_, ?_⟩
      · unfold rdOk; rw [esm, ecr, hn, decide_eq_true (by omega : 13 ≤ m + 4)]; simp
      · unfold rdE; rw [esm, ecr, hn, if_neg (by omega)]
    have HZ2 : Hid ((w1.alloc (.cells #[.slice (some ⟨bb, off, none⟩) m cap0] 23)).heap[w.heap.size]? = some (.cells #[.int .i64 0, .int .u32 0, .slice none 0 0] 25 (0, 0))) := (hA2.block _ (lt_of_block HZ0.out)).trans HZ0.out
    have HB2 : Hid (Below w.heap.size w (w1.alloc (.cells #[.slice (some ⟨bb, off, none⟩) m cap0] 23))) := HA.out.trans (hA2.mono HA.out.size)
    clear CL CO CP hA hA2 hn hnil hb hr etx htl hrt htb hbok ecE ecL esm hsb hS hX ecr HA
    unfold maxLen at hcm
    have hsw : IntKind.u32.wrap S4 = S4 := by rw [IntKind.wrap_u32]; omega
    go_enter Try.func14, Try.ntmps14
    go_upto_region 1 with fail
    clear hw1
    obtain ⟨w2, hw2⟩ : ∃ w2, w1.alloc (.cells #[.slice (some ⟨bb, off, none⟩) m cap0] 23) = w2 := ⟨_, rfl⟩
    rw [hw2] at HCO HCP HZ2 HB2
    by_cases hs : S4 = (X : Int)
    · subst hs
      rw [decide_eq_true rfl, if_pos rfl] at HE
      go_upto_region 7 with (first | (go_at_call 35; refine Calls.mono HCL.out ?_; rintro e x ⟨rfl, hx⟩; have hx2 := hx.symm; clear hx; subst hx2) | (go_at_call 30; refine Calls.mono HCO.out ?_; rintro e x ⟨rfl, hx⟩; have hx2 := hx.symm; clear hx; subst hx2))
      go_wp2_with fail
      refine Calls.mono HCP.out ?_
      rintro e w3 ⟨q1, q2, q3⟩
      have HZ3 : Hid (w3.heap[w.heap.size]? = some (.cells #[.int .i64 0, .int .u32 0, .slice none 0 0] 25 (0, 0))) := (q1.block _ (lt_of_block HZ2.out)).trans HZ2.out
      have HB3 : Hid (Below w.heap.size w w3) := HB2.out.trans (q1.mono HB2.out.size)
      have HU : Hid (w.heap.size < w2.heap.size) := lt_of_block HZ2.out
      cases hok : okT (tbT b)
      · obtain rfl := q2 hok
        rw [hok] at HE
        have HF : Hid (PaT w (rdOk b) (rdE b) (flT (tbT b)) (suT (tbT b)) (daT (tbT b)) (.returned (.tuple #[.agg #[.int .i64 0, .int .u32 0, .slice none 0 0], .int .i64 3])) (w3.setCells w.heap.size 0 (Array.toList #[.int .i64 0, .int .u32 0, .slice none 0 0]))) := by
          rw [HE.out.1, HE.out.2]
          exact fin_bad 3 rfl HB3.out
        clear q1 q2 q3 hok
        have HX : Hid ((w3.setCells w.heap.size 0 (Array.toList #[.int .i64 0, .int .u32 0, .slice none 0 0])).heap[w.heap.size]? = some (.cells #[.int .i64 0, .int .u32 0, .slice none 0 0] 25 (0, 0))) := set_three _ _ _ HZ3.out
        obtain ⟨z0, z1, z2⟩ := three_cells HZ3.out
        obtain ⟨y0, y1, y2⟩ := fz_three HZ3.out
        go_wp2
        refine bodyPost_ret (v := .tuple #[.agg #[.int .i64 0, .int .u32 0, .slice none 0 0], .int .i64 3]) ?_ rfl HF.out
        rw [results_ct rfl]
        simp [asAddr]
        have L0 := load_tok HX.out
        refine (congrArg (fun r => Result.andThen r _) L0).trans ?_
        rfl
      · obtain ⟨ra, rc, rfl, hm3, hf3⟩ := q3 hok
        rw [hok] at HE
        have HM3 : Hid (BOk w3 ra (daT (tbT b)).length rc (daT (tbT b)) ∧ ∀ x, ra = some x → w2.heap.size ≤ x.block) := ⟨hm3, hf3⟩
        clear q1 q2 q3 hok hm3 hf3 hw2
        obtain ⟨F, hF⟩ : ∃ x, flT (tbT b) = x := ⟨_, rfl⟩
        obtain ⟨S, hS⟩ : ∃ x, suT (tbT b) = x := ⟨_, rfl⟩
        obtain ⟨D, hD⟩ : ∃ x, daT (tbT b) = x := ⟨_, rfl⟩
        rw [hF, hS, hD]
        rw [hD] at HM3
        have HF : Hid (PaT w (rdOk b) (rdE b) (flT (tbT b)) (suT (tbT b)) (daT (tbT b)) (.returned (.tuple #[.agg #[.int .i64 F, .int .u32 S, .slice ra D.length rc], .int .i64 0])) (w3.setCells w.heap.size 0 (Array.toList #[.int .i64 F, .int .u32 S, .slice ra D.length rc]))) := by
          rw [HE.out.1, HE.out.2, hF, hS, hD]
          exact fin_ok (U0 := w2.heap.size) _ rfl HB3.out HM3.out.1 HM3.out.2 HU.out
        have HX : Hid ((w3.setCells w.heap.size 0 (Array.toList #[.int .i64 F, .int .u32 S, .slice ra D.length rc])).heap[w.heap.size]? = some (.cells #[.int .i64 F, .int .u32 S, .slice ra D.length rc] 25 (0, 0))) := set_three _ _ _ HZ3.out
        clear hF hS hD
        obtain ⟨z0, z1, z2⟩ := three_cells HZ3.out
        obtain ⟨y0, y1, y2⟩ := fz_three HZ3.out
        go_wp2
        refine bodyPost_ret (v := .tuple #[.agg #[.int .i64 F, .int .u32 S, .slice ra D.length rc], .int .i64 0]) ?_ rfl HF.out
        rw [results_ct rfl]
        simp [asAddr]
        have L0 := load_tok HX.out
        refine (congrArg (fun r => Result.andThen r _) L0).trans ?_
        rfl
    · have hne : (S4 != (X : Int)) = true := by simpa using hs
      obtain ⟨s1, s2⟩ := hS4
      rw [decide_eq_false hs, if_neg hs] at HE
      clear hs
      go_upto_region 6 with (first | (go_at_call 35; refine Calls.mono HCL.out ?_; rintro e x ⟨rfl, hx⟩; have hx2 := hx.symm; clear hx; subst hx2) | (go_at_call 30; refine Calls.mono HCO.out ?_; rintro e x ⟨rfl, hx⟩; have hx2 := hx.symm; clear hx; subst hx2))
      have HF : Hid (PaT w (rdOk b) (rdE b) (flT (tbT b)) (suT (tbT b)) (daT (tbT b)) (.returned (.tuple #[.agg #[.int .i64 0, .int .u32 0, .slice none 0 0], .int .i64 4])) (w2.setCells w.heap.size 0 (Array.toList #[.int .i64 0, .int .u32 0, .slice none 0 0]))) := by
        rw [HE.out.1, HE.out.2]
        exact fin_bad 4 rfl HB2.out
      have HX : Hid ((w2.setCells w.heap.size 0 (Array.toList #[.int .i64 0, .int .u32 0, .slice none 0 0])).heap[w.heap.size]? = some (.cells #[.int .i64 0, .int .u32 0, .slice none 0 0] 25 (0, 0))) := set_three _ _ _ HZ2.out
      obtain ⟨z0, z1, z2⟩ := three_cells HZ2.out
      obtain ⟨y0, y1, y2⟩ := fz_three HZ2.out
      go_wp2
      refine bodyPost_ret (v := .tuple #[.agg #[.int .i64 0, .int .u32 0, .slice none 0 0], .int .i64 4]) ?_ rfl HF.out
      rw [results_ct rfl]
      simp [asAddr]
      have L0 := load_tok HX.out
      refine (congrArg (fun r => Result.andThen r _) L0).trans ?_
      rfl
end Go.Proofs.Ytinmkhdangknbaa
