/- Read: the program. -/
import Derived.Test.YtaibojmaghmfnaaMgV2
namespace Go.Proofs.Ytaibojmaghmfnaa
open Go.RowKit
set_option maxHeartbeats 400000 in
theorem little_any (a : Option Addr) (n cap : Nat) (zs : List Int) (w : World) (hn : zs.length = n) (h4 : n ≤ 4) (hb : Bytes zs) (hr : Row w a zs) :
    Calls Try.prog 47 #[.slice a n cap] w fun e w' => e = .returned (.int .i64 (litN zs)) ∧ w' = w := by
  have HN : Hid (zs.length = n) := hn
  have HB : Hid (Bytes zs) := hb
  rcases hr with rfl | ⟨b, off, rfl, hc⟩
  · simp at hn
    subst hn
    clear h4 hb
    go_enter Try.func47, Try.ntmps47
    go_wp2
    go_loop [3, 8] (fun v i => v = .int .u64 0 ∧ i = .int .i64 0) (fun _ _ => 0)
    case atStart => exact ⟨rfl, rfl⟩
    case round =>
      obtain ⟨rfl, rfl⟩ := hrel
      go_wp2
      go_ret
      exact ⟨ret_int rfl, rfl⟩
  · clear hn hb
    go_enter Try.func47, Try.ntmps47
    go_wp2
    go_loop [3, 4, 5, 8] (fun v _ _ i => ∃ k : Nat, k ≤ n ∧ i = .int .i64 k ∧ v = .int .u64 (litN (zs.take k))) (fun _ _ _ i => n - (intOf i).toNat)
    case atStart => exact ⟨0, Nat.zero_le _, rfl, rfl⟩
    case round =>
      obtain ⟨k, hk, rfl, rfl⟩ := hrel
      have hbd := litN_le (HB.out.take k) (by simp; omega)
      by_cases hlt : k < n
      · have hck := hc k (by have := HN.out; omega)
        have hzk := HB.out.at k
        have HS : Hid (litN (zs.take (k + 1)) = litN (zs.take k) + (zs[k]?.getD 0) * 256 ^ k) := by rw [take_snoc zs k (by have := HN.out; omega), litN_snoc]; simp; rw [Nat.min_eq_left (by have := HN.out; omega)]; trivial
        have hbk := litN_bound (HB.out.take k)
        have HO : Hid _ := or_at (litN (zs.take k)) (zs[k]?.getD 0) k (by omega) hbk.1 (by have h := hbk.2; rwa [List.length_take, Nat.min_eq_left (by have := HN.out; omega)] at h) hzk.1 hzk.2
        clear hbk
        go_wp2
        go_round
        case rel => exact ⟨k + 1, by omega, by go_num, by rw [HS.out, ← HO.out]⟩
        case measure => simp [intOf]; omega
      · go_wp2
        go_ret
        exact ⟨ret_int (by rw [List.take_of_length_le (by have := HN.out; omega)]), rfl⟩
set_option maxHeartbeats 400000 in
theorem Little_any (a : Option Addr) (len cap : Nat) (p n : Int) (zs : List Int) (w : World) (hn : zs.length = len) (hl : len ≤ cap) (hm : cap ≤ maxLen) (wn : (Lit.int .i64 n).wf = true) (hb : Bytes zs) (hr : Row w a zs) :
    Calls Try.prog 26 #[.slice a len cap, .int .i64 p, .int .i64 n] w fun e w' => e = .returned (.tuple #[.int .i64 (litN (cutL zs p n)), .int .i64 (cutE zs.length p n)]) ∧ w' = w := by
  have C := cut_any a len cap p n zs w hn hl hm wn hr
  have HB : Hid (Bytes (cutL zs p n) ∧ (cutL zs p n).length ≤ 4) := ⟨cutL_bytes hb p n, cutL_len zs p n⟩
  generalize cutL zs p n = l at *
  generalize cutE zs.length p n = er at *
  clear hn hr hb hl hm
  go_enter Try.func26, Try.ntmps26
  go_wp2_with fail
  refine C.mono ?_
  clear C
  rintro e w' ⟨a', cap', rfl, hrow, rfl⟩
  go_wp2_with fail
  refine (little_any a' l.length cap' l _ rfl HB.out.2 HB.out.1 hrow).mono ?_
  rintro e w1 ⟨rfl, rfl⟩
  go_wp2
  go_ret2
  exact ⟨rfl, rfl⟩


def txT (b : List Int) : List Int := b.take (b.length - 4)
def smT (b : List Int) : Int := litN (b.drop (b.length - 4))
def crT (b : List Int) : Int := ((crcM (BitVec.ofNat 32 0) (txT b)).toNat : Int)
def rdOk (b : List Int) : Bool := decide (9 ≤ b.length) && decide (smT b = crT b) && okT (txT b)
def rdE (b : List Int) : Int := if b.length < 9 then 2 else if smT b = crT b then 3 else 4
set_option maxHeartbeats 12800000 in
theorem read_any (a0 : Option Addr) (n0 cap0 : Nat) (b : List Int) (w : World) (hn : b.length = n0) (hnil : a0 = none → cap0 = 0) (hl : n0 ≤ 100000) (hc0 : n0 ≤ cap0) (hcm : cap0 ≤ maxLen) (hb : Bytes b) (hr : Row w a0 b) : Calls Try.prog 13 #[.slice a0 n0 cap0] w fun e w' => MsP w (rdOk b) (rdE b) (mnT (txT b)) e w' := by
  have hA : Below w.heap.size w (w.alloc (.cells #[.int .i64 0, .int .u32 0, .int .i64 0, .int .u32 0, .int .i64 0, .int .i64 0, .int .i64 0, .int .i64 0, .int .i64 0, .int .i64 0, .slice none 0 0, .slice none 0 0] 26)) := (Below.refl _ _).alloc (Nat.le_refl _) _
  have HZ0 : Hid ((w.alloc (.cells #[.int .i64 0, .int .u32 0, .int .i64 0, .int .u32 0, .int .i64 0, .int .i64 0, .int .i64 0, .int .i64 0, .int .i64 0, .int .i64 0, .slice none 0 0, .slice none 0 0] 26)).heap[w.heap.size]? = some (.cells #[.int .i64 0, .int .u32 0, .int .i64 0, .int .u32 0, .int .i64 0, .int .i64 0, .int .i64 0, .int .i64 0, .int .i64 0, .int .i64 0, .slice none 0 0, .slice none 0 0] 26 (0, 0))) := heap_alloc_newM w _
  have HA : Hid (Below w.heap.size w (w.alloc (.cells #[.int .i64 0, .int .u32 0, .int .i64 0, .int .u32 0, .int .i64 0, .int .i64 0, .int .i64 0, .int .i64 0, .int .i64 0, .int .i64 0, .slice none 0 0, .slice none 0 0] 26))) := hA
  have HT : Hid (Bytes b ∧ b.length = n0) := ⟨hb, hn⟩
  by_cases h9 : n0 < 9
  · have h9i : (n0 : Int) < 9 := by omega
    have HF : Hid (MsP w (rdOk b) (rdE b) (mnT (txT b)) (.returned (.tuple #[.agg #[.int .i64 0, .int .u32 0, .int .i64 0, .int .u32 0, .int .i64 0, .int .i64 0, .int .i64 0, .int .i64 0, .int .i64 0, .int .i64 0, .slice none 0 0, .slice none 0 0], .int .i64 2])) ((w.alloc (.cells #[.int .i64 0, .int .u32 0, .int .i64 0, .int .u32 0, .int .i64 0, .int .i64 0, .int .i64 0, .int .i64 0, .int .i64 0, .int .i64 0, .slice none 0 0, .slice none 0 0] 26)).setCells w.heap.size 0 (Array.toList #[.int .i64 0, .int .u32 0, .int .i64 0, .int .u32 0, .int .i64 0, .int .i64 0, .int .i64 0, .int .i64 0, .int .i64 0, .int .i64 0, .slice none 0 0, .slice none 0 0]))) := by
      have e1 : rdOk b = false := by unfold rdOk; rw [hn, decide_eq_false (by omega)]; rfl
      have e2 : rdE b = 2 := by unfold rdE; rw [hn, if_pos h9]
      rw [e1, e2]
      exact fin_bad 2 rfl hA
    have HX : Hid (((w.alloc (.cells #[.int .i64 0, .int .u32 0, .int .i64 0, .int .u32 0, .int .i64 0, .int .i64 0, .int .i64 0, .int .i64 0, .int .i64 0, .int .i64 0, .slice none 0 0, .slice none 0 0] 26)).setCells w.heap.size 0 (Array.toList #[.int .i64 0, .int .u32 0, .int .i64 0, .int .u32 0, .int .i64 0, .int .i64 0, .int .i64 0, .int .i64 0, .int .i64 0, .int .i64 0, .slice none 0 0, .slice none 0 0])).heap[w.heap.size]? = some (.cells #[.int .i64 0, .int .u32 0, .int .i64 0, .int .u32 0, .int .i64 0, .int .i64 0, .int .i64 0, .int .i64 0, .int .i64 0, .int .i64 0, .slice none 0 0, .slice none 0 0] 26 (0, 0))) := set_twelve _ _ _ _ _ _ _ _ _ _ _ _ HZ0.out
    obtain ⟨w1, hw1⟩ : ∃ w1, w.alloc (.cells #[.int .i64 0, .int .u32 0, .int .i64 0, .int .u32 0, .int .i64 0, .int .i64 0, .int .i64 0, .int .i64 0, .int .i64 0, .int .i64 0, .slice none 0 0, .slice none 0 0] 26) = w1 := ⟨_, rfl⟩
    rw [hw1] at HF HX HZ0
    clear hA HA hn hnil hl hc0 hcm hb hr
    go_enter Try.func13, Try.ntmps13
    go_upto_region 1 with fail
    clear hw1
    obtain ⟨z0, z1, z2, z3, z4, z5, z6, z7, z8, z9, z10, z11⟩ := twelve_cells HZ0.out
    obtain ⟨y0, y1, y2, y3, y4, y5, y6, y7, y8, y9, y10, y11⟩ := fz_twelve HZ0.out
    go_wp2
    refine bodyPost_ret (v := .tuple #[.agg #[.int .i64 0, .int .u32 0, .int .i64 0, .int .u32 0, .int .i64 0, .int .i64 0, .int .i64 0, .int .i64 0, .int .i64 0, .int .i64 0, .slice none 0 0, .slice none 0 0], .int .i64 2]) ?_ rfl HF.out
    rw [results_ct rfl]
    simp [asAddr]
    have L0 := load_msg HX.out
    refine (congrArg (fun r => Result.andThen r _) L0).trans ?_
    rfl
  · obtain ⟨bb, off, rfl⟩ : ∃ bb off, a0 = some ⟨bb, off, none⟩ := by
      rcases hr with e | ⟨bb, off, e, _⟩
      · rw [e] at hn; simp at hn; omega
      · exact ⟨bb, off, e⟩
    obtain ⟨m, hm⟩ : ∃ m, n0 = m + 4 := ⟨n0 - 4, by omega⟩
    subst hm
    have hm5 : 5 ≤ m := by omega
    obtain ⟨w1, hw1⟩ : ∃ w1, w.alloc (.cells #[.int .i64 0, .int .u32 0, .int .i64 0, .int .u32 0, .int .i64 0, .int .i64 0, .int .i64 0, .int .i64 0, .int .i64 0, .int .i64 0, .slice none 0 0, .slice none 0 0] 26) = w1 := ⟨_, rfl⟩
    rw [hw1] at HZ0 HA hA
    have etx : txT b = b.take m := by unfold txT; rw [hn]; rfl
    have htl : (txT b).length = m := by rw [etx, List.length_take]; omega
    have hrt : Row w1 (some ⟨bb, off, none⟩) (txT b) := by rw [etx]; exact (hr.old hA).take m
    have htb : Bytes (txT b) := by rw [etx]; exact hb.take m
    have hbok : BOk w1 (some ⟨bb, off, none⟩) m cap0 (txT b) := ⟨htl, htb, by omega, ⟨by omega, by unfold maxLen at hcm; omega⟩, (by intro h; cases h), hrt⟩
    have CL := Little_any (some ⟨bb, off, none⟩) (m + 4) cap0 (m : Int) 4 b w1 hn hc0 hcm (by decide) hb (hr.old hA)
    have ecE : cutE b.length (m : Int) 4 = 0 := by unfold cutE; rw [hn, if_neg (by omega), if_neg (by omega)]
    have ecL : cutL b (m : Int) 4 = b.drop m := by unfold cutL; rw [ecE, if_pos rfl]; simp; rw [List.take_of_length_le (by rw [List.length_drop]; omega)]
    rw [ecE, ecL] at CL
    have esm : smT b = litN (b.drop m) := by unfold smT; rw [hn]; rfl
    have hsb := litN_bound (hb.drop m)
    rw [List.length_drop, hn, show m + 4 - m = 4 by omega] at hsb
    obtain ⟨S4, hS⟩ : ∃ S, litN (b.drop m) = S := ⟨_, rfl⟩
    rw [hS] at CL esm hsb
    have hS4 : 0 ≤ S4 ∧ S4 < 4294967296 := by simpa using hsb
    have CO := of_one w1 _ rfl (some ⟨bb, off, none⟩) m cap0 (txT b) hbok
    have hA2 : Below w1.heap.size w1 (w1.alloc (.cells #[.slice (some ⟨bb, off, none⟩) m cap0] 24)) := (Below.refl _ _).alloc (Nat.le_refl _) _
    have CP := parse_any (some ⟨bb, off, none⟩) m cap0 (txT b) (w1.alloc (.cells #[.slice (some ⟨bb, off, none⟩) m cap0] 24)) htl (by intro h; cases h) (by omega) htb (hrt.old hA2)
    obtain ⟨X, hX⟩ : ∃ X, (crcM (BitVec.ofNat 32 0) (txT b)).toNat = X := ⟨_, rfl⟩
    have hXlt : X < 4294967296 := by rw [← hX]; exact (crcM (BitVec.ofNat 32 0) (txT b)).isLt
    have ecr : crT b = (X : Int) := by unfold crT; rw [hX]
    rw [hX] at CO
    have HCL : Hid (Calls Try.prog 26 #[.slice (some ⟨bb, off, none⟩) (m + 4) cap0, .int .i64 (m : Int), .int .i64 4] w1 fun e w' => e = .returned (.tuple #[.int .i64 S4, .int .i64 0]) ∧ w' = w1) := CL
    have HCO : Hid (Calls Try.prog 22 #[.slice (some ⟨w1.heap.size, 0, none⟩) 1 1] (w1.alloc (.cells #[.slice (some ⟨bb, off, none⟩) m cap0] 24)) fun e w' => e = .returned (.int .u32 (X : Int)) ∧ w' = w1.alloc (.cells #[.slice (some ⟨bb, off, none⟩) m cap0] 24)) := CO
    have HCP : Hid (Calls Try.prog 27 #[.slice (some ⟨bb, off, none⟩) m cap0] (w1.alloc (.cells #[.slice (some ⟨bb, off, none⟩) m cap0] 24)) fun e w' => MsP (w1.alloc (.cells #[.slice (some ⟨bb, off, none⟩) m cap0] 24)) (okT (txT b)) 3 (mnT (txT b)) e w') := CP
    have HE : Hid (rdOk b = (decide (S4 = (X : Int)) && okT (txT b)) ∧ rdE b = if S4 = (X : Int) then 3 else 4) := by
      refine ⟨?_, ?_⟩
      · unfold rdOk; rw [esm, ecr, hn, decide_eq_true (by omega : 9 ≤ m + 4)]; simp
      · unfold rdE; rw [esm, ecr, hn, if_neg (by omega)]
    have HZ2 : Hid ((w1.alloc (.cells #[.slice (some ⟨bb, off, none⟩) m cap0] 24)).heap[w.heap.size]? = some (.cells #[.int .i64 0, .int .u32 0, .int .i64 0, .int .u32 0, .int .i64 0, .int .i64 0, .int .i64 0, .int .i64 0, .int .i64 0, .int .i64 0, .slice none 0 0, .slice none 0 0] 26 (0, 0))) := (hA2.block _ (lt_of_block HZ0.out)).trans HZ0.out
    have HB2 : Hid (Below w.heap.size w (w1.alloc (.cells #[.slice (some ⟨bb, off, none⟩) m cap0] 24))) := HA.out.trans (hA2.mono HA.out.size)
    clear CL CO CP hA hA2 hn hnil hb hr etx htl hrt htb hbok ecE ecL esm hsb hS hX ecr HA
    unfold maxLen at hcm
    go_enter Try.func13, Try.ntmps13
    go_upto_region 1 with fail
    clear hw1
    obtain ⟨w2, hw2⟩ : ∃ w2, w1.alloc (.cells #[.slice (some ⟨bb, off, none⟩) m cap0] 24) = w2 := ⟨_, rfl⟩
    rw [hw2] at HCO HCP HZ2 HB2
    by_cases hs : S4 = (X : Int)
    · subst hs
      rw [decide_eq_true rfl, if_pos rfl] at HE
      go_upto_region 7 with (first | (go_at_call 26; refine Calls.mono HCL.out ?_; rintro e x ⟨rfl, hx⟩; have hx2 := hx.symm; clear hx; subst hx2) | (go_at_call 22; refine Calls.mono HCO.out ?_; rintro e x ⟨rfl, hx⟩; have hx2 := hx.symm; clear hx; subst hx2))
      go_wp2_with fail
      refine Calls.mono HCP.out ?_
      rintro e w3 ⟨q1, q2, q3⟩
      have HZ3 : Hid (w3.heap[w.heap.size]? = some (.cells #[.int .i64 0, .int .u32 0, .int .i64 0, .int .u32 0, .int .i64 0, .int .i64 0, .int .i64 0, .int .i64 0, .int .i64 0, .int .i64 0, .slice none 0 0, .slice none 0 0] 26 (0, 0))) := (q1.block _ (lt_of_block HZ2.out)).trans HZ2.out
      have HB3 : Hid (Below w.heap.size w w3) := HB2.out.trans (q1.mono HB2.out.size)
      have HU : Hid (w.heap.size < w2.heap.size) := lt_of_block HZ2.out
      cases hok : okT (txT b)
      · obtain rfl := q2 hok
        rw [hok] at HE
        have HF : Hid (MsP w (rdOk b) (rdE b) (mnT (txT b)) (.returned (.tuple #[.agg #[.int .i64 0, .int .u32 0, .int .i64 0, .int .u32 0, .int .i64 0, .int .i64 0, .int .i64 0, .int .i64 0, .int .i64 0, .int .i64 0, .slice none 0 0, .slice none 0 0], .int .i64 3])) (w3.setCells w.heap.size 0 (Array.toList #[.int .i64 0, .int .u32 0, .int .i64 0, .int .u32 0, .int .i64 0, .int .i64 0, .int .i64 0, .int .i64 0, .int .i64 0, .int .i64 0, .slice none 0 0, .slice none 0 0]))) := by
          rw [HE.out.1, HE.out.2]
          exact fin_bad 3 rfl HB3.out
        have HX : Hid ((w3.setCells w.heap.size 0 (Array.toList #[.int .i64 0, .int .u32 0, .int .i64 0, .int .u32 0, .int .i64 0, .int .i64 0, .int .i64 0, .int .i64 0, .int .i64 0, .int .i64 0, .slice none 0 0, .slice none 0 0])).heap[w.heap.size]? = some (.cells #[.int .i64 0, .int .u32 0, .int .i64 0, .int .u32 0, .int .i64 0, .int .i64 0, .int .i64 0, .int .i64 0, .int .i64 0, .int .i64 0, .slice none 0 0, .slice none 0 0] 26 (0, 0))) := set_twelve _ _ _ _ _ _ _ _ _ _ _ _ HZ3.out
        obtain ⟨z0, z1, z2, z3, z4, z5, z6, z7, z8, z9, z10, z11⟩ := twelve_cells HZ3.out
        obtain ⟨y0, y1, y2, y3, y4, y5, y6, y7, y8, y9, y10, y11⟩ := fz_twelve HZ3.out
        clear q1 q2 q3 hok
        go_wp2
        refine bodyPost_ret (v := .tuple #[.agg #[.int .i64 0, .int .u32 0, .int .i64 0, .int .u32 0, .int .i64 0, .int .i64 0, .int .i64 0, .int .i64 0, .int .i64 0, .int .i64 0, .slice none 0 0, .slice none 0 0], .int .i64 3]) ?_ rfl HF.out
        rw [results_ct rfl]
        simp [asAddr]
        have L0 := load_msg HX.out
        refine (congrArg (fun r => Result.andThen r _) L0).trans ?_
        rfl
      · obtain ⟨ra, rc, da, dc, rfl, hm3⟩ := q3 hok
        rw [hok] at HE
        have HM3 : Hid (MsR w2.heap.size w3 (mnT (txT b)) ra rc da dc) := hm3
        clear q1 q2 q3 hok hm3 hw2
        obtain ⟨nn, hnn⟩ : ∃ nn, mnT (txT b) = nn := ⟨_, rfl⟩
        rw [hnn] at HM3 ⊢
        have HN : Hid (mnT (txT b) = nn) := hnn
        clear hnn
        obtain ⟨k, bo, fi, su, si, ap, bd, ix, pa, co, G, D⟩ := nn
        unfold Mn.ms Ms.V Ms.c12
        simp only
        have HF : Hid (MsP w (rdOk b) (rdE b) (mnT (txT b)) (.returned (.tuple #[.agg #[.int .i64 k, .int .u32 bo, .int .i64 fi, .int .u32 su, .int .i64 si, .int .i64 ap, .int .i64 bd, .int .i64 ix, .int .i64 pa, .int .i64 co, .slice ra G.length rc, .slice da D.length dc], .int .i64 0])) (w3.setCells w.heap.size 0 (Array.toList #[.int .i64 k, .int .u32 bo, .int .i64 fi, .int .u32 su, .int .i64 si, .int .i64 ap, .int .i64 bd, .int .i64 ix, .int .i64 pa, .int .i64 co, .slice ra G.length rc, .slice da D.length dc]))) := by
          rw [HE.out.1, HN.out]
          exact fin_ok (n := ⟨k, bo, fi, su, si, ap, bd, ix, pa, co, G, D⟩) (ra := ra) (rc := rc) (da := da) (dc := dc) _ rfl HB3.out HM3.out HU.out
        have HX : Hid ((w3.setCells w.heap.size 0 (Array.toList #[.int .i64 k, .int .u32 bo, .int .i64 fi, .int .u32 su, .int .i64 si, .int .i64 ap, .int .i64 bd, .int .i64 ix, .int .i64 pa, .int .i64 co, .slice ra G.length rc, .slice da D.length dc])).heap[w.heap.size]? = some (.cells #[.int .i64 k, .int .u32 bo, .int .i64 fi, .int .u32 su, .int .i64 si, .int .i64 ap, .int .i64 bd, .int .i64 ix, .int .i64 pa, .int .i64 co, .slice ra G.length rc, .slice da D.length dc] 26 (0, 0))) := set_twelve _ _ _ _ _ _ _ _ _ _ _ _ HZ3.out
        obtain ⟨z0, z1, z2, z3, z4, z5, z6, z7, z8, z9, z10, z11⟩ := twelve_cells HZ3.out
        obtain ⟨y0, y1, y2, y3, y4, y5, y6, y7, y8, y9, y10, y11⟩ := fz_twelve HZ3.out
        go_wp2
        refine bodyPost_ret (v := .tuple #[.agg #[.int .i64 k, .int .u32 bo, .int .i64 fi, .int .u32 su, .int .i64 si, .int .i64 ap, .int .i64 bd, .int .i64 ix, .int .i64 pa, .int .i64 co, .slice ra G.length rc, .slice da D.length dc], .int .i64 0]) ?_ rfl HF.out
        rw [results_ct rfl]
        simp [asAddr]
        have L0 := load_msg HX.out
        refine (congrArg (fun r => Result.andThen r _) L0).trans ?_
        rfl
    · have hne : (S4 != (X : Int)) = true := by simpa using hs
      obtain ⟨s1, s2⟩ := hS4
      rw [decide_eq_false hs, if_neg hs] at HE
      clear hs
      go_upto_region 6 with (first | (go_at_call 26; refine Calls.mono HCL.out ?_; rintro e x ⟨rfl, hx⟩; have hx2 := hx.symm; clear hx; subst hx2) | (go_at_call 22; refine Calls.mono HCO.out ?_; rintro e x ⟨rfl, hx⟩; have hx2 := hx.symm; clear hx; subst hx2))
      have HF : Hid (MsP w (rdOk b) (rdE b) (mnT (txT b)) (.returned (.tuple #[.agg #[.int .i64 0, .int .u32 0, .int .i64 0, .int .u32 0, .int .i64 0, .int .i64 0, .int .i64 0, .int .i64 0, .int .i64 0, .int .i64 0, .slice none 0 0, .slice none 0 0], .int .i64 4])) (w2.setCells w.heap.size 0 (Array.toList #[.int .i64 0, .int .u32 0, .int .i64 0, .int .u32 0, .int .i64 0, .int .i64 0, .int .i64 0, .int .i64 0, .int .i64 0, .int .i64 0, .slice none 0 0, .slice none 0 0]))) := by
        rw [HE.out.1, HE.out.2]
        exact fin_bad 4 rfl HB2.out
      have HX : Hid ((w2.setCells w.heap.size 0 (Array.toList #[.int .i64 0, .int .u32 0, .int .i64 0, .int .u32 0, .int .i64 0, .int .i64 0, .int .i64 0, .int .i64 0, .int .i64 0, .int .i64 0, .slice none 0 0, .slice none 0 0])).heap[w.heap.size]? = some (.cells #[.int .i64 0, .int .u32 0, .int .i64 0, .int .u32 0, .int .i64 0, .int .i64 0, .int .i64 0, .int .i64 0, .int .i64 0, .int .i64 0, .slice none 0 0, .slice none 0 0] 26 (0, 0))) := set_twelve _ _ _ _ _ _ _ _ _ _ _ _ HZ2.out
      obtain ⟨z0, z1, z2, z3, z4, z5, z6, z7, z8, z9, z10, z11⟩ := twelve_cells HZ2.out
      obtain ⟨y0, y1, y2, y3, y4, y5, y6, y7, y8, y9, y10, y11⟩ := fz_twelve HZ2.out
      go_wp2
      refine bodyPost_ret (v := .tuple #[.agg #[.int .i64 0, .int .u32 0, .int .i64 0, .int .u32 0, .int .i64 0, .int .i64 0, .int .i64 0, .int .i64 0, .int .i64 0, .int .i64 0, .slice none 0 0, .slice none 0 0], .int .i64 4]) ?_ rfl HF.out
      rw [results_ct rfl]
      simp [asAddr]
      have L0 := load_msg HX.out
      refine (congrArg (fun r => Result.andThen r _) L0).trans ?_
      rfl
end Go.Proofs.Ytaibojmaghmfnaa
