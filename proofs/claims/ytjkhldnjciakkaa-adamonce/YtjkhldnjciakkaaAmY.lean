/- Once: walked. -/
import Derived.Test.YtjkhldnjciakkaaAmW
namespace Go.Proofs.Ytjkhldnjciakkaa
open Go.RowKit
theorem seen_cnt_bd {L : List Stp} {W H k a : Nat} (h : W * H ≤ 65536) : cntB (seenL L W H k a) ≤ 65536 := by
  have := cntB_le (seenL L W H k a); rw [seenL_len] at this; omega
set_option maxHeartbeats 6400000 in
set_option maxRecDepth 20000 in
theorem once_any {L : List Stp} {cl : Nat → Nat → Nat} (hc : Cls L cl) (W H : Nat) (a : Option Addr) (N c PP : Nat) (es : List Le) (w : World) (hW : W ≤ 256) (hH : H ≤ 256) (hm : W * H ≤ 65536) (hn : es.length = N) (h : LsR w a es) (hk : es.map Le.key = lnsI L W H L.length) (hP : L.length ≤ PP) (hP2 : PP ≤ 7) :
    Calls Try.prog 19 #[.slice a N c, .int .i64 W, .int .i64 H, .int .i64 PP] w fun e w' => e = .returned (.bool true) ∧ Below w.heap.size w w' := by
  have hNb : N = bsN (hNt L W H) L.length := by rw [← hn, ← lnsI_len, ← hk, List.length_map]
  have hN2 : N ≤ 20000 := by
    by_cases hp : picN W H
    · have := lnN_bd hc.ok (by omega) W H
      unfold lnN psN at this
      rw [if_pos hp] at this
      omega
    · have hz : W = 0 ∨ H = 0 := by
        rcases Nat.eq_zero_or_pos W with e | e
        · exact .inl e
        · rcases Nat.eq_zero_or_pos H with e' | e'
          · exact .inr e'
          · exfalso; apply hp
            refine ⟨by omega, by omega, by omega, by omega, ?_⟩
            have : ((W * H : Nat) : Int) ≤ 65536 := by omega
            simpa using this
      have hall : ∀ i, hNt L W H i = 0 := fun i => by
        rcases Nat.eq_zero_or_pos (hNt L W H i) with e | e
        · exact e
        · exfalso
          have hh := (hN_iff hc.ok (W := (W : Int)) (H := (H : Int)) (by omega) (by omega) i 0).1 e
          have hok := stAt_ok hc.ok i
          have := hok.1
          have := hok.2.2.1
          simp at hh
          omega
      have hall2 : ∀ n, bsN (hNt L W H) n = 0 := fun n => by induction n with
        | zero => rfl
        | succ n ih => rw [bsN, ih, hall]
      rw [hNb, hall2]; omega
  obtain ⟨m, hmm⟩ : ∃ m, W * H = m := ⟨_, rfl⟩
  have hmi : (W : Int) * (H : Int) = (m : Int) := by rw [← hmm]; simp
  rw [hmm] at hm
  have HH : Hid (LsR w a es ∧ es.map Le.key = lnsI L W H L.length ∧ es.length = N ∧ N = bsN (hNt L W H) L.length ∧ W * H = m ∧ Cls L cl ∧ L.length ≤ PP) := ⟨h, hk, hn, hNb, hmm, hc, hP⟩
  obtain ⟨i0, hi0, hz0, hz1, hz2⟩ := info_parts Try.infoBo
  clear h hk hn hNb hmm hP
  go_enter Try.func19, Try.ntmps19
  go_wp2_with (at_make; refine wpList_make_full _ rfl _ _ 60 rfl w.heap.size 4 i0 (.bool false) 1 Try.underlying60 hi0 hz0 hz1 .i64 .i64 _ _ m rfl rfl rfl rfl ?b2 ?b3 ?b4 ?_)
  case b2 => rw [hz2]; omega
  case b3 => unfold maxLen; omega
  case b4 => exact Nat.le_refl _
  intro w3 hown hgrow
  have hmb := made_bools m
  rw [Nat.mul_one] at hmb
  rw [hmb] at hown
  clear hmb
  have HS : Hid (OnI w w.heap.size m (seenL L W H 0 0) w3) := by
    refine ⟨?_, ⟨hgrow.os, hgrow.tape, hgrow.output, hgrow.size, fun k hk => hgrow.block k hk (by simp)⟩⟩
    rw [(seen_none W H).2, HH.out.2.2.2.2.1]; exact hown
  clear hown hgrow
  generalize hG : w.heap.size = g at *
  have HG : Hid (w.heap.size = g) := hG
  clear hG
  go_wp2
  go_loopw [10, 11, 22] (fun v10 v11 v22 wr => ∃ (k : Nat) (pv : Int), k ≤ N ∧ v22 = .int .i64 k ∧ v10 = .int .i64 (cntB (seenL L W H k 0)) ∧ v11 = .int .i64 pv ∧ 1 ≤ pv ∧ pv ≤ 100 ∧ Hid (∀ i r, k ≤ bsN (hNt L W H) i + r → r < hNt L W H i → pv ≤ (i : Int) + 1) ∧ Hid (OnI w g m (seenL L W H k 0) wr)) (fun _ _ v22 _ => N - (intOf v22).toNat)
  case atStart => exact ⟨0, 1, Nat.zero_le _, rfl, by rw [(seen_none W H).1]; rfl, rfl, by omega, by omega, fun i r _ _ => by omega, HS⟩
  case round =>
    clear HS
    obtain ⟨k, pv, hk, rfl, rfl, rfl, hpv, hpv2, HPV, HI⟩ := hrel
    by_cases hlt : k < N
    · obtain ⟨i, r, hi, hr, hkr⟩ := bsN_split (hNt L W H) L.length k (by have := HH.out.2.2.2.1; omega)
      obtain ⟨e, he⟩ : ∃ e, es[k]? = some e := ⟨_, List.getElem?_eq_getElem (by rw [HH.out.2.2.1]; exact hlt)⟩
      have hkey : e.key = ((i : Int) + 1, lnS L W H i r) := by
        have := congrArg (fun l => l[k]?) HH.out.2.1
        simp only [List.getElem?_map, he, Option.map_some] at this
        rw [hkr, lnsI_at L W H hi hr] at this
        simpa using this
      obtain ⟨B, off, rfl, k1, k2, k3, k4, k5⟩ := (HH.out.1.old (by rw [← HG.out] at HI; exact HI.out.be)).at he
      obtain ⟨P, A, M, C, LL⟩ := e
      unfold Le.key at hkey
      simp only [Prod.mk.injEq] at hkey k1 k2 k3 k4 k5
      obtain ⟨rfl, rfl⟩ := hkey
      have hMw : M = wNt L W H i := by
        have : (lnS L W H i r).length = 2 * wNt L W H i := by unfold lnS; exact spL_len ..
        omega
      have hM0 : 0 < M := by
        rw [hMw]
        have hh := hr
        unfold hNt higAt hig at hh
        unfold wNt widAt wid
        by_cases hq : 0 < plc (stAt L i).x (stAt L i).dx W ∧ 0 < plc (stAt L i).y (stAt L i).dy H
        · rw [if_pos hq]; omega
        · rw [if_neg hq] at hh; simp at hh
      have hpi := HPV.out i r (by omega) hr
      have hiP : (i : Int) + 1 ≤ (PP : Int) := by have := HH.out.2.2.2.2.2.2; omega
      have HLN : Hid (k = bsN (hNt L W H) i + r ∧ i < L.length ∧ r < hNt L W H i ∧ M = wNt L W H i ∧ IRow w A (lnS L W H i r) ∧ (lnS L W H i r).length = 2 * M) := by
        have hw := ((HH.out.1.1 _ (List.mem_of_getElem? he)).2.2)
        exact ⟨hkr, hi, hr, hMw, hw, k3⟩
      have HPV2 : Hid (∀ i2 r2, k + 1 ≤ bsN (hNt L W H) i2 + r2 → r2 < hNt L W H i2 → (i : Int) + 1 ≤ (i2 : Int) + 1) := fun i2 r2 h1 h2 => by
        by_cases hq : i2 < i
        · have := bsN_lt (hNt L W H) hq h2; omega
        · omega
      have hMe : ((M : Int) == 0) = false := by simp; omega
      have hcb := seen_cnt_bd (L := L) (W := W) (H := H) (k := k) (a := 0) (by rw [HH.out.2.2.2.2.1]; exact hm)
      clear he hMw k3 k5 HPV hkr hi hr
      have HI2 : Hid (OnI w g m (seenL L W H k 0) (wr.alloc (.cells #[.int .i64 ((i : Int) + 1), .slice A M C] 43))) := HI.out.alloc _
      clear HI
      have hi7 : (i : Int) + 1 ≤ 100 := by omega
      go_wp2
      generalize wr.alloc (.cells #[.int .i64 ((i : Int) + 1), .slice A M C] 43) = w4 at *
      go_loopw [10, 47] (fun v10 v47 wr => ∃ j : Nat, j ≤ M ∧ v47 = .int .i64 j ∧ v10 = .int .i64 (cntB (seenL L W H k j)) ∧ Hid (OnI w g m (seenL L W H k j) wr)) (fun _ v47 _ => M - (intOf v47).toNat)
      case atStart => exact ⟨0, Nat.zero_le _, rfl, rfl, HI2⟩
      case round =>
        clear HI2 k1 k2 hcb
        obtain ⟨j, hj, rfl, rfl, HJ⟩ := hrel
        have hcb := seen_cnt_bd (L := L) (W := W) (H := H) (k := k) (a := j) (by rw [HH.out.2.2.2.2.1]; exact hm)
        by_cases hjl : j < M
        · obtain ⟨X, Y, hX, hY, hin, e1, e2⟩ := ln_place HH.out.2.2.2.2.2.1.ok (W := W) (H := H) (a := j) (by omega) (by omega) HLN.out.2.1 HLN.out.2.2.1 (by rw [← HLN.out.2.2.2.1]; exact hjl)
          rw [← HLN.out.1] at hin
          obtain ⟨g2, o2, rfl, m1, m2⟩ := (HLN.out.2.2.2.2.1.old (by rw [← HG.out] at HJ; exact HJ.out.be)).two HLN.out.2.2.2.2.2 hjl
          rw [e1] at m1
          rw [e2] at m2
          have hnt := told_not HH.out.2.2.2.2.2.1 hX hin
          have hpl : Y * W + X < W * H := pos_lt hX hY
          have hsn := seenL_at L W H k j (Y * W + X) hpl
          rw [hnt] at hsn
          have HST : Hid ((seenL L W H k j).set (Y * W + X) true = seenL L W H k (j + 1) ∧ cntB (seenL L W H k (j + 1)) = cntB (seenL L W H k j) + 1) := by
            have q := seen_step hX hin
            exact ⟨q, by rw [← q]; exact cntB_set _ _ hsn⟩
          have HJ2 := HJ.out.alloc (.cells #[.int .i64 X, .int .i64 Y] 45)
          have hc2 := HJ2.cell (by rw [seenL_len, HH.out.2.2.2.2.1]) hsn
          have HJ3 : Hid (OnI w g m (seenL L W H k (j + 1)) ((wr.alloc (.cells #[.int .i64 X, .int .i64 Y] 45)).setCell ⟨g, Y * W + X, none⟩ (.bool true))) := by have := HJ2.store (Y * W + X); rw [HST.out.1] at this; exact this
          obtain ⟨Q, hQ⟩ : ∃ Q, Y * W + X = Q := ⟨_, rfl⟩
          rw [hQ] at hc2 HJ3 hpl
          rw [HH.out.2.2.2.2.1] at hpl
          obtain ⟨hc2, hf2⟩ := hc2
          obtain ⟨YW, hYW⟩ : ∃ YW, Y * W = YW := ⟨_, rfl⟩
          have hYWi : (Y : Int) * (W : Int) = (YW : Int) := by rw [← hYW]; simp
          rw [hYW] at hQ
          have hQi : (YW : Int) + (X : Int) = (Q : Int) := by omega
          have hXi : (X : Int) < (W : Int) := by omega
          have hYi : (Y : Int) < (H : Int) := by omega
          clear hnt hsn HJ2 HJ hin e1 e2 hYW hQ hX hY
          generalize cntB (seenL L W H k j) = CB at *
          go_wp2
          go_roundw
          case rel => exact ⟨j + 1, hjl, by go_num, by rw [HST.out.2]; go_num, HJ3⟩
          case measure => simp [intOf]; omega
        · obtain rfl : j = M := by omega
          have HE : Hid (seenL L W H k j = seenL L W H (k + 1) 0) := by
            show _ = _
            rw [HLN.out.2.2.2.1, HLN.out.1]
            exact seen_next HH.out.2.2.2.2.2.1 (by omega) (by omega) HLN.out.2.2.1
          rw [HE.out] at HJ hcb ⊢
          go_wp2
          go_roundw
          case rel => exact ⟨k + 1, (i : Int) + 1, hlt, by go_num, rfl, rfl, by omega, by omega, HPV2, HJ⟩
          case measure => simp [intOf]; omega
    · obtain rfl : k = N := by omega
      have HF : Hid (cntB (seenL L W H k 0) = m ∧ Below w.heap.size w wr) := by
        refine ⟨?_, by rw [HG.out] ; exact HG.out ▸ HI.out.be⟩
        rw [HH.out.2.2.2.1, seen_all HH.out.2.2.2.2.2.1 (by omega) (by omega)]; exact HH.out.2.2.2.2.1
      rw [HF.out.1]
      go_wp2
      go_ret
      exact ⟨rfl, HF.out.2⟩
end Go.Proofs.Ytjkhldnjciakkaa
