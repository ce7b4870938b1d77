/- What Lengths answers is good: plain lists. -/
import Derived.Test.YtjellgkojmgmjaaHnD
namespace Go.Proofs.Ytjellgkojmgmjaa
open Go.RowKit

theorem range_mul (c : Nat) (f : Nat → Nat) (n : Nat) : ((List.range n).map fun i => c * f i).sum = c * ((List.range n).map f).sum := by
  induction n with
  | zero => rfl
  | succ n ih =>
    rw [List.range_succ, List.map_append, List.sum_append, List.map_append, List.sum_append, ih, Nat.mul_add]
    simp
theorem wordsN_eq {cs ls : List Int} (hl : ls.length = cs.length) (h : ∀ j, j < cs.length → (0 < cs[j]?.getD 0 ↔ 0 < ls[j]?.getD 0)) : wordsN ls = wordsN cs := by
  induction cs generalizing ls with
  | nil => rw [List.length_eq_zero_iff.1 hl]
  | cons c r ih =>
    cases ls with
    | nil => simp at hl
    | cons l q =>
      have h0 := h 0 (by simp)
      simp only [List.getElem?_cons_zero, Option.getD_some] at h0
      have ih := ih (ls := q) (by simpa using hl) (fun j hj => by simpa using h (j + 1) (by simpa using hj))
      unfold wordsN at *
      rw [List.countP_cons, List.countP_cons, ih]
      by_cases hc : 0 < c
      · simp [hc, h0.1 hc]
      · have hl0 : ¬ 0 < l := fun e => hc (h0.2 e)
        simp [hc, hl0]
theorem checkV_ok {ls : List Int} (h1 : okLens ls = true) (h2 : wholeB ls = true) : checkV ls = 0 := by unfold checkV; rw [h1, h2]; rfl
structure Good (cs ls : List Int) (most : Nat) : Prop where
  len : ls.length = cs.length
  each : ∀ j, j < cs.length → 0 ≤ ls[j]?.getD 0 ∧ ls[j]?.getD 0 ≤ (most : Int) ∧ (0 < cs[j]?.getD 0 ↔ 0 < ls[j]?.getD 0)
  whole : checkV ls = 0
  one : wordsN cs = 1 → [costN cs ls] = cs.filter fun c => decide (0 < c)
  best : 2 ≤ wordsN cs → costN cs ls = leastV (cs.filter fun c => decide (0 < c)) most
section
variable {cs : List Int} {most : Nat} {ps : List Pc} (hk : okCounts cs = true) (h1 : 1 ≤ most) (h15 : most ≤ 15) (hw : wordsN cs ≤ 2 ^ most) (hp : ps.Perm (sing 0 cs)) (hr : RisingP ps)
include hp in
theorem ps_len : ps.length = wordsN cs := by rw [hp.length_eq, sing_len]
include hp in
theorem ps_one : ∀ p ∈ ps, p.2.length = 1 := fun p h => sing_one 0 cs p (hp.subset h)
include hp in
theorem ps_syms : (ps.flatMap Prod.snd).Perm (sy 0 cs) := flatMap_perm hp
include hp in
theorem ps_nodup : (ps.flatMap Prod.snd).Nodup := (ps_syms hp).nodup_iff.2 (sy_nodup 0 cs)
include hk h1 h15 hw hp hr in
/-- Of two or more. -/
theorem lens_two (h2 : 2 ≤ wordsN cs) : Good cs (lensOf cs.length most ps) most := by
  have hn := ps_len hp
  have h288 : cs.length ≤ 288 := okCounts_few hk
  have hbd : Bd cs.length 0 ps := fun p h => sing_bd cs.length cs 0 (by omega) (okCounts_mem hk) p (hp.subset h)
  have hge := rowN_ge ps most h1 (by omega)
  obtain ⟨av, q1, q2, q3, q4, q5, _⟩ := row_levels hr (fun k p h => (hbd.row k p h).1) (most - 1) (2 * ps.length - 2) hge
  rw [show most - 1 + 1 = most by omega] at q1
  have ht : tailS av ps.length = 2 ^ most := by
    have := tail_one (k := most - 1) q3 q2 (by omega) q4 (by omega)
    rw [show most - 1 + 1 = most by omega] at this
    exact this
  have hpos : ∀ i, i < ps.length → 1 ≤ lvC av i := fun i hi => lvC_pos (k := most - 1) (n := ps.length) (by omega) (by rw [show most - 1 + 1 = most by omega]; exact ht) (by omega) i hi
  have hle : ∀ i, lvC av i ≤ most := fun i => by have := lvC_le av i; omega
  obtain ⟨T, hT⟩ : ∃ T, ((rowN ps (most - 1)).take (2 * ps.length - 2)).flatMap Prod.snd = T := ⟨_, rfl⟩
  rw [hT] at q5
  have hls : lensOf cs.length most ps = cnt cs.length T := by unfold lensOf; rw [if_neg (by omega), hT]
  rw [hls]
  have hcnt : ∀ x : Int, T.count x = (lvT ps av).count x := fun x => q5.count_eq x
  have hS := ps_syms hp
  have hSl : (ps.flatMap Prod.snd).length = ps.length := flat_one_len (ps_one hp)
  have hin : ∀ i, i < ps.length → T.count ((ps.flatMap Prod.snd)[i]?.getD 0) = lvC av i := fun i hi => by rw [hcnt]; exact lvT_count (ps_one hp) (ps_nodup hp) av i hi
  have hyes : ∀ j, j < cs.length → 0 < cs[j]?.getD 0 → ∃ i, i < ps.length ∧ T.count ((j : Nat) : Int) = lvC av i := fun j hj hc => by
    have hm := hS.symm.subset ((sy_mem 0 cs j hj).2 hc)
    rw [Nat.zero_add] at hm
    obtain ⟨i, hi, e⟩ := List.mem_iff_getElem.1 hm
    refine ⟨i, by omega, ?_⟩
    rw [← hin i (by omega), List.getElem?_eq_getElem hi, e]; rfl
  have hno : ∀ j, j < cs.length → ¬ 0 < cs[j]?.getD 0 → T.count ((j : Nat) : Int) = 0 := fun j hj hc => by
    rw [hcnt, List.count_eq_zero]
    intro hm
    have := (sy_mem 0 cs j hj).1 (by rw [Nat.zero_add]; exact hS.subset (lvT_mem hm))
    exact hc this
  have hat : ∀ j, j < cs.length → (cnt cs.length T)[j]?.getD 0 = ((T.count ((j : Nat) : Int) : Nat) : Int) := fun j hj => cnt_at _ _ _ hj
  have heach : ∀ j, j < cs.length → 0 ≤ (cnt cs.length T)[j]?.getD 0 ∧ (cnt cs.length T)[j]?.getD 0 ≤ (most : Int) ∧ (0 < cs[j]?.getD 0 ↔ 0 < (cnt cs.length T)[j]?.getD 0) := fun j hj => by
    rw [hat j hj]
    by_cases hc : 0 < cs[j]?.getD 0
    · obtain ⟨i, hi, e⟩ := hyes j hj hc
      have a1 := hpos i hi
      have a2 := hle i
      rw [e]
      exact ⟨by omega, by omega, ⟨fun _ => by omega, fun _ => hc⟩⟩
    · rw [hno j hj hc]
      exact ⟨by omega, by omega, ⟨fun h => absurd h hc, fun h => by omega⟩⟩
  have hwd : wordsN (cnt cs.length T) = wordsN cs := wordsN_eq (cnt_len _ _) (fun j hj => (heach j hj).2.2)
  have hsh : sharesN (cnt cs.length T) = 32768 := by
    have e1 : sharesN (cnt cs.length T) = ((List.range cs.length).map fun (j : Nat) => hshr (T.count ((0 + j : Nat) : Int))).sum := by
      unfold sharesN kraft cnt
      rw [List.map_map, List.map_map]
      congr 1
      apply List.map_congr_left
      intro j _
      simp
    rw [e1, sy_sum (fun x => hshr (T.count x)) 0 cs (fun j hj hc => by rw [Nat.zero_add, hno j hj hc]; rfl), ← (hS.map _).sum_nat, map_range_at, hSl]
    have e2 : ((List.range ps.length).map fun i => hshr (T.count ((ps.flatMap Prod.snd)[i]?.getD 0))) = (List.range ps.length).map fun i => 2 ^ (15 - most) * 2 ^ (av.length - lvC av i) := by
      apply List.map_congr_left
      intro i hi
      have hi' : i < ps.length := by simpa using hi
      have a1 := hpos i hi'
      have a2 := hle i
      rw [hin i hi', q1, ← Nat.pow_add]
      unfold hshr
      rw [if_neg (by omega)]
      congr 1
      omega
    rw [e2, range_mul]
    have e3 : ((List.range ps.length).map fun i => 2 ^ (av.length - lvC av i)).sum = 2 ^ most := ht
    rw [e3, ← Nat.pow_add, show 15 - most + most = 15 by omega]
  refine ⟨cnt_len _ _, heach, ?_, fun h => by omega, fun _ => ?_⟩
  · refine checkV_ok ?_ ?_
    · refine okLens_yes (by rw [cnt_len]; exact h288) (fun j hj => ?_)
      rw [cnt_len] at hj
      have := heach j hj
      omega
    · unfold wholeB
      rw [hwd, if_neg (by omega), if_neg (by omega), hsh]
      rfl
  · have hC : ∀ j, j < cs.length → (fun x : Int => cs[x.toNat]?.getD 0) ((0 + j : Nat) : Int) = cs[j]?.getD 0 := fun j _ => by
      simp only [Nat.zero_add, Int.toNat_natCast]
    have hwt : ∀ p ∈ (rowN ps (most - 1)).take (2 * ps.length - 2), Wt (fun x : Int => cs[x.toNat]?.getD 0) p := fun p hpp =>
      row_wt (fun q hq => sing_wt cs _ 0 hC q (hp.subset hq)) (most - 1) p (List.mem_of_mem_take hpp)
    have hs := sum_wt hwt
    rw [hT] at hs
    have hrange : ∀ x ∈ T, 0 ≤ x ∧ x < (cs.length : Int) := fun x hx => by
      have := sy_ge 0 cs x (hS.subset (lvT_mem (q5.subset hx)))
      omega
    have hcs := count_sum cs.length (fun x : Int => cs[x.toNat]?.getD 0) T hrange
    have hfil : (ps.map Prod.fst).Perm (cs.filter fun c => decide (0 < c)) := by rw [← sing_fst 0 cs]; exact hp.map _
    have hrow := rowN_fst hr hfil (most - 1)
    rw [show most - 1 + 1 = most by omega] at hrow
    have hfl : (cs.filter fun c => decide (0 < c)).length = ps.length := by rw [← hfil.length_eq, List.length_map]
    unfold leastV costN
    rw [hfl, ← hrow, ← List.map_take, hs, ← hcs]
    congr 1
    apply List.map_congr_left
    intro j hj
    have hj' : j < cs.length := by simpa using hj
    rw [hat j hj']
    simp only [Int.toNat_natCast]
end
end Go.Proofs.Ytjellgkojmgmjaa
