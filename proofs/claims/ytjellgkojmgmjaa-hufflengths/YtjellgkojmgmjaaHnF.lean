/- What Lengths answers is good, of one count above 0 and of none too: plain lists. -/
import Derived.Test.YtjellgkojmgmjaaHnE
namespace Go.Proofs.Ytjellgkojmgmjaa
open Go.RowKit

theorem filter_len (cs : List Int) : (cs.filter fun c => decide (0 < c)).length = wordsN cs := by
  unfold wordsN; rw [List.countP_eq_length_filter]
section
variable {cs : List Int} {most : Nat} {ps : List Pc} (hk : okCounts cs = true) (h1 : 1 ≤ most) (hp : ps.Perm (sing 0 cs))
include hk in
theorem lens_none (h0 : wordsN cs = 0) (hp : ps.Perm (sing 0 cs)) : Good cs (lensOf cs.length most ps) most := by
  have hn := ps_len hp
  obtain rfl : ps = [] := List.length_eq_zero_iff.1 (by omega)
  have h288 : cs.length ≤ 288 := okCounts_few hk
  have hls : lensOf cs.length most [] = cnt cs.length [] := by unfold lensOf; simp
  rw [hls]
  have hno : ∀ j, j < cs.length → ¬ 0 < cs[j]?.getD 0 := fun j hj h => by
    unfold wordsN at h0
    rw [List.countP_eq_zero] at h0
    rw [List.getElem?_eq_getElem hj] at h
    exact h0 _ (List.getElem_mem hj) (by simpa using h)
  have hat : ∀ j, j < cs.length → (cnt cs.length [])[j]?.getD 0 = 0 := fun j hj => by rw [cnt_at _ _ _ hj]; rfl
  have heach : ∀ j, j < cs.length → 0 ≤ (cnt cs.length [])[j]?.getD 0 ∧ (cnt cs.length [])[j]?.getD 0 ≤ (most : Int) ∧ (0 < cs[j]?.getD 0 ↔ 0 < (cnt cs.length [])[j]?.getD 0) := fun j hj => by
    rw [hat j hj]
    exact ⟨by omega, by omega, ⟨fun h => absurd h (hno j hj), fun h => by omega⟩⟩
  have hwd : wordsN (cnt cs.length []) = wordsN cs := wordsN_eq (cnt_len _ _) (fun j hj => (heach j hj).2.2)
  refine ⟨cnt_len _ _, heach, ?_, fun h => by omega, fun h => by omega⟩
  refine checkV_ok ?_ ?_
  · refine okLens_yes (by rw [cnt_len]; exact h288) (fun j hj => ?_)
    rw [cnt_len] at hj
    rw [hat j hj]; omega
  · unfold wholeB
    rw [hwd, if_pos h0]
include hk h1 hp in
theorem lens_one (hw1 : wordsN cs = 1) : Good cs (lensOf cs.length most ps) most := by
  have hn := ps_len hp
  have h288 : cs.length ≤ 288 := okCounts_few hk
  obtain ⟨T, hT⟩ : ∃ T, ps.flatMap Prod.snd = T := ⟨_, rfl⟩
  have hls : lensOf cs.length most ps = cnt cs.length T := by unfold lensOf; rw [if_pos (by omega), hT]
  rw [hls]
  have hS := ps_syms hp
  rw [hT] at hS
  have hTl : T.length = 1 := by rw [← hT, flat_one_len (ps_one hp)]; omega
  have hyes : ∀ j, j < cs.length → 0 < cs[j]?.getD 0 → T.count ((j : Nat) : Int) = 1 := fun j hj hc => by
    have hm := hS.symm.subset ((sy_mem 0 cs j hj).2 hc)
    rw [Nat.zero_add] at hm
    obtain ⟨y, hy⟩ := List.length_eq_one_iff.1 hTl
    rw [hy] at hm ⊢
    rw [List.mem_singleton.1 hm]
    simp
  have hno : ∀ j, j < cs.length → ¬ 0 < cs[j]?.getD 0 → T.count ((j : Nat) : Int) = 0 := fun j hj hc => by
    rw [List.count_eq_zero]
    intro hm
    exact hc ((sy_mem 0 cs j hj).1 (by rw [Nat.zero_add]; exact hS.subset hm))
  have hat : ∀ j, j < cs.length → (cnt cs.length T)[j]?.getD 0 = ((T.count ((j : Nat) : Int) : Nat) : Int) := fun j hj => cnt_at _ _ _ hj
  have heach : ∀ j, j < cs.length → 0 ≤ (cnt cs.length T)[j]?.getD 0 ∧ (cnt cs.length T)[j]?.getD 0 ≤ (most : Int) ∧ (0 < cs[j]?.getD 0 ↔ 0 < (cnt cs.length T)[j]?.getD 0) := fun j hj => by
    rw [hat j hj]
    by_cases hc : 0 < cs[j]?.getD 0
    · rw [hyes j hj hc]
      exact ⟨by omega, by omega, ⟨fun _ => by omega, fun _ => hc⟩⟩
    · rw [hno j hj hc]
      exact ⟨by omega, by omega, ⟨fun h => absurd h hc, fun h => by omega⟩⟩
  have hwd : wordsN (cnt cs.length T) = wordsN cs := wordsN_eq (cnt_len _ _) (fun j hj => (heach j hj).2.2)
  obtain ⟨x, hx⟩ := List.length_eq_one_iff.1 hTl
  have hxr := sy_ge 0 cs x (hS.subset (by rw [hx]; simp))
  have hsh : sharesN (cnt cs.length T) = 16384 := by
    have e1 : sharesN (cnt cs.length T) = ((List.range cs.length).map fun (j : Nat) => hshr (T.count ((0 + j : Nat) : Int))).sum := by
      unfold sharesN kraft cnt
      rw [List.map_map, List.map_map]
      congr 1
      apply List.map_congr_left
      intro j _
      simp
    rw [e1, sy_sum (fun x => hshr (T.count x)) 0 cs (fun j hj hc => by rw [Nat.zero_add, hno j hj hc]; rfl), ← (hS.map _).sum_nat, hx]
    simp [hshr]
  refine ⟨cnt_len _ _, heach, ?_, fun _ => ?_, fun h => by omega⟩
  · refine checkV_ok ?_ ?_
    · refine okLens_yes (by rw [cnt_len]; exact h288) (fun j hj => ?_)
      rw [cnt_len] at hj
      rw [hat j hj]
      by_cases hc : 0 < cs[j]?.getD 0
      · rw [hyes j hj hc]; omega
      · rw [hno j hj hc]; omega
    · unfold wholeB
      rw [hwd, if_neg (by omega), if_pos hw1, hsh]
      rfl
  · have hC : ∀ j, j < cs.length → (fun x : Int => cs[x.toNat]?.getD 0) ((0 + j : Nat) : Int) = cs[j]?.getD 0 := fun j _ => by
      simp only [Nat.zero_add, Int.toNat_natCast]
    have hs := sum_wt (fun q hq => sing_wt cs (fun x : Int => cs[x.toNat]?.getD 0) 0 hC q (hp.subset hq))
    rw [hT] at hs
    have hcs := count_sum cs.length (fun x : Int => cs[x.toNat]?.getD 0) T (fun y hy => by
      rw [hx] at hy
      simp only [List.mem_cons, List.not_mem_nil, or_false] at hy
      subst hy
      omega)
    have hcost : costN cs (cnt cs.length T) = (ps.map Prod.fst).sum := by
      unfold costN
      rw [hs, ← hcs]
      congr 1
      apply List.map_congr_left
      intro j hj
      have hj' : j < cs.length := by simpa using hj
      rw [hat j hj']
      simp only [Int.toNat_natCast]
    have hfil : (ps.map Prod.fst).Perm (cs.filter fun c => decide (0 < c)) := by rw [← sing_fst 0 cs]; exact hp.map _
    obtain ⟨c, hc⟩ := List.length_eq_one_iff.1 (show (ps.map Prod.fst).length = 1 by rw [List.length_map]; omega)
    rw [hc] at hcost hfil
    rw [hcost, List.perm_singleton.1 hfil.symm]
    simp
end
theorem lens_good {cs : List Int} {most : Nat} {ps : List Pc} (hk : okCounts cs = true) (h1 : 1 ≤ most) (h15 : most ≤ 15) (hw : wordsN cs ≤ 2 ^ most) (hp : ps.Perm (sing 0 cs)) (hr : RisingP ps) : Good cs (lensOf cs.length most ps) most := by
  by_cases h0 : wordsN cs = 0
  · exact lens_none hk h0 hp
  · by_cases h2 : wordsN cs = 1
    · exact lens_one hk h1 hp h2
    · exact lens_two hk h1 h15 hw hp hr (by omega)
end Go.Proofs.Ytjellgkojmgmjaa
