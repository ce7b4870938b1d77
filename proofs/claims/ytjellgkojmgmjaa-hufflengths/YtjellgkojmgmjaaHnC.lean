/- Symbols and how often they stand in the rows' beginnings: plain lists. -/
import Derived.Test.YtjellgkojmgmjaaHnB
namespace Go.Proofs.Ytjellgkojmgmjaa
open Go.RowKit

def sy (k : Nat) (cs : List Int) : List Int := (sing k cs).flatMap Prod.snd
theorem sing_one (k : Nat) (cs : List Int) : ∀ p ∈ sing k cs, p.2.length = 1 := by
  induction cs generalizing k with
  | nil => intro p hp; cases hp
  | cons c r ih =>
    intro p hp
    rw [sing] at hp
    split at hp
    · rcases List.mem_cons.1 hp with rfl | hp
      · rfl
      · exact ih _ p hp
    · exact ih _ p hp
theorem flat_take {ps : List Pc} (h : ∀ p ∈ ps, p.2.length = 1) (a : Nat) : (ps.take a).flatMap Prod.snd = (ps.flatMap Prod.snd).take a := by
  induction ps generalizing a with
  | nil => simp
  | cons p r ih =>
    have hp := h p (by simp)
    obtain ⟨x, hx⟩ := List.length_eq_one_iff.1 hp
    cases a with
    | zero => simp
    | succ a => rw [List.take_succ_cons, List.flatMap_cons, List.flatMap_cons, hx, ih (fun q hq => h q (by simp [hq]))]; rfl
theorem flat_one_len {ps : List Pc} (h : ∀ p ∈ ps, p.2.length = 1) : (ps.flatMap Prod.snd).length = ps.length := by
  induction ps with
  | nil => rfl
  | cons p r ih => rw [List.flatMap_cons, List.length_append, h p (by simp), ih (fun q hq => h q (by simp [hq])), List.length_cons]; omega
theorem sy_cons (k : Nat) (c : Int) (r : List Int) : sy k (c :: r) = if 0 < c then (k : Int) :: sy (k + 1) r else sy (k + 1) r := by
  unfold sy
  rw [sing]
  split
  · rfl
  · rfl
theorem sy_ge (k : Nat) (cs : List Int) : ∀ x ∈ sy k cs, (k : Int) ≤ x ∧ x < (k : Int) + cs.length := by
  induction cs generalizing k with
  | nil => intro x hx; simp [sy, sing] at hx
  | cons c r ih =>
    intro x hx
    rw [sy_cons] at hx
    have key : x ∈ sy (k + 1) r → (k : Int) ≤ x ∧ x < (k : Int) + (c :: r).length := fun h => by
      have := ih (k + 1) x h
      rw [List.length_cons]; omega
    split at hx
    · rcases List.mem_cons.1 hx with rfl | hx
      · rw [List.length_cons]; omega
      · exact key hx
    · exact key hx
theorem sy_nodup (k : Nat) (cs : List Int) : (sy k cs).Nodup := by
  induction cs generalizing k with
  | nil => exact List.nodup_nil
  | cons c r ih =>
    rw [sy_cons]
    split
    · refine List.nodup_cons.2 ⟨fun h => ?_, ih _⟩
      have := sy_ge _ _ _ h
      omega
    · exact ih _
theorem sy_mem (k : Nat) (cs : List Int) (j : Nat) (hj : j < cs.length) : ((k + j : Nat) : Int) ∈ sy k cs ↔ 0 < cs[j]?.getD 0 := by
  induction cs generalizing k j with
  | nil => simp at hj
  | cons c r ih =>
    rw [sy_cons]
    cases j with
    | zero =>
      have hno : ((k + 0 : Nat) : Int) ∉ sy (k + 1) r := fun h => by have := sy_ge _ _ _ h; omega
      by_cases hc : 0 < c
      · rw [if_pos hc]; simp [hc]
      · rw [if_neg hc]; simp only [hno, false_iff]; simpa using hc
    | succ j =>
      have := ih (k + 1) j (by simpa using hj)
      rw [show k + 1 + j = k + (j + 1) by omega] at this
      rw [List.getElem?_cons_succ, ← this]
      split
      · rw [List.mem_cons]
        constructor
        · rintro (h | h)
          · omega
          · exact h
        · exact .inr
      · exact Iff.rfl
/-- A sum over all symbols of what is 0 for those without a count. -/
theorem sy_sum (H : Int → Nat) (k : Nat) (cs : List Int) (h : ∀ j, j < cs.length → ¬ 0 < cs[j]?.getD 0 → H ((k + j : Nat) : Int) = 0) : ((List.range cs.length).map fun j => H ((k + j : Nat) : Int)).sum = ((sy k cs).map H).sum := by
  induction cs generalizing k with
  | nil => rfl
  | cons c r ih =>
    have ih := ih (k + 1) (fun j hj hn => by
      have := h (j + 1) (by simpa using hj) (by simpa using hn)
      rw [show k + 1 + j = k + (j + 1) by omega]; exact this)
    rw [List.length_cons, List.range_succ_eq_map, List.map_cons, List.map_map, List.sum_cons, sy_cons]
    have e : ((List.range r.length).map ((fun j => H ((k + j : Nat) : Int)) ∘ Nat.succ)) = (List.range r.length).map fun j => H ((k + 1 + j : Nat) : Int) := by
      apply List.map_congr_left
      intro j _
      simp only [Function.comp]
      rw [show k + j.succ = k + 1 + j by omega]
    rw [e, ih]
    by_cases hc : 0 < c
    · rw [if_pos hc, List.map_cons, List.sum_cons]; rfl
    · rw [if_neg hc]
      have := h 0 (by simp) (by simpa using hc)
      rw [this, Nat.zero_add]
theorem map_range_at (S : List Int) (H : Int → Nat) : (S.map H).sum = ((List.range S.length).map fun i => H (S[i]?.getD 0)).sum := by
  congr 1
  apply List.ext_getElem?
  intro i
  by_cases hi : i < S.length
  · simp [hi]
  · simp [hi]
theorem nodup_count {S : List Int} (h : S.Nodup) (i : Nat) (hi : i < S.length) (a : Nat) : (S.take a).count (S[i]?.getD 0) = if i < a then 1 else 0 := by
  induction S generalizing i a with
  | nil => simp at hi
  | cons x r ih =>
    obtain ⟨h1, h2⟩ := List.nodup_cons.1 h
    cases a with
    | zero => simp
    | succ a =>
      rw [List.take_succ_cons]
      cases i with
      | zero =>
        have : (r.take a).count x = 0 := List.count_eq_zero.2 fun hm => h1 (List.mem_of_mem_take hm)
        simp [this]
      | succ i =>
        have hi' : i < r.length := by simpa using hi
        have hne : x ≠ r[i]?.getD 0 := fun e => h1 (by rw [e, List.getElem?_eq_getElem hi']; exact List.getElem_mem hi')
        rw [List.getElem?_cons_succ, List.count_cons, ih h2 i hi' a]
        simp [hne]
/-- How often the i-th symbol stands there. -/
theorem lvT_count {ps : List Pc} (h1 : ∀ p ∈ ps, p.2.length = 1) (hn : (ps.flatMap Prod.snd).Nodup) (av : List Nat) (i : Nat) (hi : i < ps.length) : (lvT ps av).count ((ps.flatMap Prod.snd)[i]?.getD 0) = lvC av i := by
  induction av with
  | nil => simp [lvT, lvC]
  | cons a r ih =>
    have e : lvT ps (a :: r) = (ps.take a).flatMap Prod.snd ++ lvT ps r := by simp [lvT]
    rw [e, List.count_append, ih, flat_take h1, nodup_count hn i (by rw [flat_one_len h1]; exact hi), lvC_cons]
    omega
theorem lvT_mem {ps : List Pc} {av : List Nat} {x : Int} (h : x ∈ lvT ps av) : x ∈ ps.flatMap Prod.snd := by
  simp only [lvT, List.mem_flatMap] at h ⊢
  obtain ⟨a, _, p, hp, hx⟩ := h
  exact ⟨p, List.mem_of_mem_take hp, hx⟩
end Go.Proofs.Ytjellgkojmgmjaa
