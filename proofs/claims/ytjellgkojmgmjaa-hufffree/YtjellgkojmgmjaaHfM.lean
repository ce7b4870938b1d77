/- Canonical codes by their words' lengths: plain numbers; no program in it. -/
import Derived.WalkKit
namespace Go.Proofs.Ytjellgkojmgmjaa
open Go.RowKit

/-- What a word of n bits takes of 2^15. -/
def hshr (n : Nat) : Nat := if n = 0 then 0 else 2 ^ (15 - n)
def kraft (ns : List Nat) : Nat := (ns.map hshr).sum
/-- What the shorter words take. -/
def hlow (n : Nat) (ns : List Nat) : Nat := (ns.map fun k => if 0 < k ∧ k < n then 2 ^ (15 - k) else 0).sum
/-- What the words of n bits take. -/
def heqs (n : Nat) (ns : List Nat) : Nat := (ns.map fun k => if k = n then 2 ^ (15 - n) else 0).sum
/-- What is taken ahead of symbol i's word, if it is one of n bits. -/
def hst (ns : List Nat) (n i : Nat) : Nat := hlow n ns + heqs n (ns.take i)

theorem hlow_one (ns : List Nat) : hlow 1 ns = 0 := by
  induction ns with
  | nil => rfl
  | cons k r ih =>
    unfold hlow at ih ⊢
    rw [List.map_cons, List.sum_cons, ih, if_neg (by omega)]
theorem hlow_succ (n : Nat) (h : 1 ≤ n) (ns : List Nat) : hlow (n + 1) ns = hlow n ns + heqs n ns := by
  induction ns with
  | nil => rfl
  | cons k r ih =>
    unfold hlow heqs at ih ⊢
    simp only [List.map_cons, List.sum_cons, ih]
    by_cases h1 : k = n
    · subst h1
      rw [if_pos (by omega), if_neg (by omega), if_pos rfl]; omega
    · rw [if_neg h1]
      by_cases h2 : 0 < k ∧ k < n
      · rw [if_pos h2, if_pos (by omega)]; omega
      · rw [if_neg h2, if_neg (by omega)]; omega
theorem hlow_mono {n m : Nat} (h : n ≤ m) (ns : List Nat) : hlow n ns ≤ hlow m ns := by
  induction ns with
  | nil => exact Nat.le_refl _
  | cons k r ih =>
    unfold hlow at ih ⊢
    simp only [List.map_cons, List.sum_cons]
    by_cases h2 : 0 < k ∧ k < n
    · rw [if_pos h2, if_pos (by omega)]; omega
    · rw [if_neg h2]; omega
theorem hlow_kraft (n : Nat) (ns : List Nat) : hlow n ns ≤ kraft ns := by
  induction ns with
  | nil => exact Nat.le_refl _
  | cons k r ih =>
    unfold hlow kraft hshr at ih ⊢
    simp only [List.map_cons, List.sum_cons]
    by_cases h2 : 0 < k ∧ k < n
    · rw [if_pos h2, if_neg (by omega)]; omega
    · rw [if_neg h2]; omega
theorem heqs_snoc (n : Nat) (l : List Nat) (k : Nat) : heqs n (l ++ [k]) = heqs n l + if k = n then 2 ^ (15 - n) else 0 := by
  simp [heqs]
theorem heqs_take_le (n : Nat) (ns : List Nat) (i : Nat) : heqs n (ns.take i) ≤ heqs n ns := by
  conv => rhs; rw [← List.take_append_drop i ns]
  unfold heqs
  rw [List.map_append, List.sum_append]; omega
theorem hst_start (ns : List Nat) : hst ns 1 0 = 0 := by simp [hst, hlow_one, heqs]
theorem hst_end (ns : List Nat) (n : Nat) (h : 1 ≤ n) : hst ns n ns.length = hst ns (n + 1) 0 := by
  simp [hst, hlow_succ n h, heqs]
theorem hst_succ (ns : List Nat) (n i : Nat) (hi : i < ns.length) : hst ns n (i + 1) = hst ns n i + if ns[i]?.getD 0 = n then 2 ^ (15 - n) else 0 := by
  unfold hst
  rw [List.take_succ_eq_append_getElem hi, heqs_snoc, List.getElem?_eq_getElem hi]
  simp [Nat.add_assoc]
theorem hst_mono (ns : List Nat) (n : Nat) {i j : Nat} (h : i ≤ j) : hst ns n i ≤ hst ns n j := by
  unfold hst
  have := heqs_take_le n (ns.take j) i
  rw [List.take_take, Nat.min_eq_left h] at this
  omega
theorem hst_le (ns : List Nat) (n i : Nat) (h : 1 ≤ n) : hst ns n i ≤ kraft ns := by
  have h1 := heqs_take_le n ns i
  have h2 := hlow_succ n h ns
  have h3 := hlow_kraft (n + 1) ns
  unfold hst; omega
theorem hst_later (ns : List Nat) {n m : Nat} (h : n < m) (h1 : 1 ≤ n) (i j : Nat) : hst ns n i ≤ hst ns m j := by
  have e1 := heqs_take_le n ns i
  have e2 := hlow_succ n h1 ns
  have e3 := hlow_mono (show n + 1 ≤ m from h) ns
  unfold hst; omega
theorem hlow_dvd (n : Nat) (hn : n ≤ 15) (ns : List Nat) : 2 ^ (15 - n) ∣ hlow n ns := by
  induction ns with
  | nil => exact ⟨0, rfl⟩
  | cons k r ih =>
    unfold hlow at ih ⊢
    simp only [List.map_cons, List.sum_cons]
    refine Nat.dvd_add ?_ ih
    by_cases h2 : 0 < k ∧ k < n
    · rw [if_pos h2]; exact Nat.pow_dvd_pow 2 (by omega)
    · rw [if_neg h2]; exact ⟨0, by simp⟩
theorem heqs_dvd (n : Nat) (ns : List Nat) : 2 ^ (15 - n) ∣ heqs n ns := by
  induction ns with
  | nil => exact ⟨0, rfl⟩
  | cons k r ih =>
    unfold heqs at ih ⊢
    simp only [List.map_cons, List.sum_cons]
    refine Nat.dvd_add ?_ ih
    by_cases h2 : k = n
    · rw [if_pos h2]; exact Nat.dvd_refl _
    · rw [if_neg h2]; exact ⟨0, by simp⟩
theorem hst_dvd (ns : List Nat) (n i : Nat) (hn : n ≤ 15) : 2 ^ (15 - n) ∣ hst ns n i := Nat.dvd_add (hlow_dvd n hn ns) (heqs_dvd n _)

/-- The number of the next free word of n bits, when the symbols below i are done. -/
def hfree (ns : List Nat) (n i : Nat) : Nat := hst ns n i / 2 ^ (15 - n)
theorem hfree_mul (ns : List Nat) (n i : Nat) (hn : n ≤ 15) : hfree ns n i * 2 ^ (15 - n) = hst ns n i := Nat.div_mul_cancel (hst_dvd ns n i hn)
theorem pow_split (a b : Nat) (h : a ≤ b) : 2 ^ b = 2 ^ (b - a) * 2 ^ a := by rw [← Nat.pow_add, Nat.sub_add_cancel h]
theorem hfree_le (ns : List Nat) (n i : Nat) (h1 : 1 ≤ n) (hn : n ≤ 15) (hk : kraft ns ≤ 32768) : hfree ns n i ≤ 2 ^ n := by
  have h := hst_le ns n i h1
  rw [← hfree_mul ns n i hn] at h
  have e : 32768 = 2 ^ n * 2 ^ (15 - n) := by rw [← Nat.pow_add, show n + (15 - n) = 15 by omega]
  exact Nat.le_of_mul_le_mul_right (by omega : hfree ns n i * 2 ^ (15 - n) ≤ 2 ^ n * 2 ^ (15 - n)) (Nat.two_pow_pos _)
theorem hfree_start (ns : List Nat) : hfree ns 1 0 = 0 := by simp [hfree, hst_start]
theorem hfree_end (ns : List Nat) (n : Nat) (h1 : 1 ≤ n) (hn : n + 1 ≤ 15) : hfree ns (n + 1) 0 = hfree ns n ns.length * 2 := by
  have e1 := hfree_mul ns (n + 1) 0 hn
  have e2 := hfree_mul ns n ns.length (by omega)
  rw [hst_end ns n h1, ← e1, show 15 - n = (15 - (n + 1)) + 1 by omega, Nat.pow_succ, Nat.mul_comm (2 ^ _) 2, ← Nat.mul_assoc] at e2
  exact (Nat.eq_of_mul_eq_mul_right (Nat.two_pow_pos _) e2).symm
theorem hfree_succ (ns : List Nat) (n i : Nat) (hn : n ≤ 15) (hi : i < ns.length) : hfree ns n (i + 1) = hfree ns n i + if ns[i]?.getD 0 = n then 1 else 0 := by
  have e1 := hfree_mul ns n (i + 1) hn
  have e2 := hfree_mul ns n i hn
  rw [hst_succ ns n i hi, ← e2] at e1
  by_cases h : ns[i]?.getD 0 = n
  · rw [if_pos h] at e1 ⊢
    rw [← Nat.succ_mul] at e1
    exact Nat.eq_of_mul_eq_mul_right (Nat.two_pow_pos _) e1
  · rw [if_neg h] at e1 ⊢
    exact Nat.eq_of_mul_eq_mul_right (Nat.two_pow_pos _) e1

/-- A symbol's length. -/
def hn (ns : List Nat) (s : Nat) : Nat := ns[s]?.getD 0
/-- A symbol's word, as a number whose highest bit is the first. -/
def hv (ns : List Nat) (s : Nat) : Nat := if hn ns s = 0 then 0 else hfree ns (hn ns s) s
theorem hn_lt {ns : List Nat} {s : Nat} (h : hn ns s ≠ 0) : s < ns.length := by
  by_cases hs : s < ns.length
  · exact hs
  · exact absurd (by unfold hn; rw [List.getElem?_eq_none (by omega)]; rfl) h
/-- Lengths of a code. -/
structure Cd (ns : List Nat) : Prop where
  few : ns.length ≤ 288
  le : ∀ s, hn ns s ≤ 15
  sum : kraft ns ≤ 32768
theorem Cd.mul {ns : List Nat} (h : Cd ns) {s : Nat} (hs : hn ns s ≠ 0) : hv ns s * 2 ^ (15 - hn ns s) = hst ns (hn ns s) s := by
  unfold hv; rw [if_neg hs]; exact hfree_mul _ _ _ (h.le s)
theorem hst_own {ns : List Nat} {s : Nat} (hs : hn ns s ≠ 0) : hst ns (hn ns s) (s + 1) = hst ns (hn ns s) s + 2 ^ (15 - hn ns s) := by
  rw [hst_succ ns _ s (hn_lt hs)]
  unfold hn; simp
theorem Cd.lt {ns : List Nat} (h : Cd ns) (s : Nat) : hv ns s < 2 ^ hn ns s := by
  by_cases hs : hn ns s = 0
  · unfold hv; rw [if_pos hs]; exact Nat.two_pow_pos _
  have h1 := hst_le ns (hn ns s) (s + 1) (by omega)
  rw [hst_own hs, ← h.mul hs] at h1
  have e : 32768 = 2 ^ hn ns s * 2 ^ (15 - hn ns s) := by rw [← Nat.pow_add, show hn ns s + (15 - hn ns s) = 15 by have := h.le s; omega]
  have h2 := h.sum
  rw [← Nat.succ_mul] at h1
  have h3 : (hv ns s + 1) * 2 ^ (15 - hn ns s) ≤ 32768 := Nat.le_trans h1 h2
  rw [e] at h3
  exact Nat.le_of_mul_le_mul_right h3 (Nat.two_pow_pos _)
/-- No word is the beginning of another one. -/
theorem Cd.apart {ns : List Nat} (h : Cd ns) {s t : Nat} (hs : hn ns s ≠ 0) (ht : hn ns t ≠ 0) (hne : s ≠ t) (hle : hn ns s ≤ hn ns t) : hv ns t / 2 ^ (hn ns t - hn ns s) ≠ hv ns s := by
  intro e
  have p1 := Nat.two_pow_pos (hn ns t - hn ns s)
  have q1 : hv ns s * 2 ^ (hn ns t - hn ns s) ≤ hv ns t := by rw [← e]; exact Nat.div_mul_le_self _ _
  have q2 : hv ns t < (hv ns s + 1) * 2 ^ (hn ns t - hn ns s) := by
    rw [← e, Nat.mul_comm]; exact Nat.lt_mul_div_succ _ p1
  have ep : 2 ^ (15 - hn ns s) = 2 ^ (hn ns t - hn ns s) * 2 ^ (15 - hn ns t) := by
    rw [← Nat.pow_add]; congr 1; have := h.le t; omega
  have r1 : hst ns (hn ns s) s ≤ hst ns (hn ns t) t := by
    rw [← h.mul hs, ← h.mul ht, ep, ← Nat.mul_assoc]
    exact Nat.mul_le_mul_right _ q1
  have r2 : hst ns (hn ns t) t < hst ns (hn ns s) (s + 1) := by
    rw [hst_own hs, ← h.mul hs, ← h.mul ht, ← Nat.succ_mul, ep, ← Nat.mul_assoc]
    exact Nat.mul_lt_mul_of_pos_right q2 (Nat.two_pow_pos _)
  by_cases hlt : hn ns s < hn ns t
  · have := hst_later ns hlt (by omega) (s + 1) t; omega
  · have he : hn ns s = hn ns t := by omega
    rw [he] at r1 r2
    rcases Nat.lt_or_gt_of_ne hne with h3 | h3
    · have := hst_mono ns (hn ns t) (show s + 1 ≤ t from h3); omega
    · have h4 := hst_mono ns (hn ns t) (show t + 1 ≤ s from h3)
      rw [hst_own ht] at h4
      have := Nat.two_pow_pos (15 - hn ns t)
      omega
theorem Cd.inj {ns : List Nat} (h : Cd ns) {s t : Nat} (hs : hn ns s ≠ 0) (ht : hn ns t ≠ 0) (e1 : hn ns s = hn ns t) (e2 : hv ns s = hv ns t) : s = t := by
  by_cases hne : s = t
  · exact hne
  · exact absurd (by rw [e1, Nat.sub_self, Nat.pow_zero, Nat.div_one]; exact e2.symm) (h.apart hs ht hne (by omega))
/-- How many words are still to be told, when those of fewer than n bits are, and those of n bits of symbols below i. -/
def hleft (ns : List Nat) (n i : Nat) : Nat := (ns.countP fun k => decide (n < k)) + ((ns.drop i).countP fun k => decide (k = n))
theorem hleft_start (ns : List Nat) : hleft ns 1 0 = ns.countP fun k => decide (0 < k) := by
  unfold hleft
  rw [List.drop_zero]
  induction ns with
  | nil => rfl
  | cons k r ih =>
    simp only [List.countP_cons]
    by_cases h1 : k = 1
    · subst h1; simp; omega
    · by_cases h2 : 0 < k
      · simp [h1, h2, show 1 < k by omega]; omega
      · simp [h1, h2, show ¬ 1 < k by omega]; omega
theorem hleft_end (ns : List Nat) (n : Nat) : hleft ns (n + 1) 0 = hleft ns n ns.length := by
  unfold hleft
  rw [List.drop_zero, List.drop_length]
  induction ns with
  | nil => rfl
  | cons k r ih =>
    simp only [List.countP_cons] at ih ⊢
    by_cases h1 : k = n + 1
    · subst h1; simp at ih ⊢; omega
    · by_cases h2 : n < k
      · simp [h1, h2, show n + 1 < k by omega] at ih ⊢; omega
      · simp [h1, h2, show ¬ n + 1 < k by omega] at ih ⊢; omega
theorem hleft_succ (ns : List Nat) (n i : Nat) (hi : i < ns.length) : hleft ns n i = hleft ns n (i + 1) + if ns[i]?.getD 0 = n then 1 else 0 := by
  unfold hleft
  rw [List.drop_eq_getElem_cons hi, List.countP_cons, List.getElem?_eq_getElem hi]
  by_cases h : ns[i] = n <;> simp [h] <;> omega
theorem hleft_none {ns : List Nat} {n i : Nat} (h : hleft ns n i = 0) (s : Nat) (hs : hn ns s ≠ 0) : hn ns s < n ∨ hn ns s = n ∧ s < i := by
  have hsl := hn_lt hs
  unfold hleft at h
  have h1 : (ns.countP fun k => decide (n < k)) = 0 := by omega
  have h2 : ((ns.drop i).countP fun k => decide (k = n)) = 0 := by omega
  rw [List.countP_eq_zero] at h1 h2
  have e : hn ns s = ns[s] := by unfold hn; rw [List.getElem?_eq_getElem hsl]; rfl
  have h3 := h1 _ (List.getElem_mem hsl)
  simp at h3
  by_cases h4 : hn ns s = n
  · right
    refine ⟨h4, ?_⟩
    by_cases h5 : s < i
    · exact h5
    · have := h2 ns[s] (by rw [List.mem_iff_getElem]; exact ⟨s - i, by simp; omega, by simp [show i + (s - i) = s by omega]⟩)
      simp at this; omega
  · left; omega
/-- What stands at symbol s meanwhile. -/
def hmid (ns : List Nat) (n i s : Nat) : Nat × Nat := if (0 < hn ns s ∧ hn ns s < n) ∨ (hn ns s = n ∧ s < i) then (hn ns s, hv ns s) else (0, 0)
theorem hmid_done {ns : List Nat} {n i : Nat} (h1 : 1 ≤ n) (h : hleft ns n i = 0) (s : Nat) : hmid ns n i s = (hn ns s, hv ns s) := by
  unfold hmid
  by_cases hs : hn ns s = 0
  · rw [if_neg (by omega), hs]; unfold hv; rw [if_pos hs]
  · rw [if_pos (by rcases hleft_none h s hs with q | q <;> omega)]
theorem hmid_start (ns : List Nat) (s : Nat) : hmid ns 1 0 s = (0, 0) := by unfold hmid; rw [if_neg (by omega)]
theorem hmid_end (ns : List Nat) (n s : Nat) (h1 : 1 ≤ n) : hmid ns (n + 1) 0 s = hmid ns n ns.length s := by
  unfold hmid
  by_cases hs : hn ns s = 0
  · rw [if_neg (by omega), if_neg (by omega)]
  have := hn_lt hs
  by_cases h : hn ns s < n + 1
  · rw [if_pos (by omega), if_pos (by omega)]
  · rw [if_neg (by omega), if_neg (by omega)]
theorem hmid_succ (ns : List Nat) (n i s : Nat) (h1 : 1 ≤ n) : hmid ns n (i + 1) s = if s = i ∧ hn ns i = n then (n, hfree ns n i) else hmid ns n i s := by
  by_cases h : s = i ∧ hn ns i = n
  · obtain ⟨rfl, h⟩ := h
    rw [if_pos ⟨rfl, h⟩]
    unfold hmid hv
    rw [if_pos (by omega), if_neg (by omega), h]
  · rw [if_neg h]
    unfold hmid
    by_cases h2 : (0 < hn ns s ∧ hn ns s < n) ∨ (hn ns s = n ∧ s < i)
    · rw [if_pos h2, if_pos (by omega)]
    · rw [if_neg h2, if_neg]
      intro h3
      rcases h3 with h3 | h3
      · exact h2 (.inl h3)
      · refine h ⟨by omega, ?_⟩
        rw [← h3.1]; congr 1; omega
end Go.Proofs.Ytjellgkojmgmjaa
