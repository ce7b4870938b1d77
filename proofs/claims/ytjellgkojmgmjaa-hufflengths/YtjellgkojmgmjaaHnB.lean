/- The lengths out of the rows: a code's, none too long, of the least sum. Plain lists. -/
import Derived.Test.YtjellgkojmgmjaaHnA
namespace Go.Proofs.Ytjellgkojmgmjaa
open Go.RowKit

/-- How many levels take the i-th. -/
def lvC (av : List Nat) (i : Nat) : Nat := av.countP fun a => decide (i < a)
def tailS (av : List Nat) (n : Nat) : Nat := ((List.range n).map fun i => 2 ^ (av.length - lvC av i)).sum
theorem lvC_le (av : List Nat) (i : Nat) : lvC av i ≤ av.length := List.countP_le_length
theorem lvC_cons (a : Nat) (r : List Nat) (i : Nat) : lvC (a :: r) i = lvC r i + if i < a then 1 else 0 := by simp [lvC, List.countP_cons]
theorem lvC_zero {r : List Nat} {a i : Nat} (h : ∀ b ∈ r, b ≤ a) (hi : a ≤ i) : lvC r i = 0 := by
  unfold lvC
  rw [List.countP_eq_zero]
  intro b hb
  have := h b hb
  simp; omega
theorem range_sum_split (f g : Nat → Nat) (n a : Nat) (c : Nat) (h1 : ∀ i, i < n → i < a → f i = g i) (h2 : ∀ i, i < n → a ≤ i → f i = g i + c) (han : a ≤ n) : ((List.range n).map f).sum = ((List.range n).map g).sum + (n - a) * c := by
  induction n with
  | zero => simp
  | succ n ih =>
    by_cases e : a = n + 1
    · have : (List.range (n + 1)).map f = (List.range (n + 1)).map g := by
        apply List.map_congr_left
        intro i hi
        exact h1 i (by simpa using hi) (by have : i < n + 1 := by simpa using hi
                                           omega)
      rw [this, e]; simp
    · have ih := ih (fun i hi => h1 i (by omega)) (fun i hi => h2 i (by omega)) (by omega)
      rw [List.range_succ, List.map_append, List.sum_append, List.map_append, List.sum_append, ih]
      have hf := h2 n (by omega) (by omega)
      simp only [List.map_cons, List.map_nil, List.sum_cons, List.sum_nil, hf]
      rw [show n + 1 - a = (n - a) + 1 by omega, Nat.add_mul]
      omega
theorem wid_tail : ∀ (av : List Nat) (n : Nat), av.Pairwise (fun a b => b ≤ a) → (∀ a ∈ av, a ≤ n) → wid av + tailS av n = n * 2 ^ av.length
  | [], n, _, _ => by
    have : ∀ n, ((List.range n).map fun _ => 1).sum = n := fun n => by
      induction n with
      | zero => rfl
      | succ n ih => rw [List.range_succ, List.map_append, List.sum_append, ih]; rfl
    unfold tailS lvC
    simpa [wid] using this n
  | a :: r, n, hp, hn => by
    obtain ⟨h1, h2⟩ := List.pairwise_cons.1 hp
    have ih := wid_tail r n h2 (fun b hb => hn b (by simp [hb]))
    have han := hn a (by simp)
    have e : tailS (a :: r) n = tailS r n + (n - a) * 2 ^ r.length := by
      unfold tailS
      refine range_sum_split _ _ n a _ (fun i _ hi => ?_) (fun i _ hi => ?_) han
      · rw [lvC_cons, if_pos hi, List.length_cons]
        congr 1; omega
      · have hz := lvC_zero h1 hi
        rw [lvC_cons, if_neg (by omega), hz, List.length_cons, Nat.add_zero, Nat.sub_zero, Nat.sub_zero, Nat.pow_succ]
        omega
    rw [wid, e, List.length_cons, Nat.pow_succ]
    have e2 : (n - a) * 2 ^ r.length + a * 2 ^ r.length = n * 2 ^ r.length := by rw [← Nat.add_mul, Nat.sub_add_cancel han]
    have e3 : n * (2 ^ r.length * 2) = n * 2 ^ r.length + n * 2 ^ r.length := by rw [← Nat.mul_assoc]; omega
    rw [e3]
    omega
/-- The shares make one. -/
theorem tail_one {av : List Nat} {n k : Nat} (hp : av.Pairwise (fun a b => b ≤ a)) (hn : ∀ a ∈ av, a ≤ n) (hl : av.length = k + 1) (hw : wid av = (2 * n - 2) * 2 ^ k) (h1 : 1 ≤ n) : tailS av n = 2 ^ (k + 1) := by
  have := wid_tail av n hp hn
  rw [hl, hw, Nat.pow_succ] at this
  have e : (2 * n - 2) * 2 ^ k = (n - 1) * (2 ^ k * 2) := by rw [Nat.mul_comm (2 ^ k) 2, ← Nat.mul_assoc]; congr 1; omega
  have e2 : n * (2 ^ k * 2) = (n - 1) * (2 ^ k * 2) + 2 ^ k * 2 := by
    conv => lhs; rw [show n = (n - 1) + 1 by omega, Nat.add_mul, Nat.one_mul]
  rw [Nat.pow_succ]
  omega
theorem mem_le_sum {l : List Nat} {x : Nat} (h : x ∈ l) : x ≤ l.sum := by
  induction l with
  | nil => cases h
  | cons y r ih =>
    rcases List.mem_cons.1 h with rfl | h
    · simp
    · have := ih h; simp; omega
/-- So each has a length. -/
theorem lvC_pos {av : List Nat} {n k : Nat} (hl : av.length = k + 1) (ht : tailS av n = 2 ^ (k + 1)) (h2 : 2 ≤ n) (i : Nat) (hi : i < n) : 1 ≤ lvC av i := by
  by_cases h : 1 ≤ lvC av i
  · exact h
  · have h0 : lvC av i = 0 := by omega
    obtain ⟨j, hj, hne⟩ : ∃ j, j < n ∧ j ≠ i := by
      by_cases e : i = 0
      · exact ⟨1, by omega, by omega⟩
      · exact ⟨0, by omega, by omega⟩
    have key : ∀ (f : Nat → Nat) (n i j : Nat), i < n → j < n → i ≠ j → f i + f j ≤ ((List.range n).map f).sum := by
      intro f n
      induction n with
      | zero => intro i j hi; omega
      | succ n ih =>
        intro i j hi hj hij
        rw [List.range_succ, List.map_append, List.sum_append]
        simp only [List.map_cons, List.map_nil, List.sum_cons, List.sum_nil, Nat.add_zero]
        by_cases e1 : i = n
        · subst e1
          have := mem_le_sum (l := (List.range i).map f) (x := f j) (List.mem_map.2 ⟨j, by simp; omega, rfl⟩)
          omega
        · by_cases e2 : j = n
          · subst e2
            have := mem_le_sum (l := (List.range j).map f) (x := f i) (List.mem_map.2 ⟨i, by simp; omega, rfl⟩)
            omega
          · have := ih i j (by omega) (by omega) hij
            omega
    have := key (fun i => 2 ^ (av.length - lvC av i)) n i j hi hj (fun e => hne e.symm)
    rw [h0, Nat.sub_zero, hl] at this
    have hp := Nat.two_pow_pos (k + 1 - lvC av j)
    unfold tailS at ht
    rw [hl] at ht
    omega
end Go.Proofs.Ytjellgkojmgmjaa
