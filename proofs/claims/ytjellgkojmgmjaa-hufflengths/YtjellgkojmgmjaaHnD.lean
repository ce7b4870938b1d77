/- What Lengths answers: a code's lengths, none too long, of the least sum. Plain lists. -/
import Derived.Test.YtjellgkojmgmjaaHnC
namespace Go.Proofs.Ytjellgkojmgmjaa
open Go.RowKit

/-- Counts times lengths. -/
def costN (cs ls : List Int) : Int := ((List.range cs.length).map fun (j : Nat) => cs[j]?.getD 0 * ls[j]?.getD 0).sum
theorem sing_fst (k : Nat) (cs : List Int) : (sing k cs).map Prod.fst = cs.filter fun c => decide (0 < c) := by
  induction cs generalizing k with
  | nil => rfl
  | cons c r ih =>
    rw [sing]
    by_cases hc : 0 < c
    · rw [if_pos hc, List.map_cons, ih, List.filter_cons_of_pos (by simpa using hc)]
    · rw [if_neg hc, ih, List.filter_cons_of_neg (by simpa using hc)]
/-- A parcel's weight is its symbols' counts. -/
def Wt (C : Int → Int) (p : Pc) : Prop := p.1 = (p.2.map C).sum
theorem sing_wt (cs : List Int) (C : Int → Int) (k : Nat) (h : ∀ j, j < cs.length → C ((k + j : Nat) : Int) = cs[j]?.getD 0) : ∀ p ∈ sing k cs, Wt C p := by
  induction cs generalizing k with
  | nil => intro p hp; cases hp
  | cons c r ih =>
    intro p hp
    have ih := ih (k + 1) (fun j hj => by rw [show k + 1 + j = k + (j + 1) by omega, h (j + 1) (by simpa using hj)]; simp)
    rw [sing] at hp
    split at hp
    · rcases List.mem_cons.1 hp with rfl | hp
      · have := h 0 (by simp)
        simp only [Wt, List.map_cons, List.map_nil, List.sum_cons, List.sum_nil, Int.add_zero]
        simpa using this.symm
      · exact ih p hp
    · exact ih p hp
theorem row_wt {C : Int → Int} {ps : List Pc} (h : ∀ p ∈ ps, Wt C p) : ∀ k, ∀ p ∈ rowN ps k, Wt C p
  | 0, p, hp => h p hp
  | k + 1, p, hp => by
    rcases mem_mrg _ hp with hp | hp
    · exact h p hp
    · obtain ⟨a, ha, b, hb, rfl⟩ := mem_prs hp
      have h1 := row_wt h k a ha
      have h2 := row_wt h k b hb
      unfold Wt at *
      rw [List.map_append, List.sum_append, h1, h2]
theorem sum_wt {C : Int → Int} : ∀ {l : List Pc}, (∀ p ∈ l, Wt C p) → (l.map Prod.fst).sum = ((l.flatMap Prod.snd).map C).sum
  | [], _ => rfl
  | p :: r, h => by
    rw [List.map_cons, List.sum_cons, List.flatMap_cons, List.map_append, List.sum_append, sum_wt (fun q hq => h q (by simp [hq])), h p (by simp)]
theorem range_add (f g : Nat → Int) (n : Nat) : ((List.range n).map fun i => f i + g i).sum = ((List.range n).map f).sum + ((List.range n).map g).sum := by
  induction n with
  | zero => rfl
  | succ n ih =>
    rw [List.range_succ, List.map_append, List.sum_append, List.map_append, List.sum_append, List.map_append, List.sum_append, ih]
    simp only [List.map_cons, List.map_nil, List.sum_cons, List.sum_nil]
    omega
theorem zeros (n : Nat) : ((List.range n).map fun _ => (0 : Int)).sum = 0 := by
  induction n with
  | zero => rfl
  | succ n ih => rw [List.range_succ, List.map_append, List.sum_append, ih]; rfl
theorem range_one (n s : Nat) (x : Int) (hs : s < n) : ((List.range n).map fun i => if i = s then x else 0).sum = x := by
  induction n with
  | zero => omega
  | succ n ih =>
    rw [List.range_succ, List.map_append, List.sum_append]
    simp only [List.map_cons, List.map_nil, List.sum_cons, List.sum_nil, Int.add_zero]
    by_cases e : s = n
    · subst e
      rw [if_pos rfl]
      have : ((List.range s).map fun i => if i = s then x else 0).sum = 0 := by
        have e2 : ((List.range s).map fun i => if i = s then x else (0 : Int)) = (List.range s).map fun _ => 0 := by
          apply List.map_congr_left
          intro i hi
          have : i < s := by simpa using hi
          rw [if_neg (by omega)]
        rw [e2]; exact zeros s
      omega
    · rw [ih (by omega), if_neg (by omega)]; omega
/-- The sum over what stands in T, symbol by symbol. -/
theorem count_sum (len : Nat) (C : Int → Int) : ∀ T : List Int, (∀ x ∈ T, 0 ≤ x ∧ x < (len : Int)) → ((List.range len).map fun (j : Nat) => C (j : Int) * ((T.count (j : Int) : Nat) : Int)).sum = (T.map C).sum
  | [], _ => by
    simpa using zeros len
  | x :: r, h => by
    have ih := count_sum len C r (fun y hy => h y (by simp [hy]))
    obtain ⟨s, rfl⟩ := Int.eq_ofNat_of_zero_le (h x (by simp)).1
    have hs : s < len := by have := (h _ (List.mem_cons_self ..)).2; omega
    rw [List.map_cons, List.sum_cons, ← ih, ← range_one len s (C (s : Int)) hs, ← range_add]
    congr 1
    apply List.map_congr_left
    intro i _
    rw [List.count_cons]
    by_cases e : i = s
    · subst e; simp [Int.mul_add]; omega
    · have : ¬ (s : Int) = (i : Int) := by omega
      simp [e, this]
end Go.Proofs.Ytjellgkojmgmjaa
