/- The program's rows of parcels: their weights are the document's rows of prices; what a beginning of a row takes of each level. Plain lists. -/
import Derived.Test.YtjellgkojmgmjaaHmC
namespace Go.Proofs.Ytjellgkojmgmjaa
open Go.RowKit

section
variable {α : Type} (f : α → Int)
def UpF (l : List α) : Prop := l.Pairwise fun a b => f a ≤ f b
theorem mrg_perm (l m : List α) : (mrg f l m).Perm (l ++ m) := by
  induction l generalizing m with
  | nil => exact List.Perm.refl _
  | cons s ss ih =>
    rw [mrg]
    have h1 := ih (m.dropWhile fun p => decide (f p < f s))
    have h2 := List.takeWhile_append_dropWhile (p := fun p => decide (f p < f s)) (l := m)
    generalize m.takeWhile (fun p => decide (f p < f s)) = A at *
    generalize m.dropWhile (fun p => decide (f p < f s)) = B at *
    subst h2
    have h3 : (A ++ s :: mrg f ss B).Perm (s :: (A ++ mrg f ss B)) := List.perm_middle
    refine h3.trans ?_
    rw [List.cons_append]
    refine List.Perm.cons s ?_
    refine (List.Perm.append_left A h1).trans ?_
    rw [← List.append_assoc, ← List.append_assoc]
    exact List.Perm.append_right B List.perm_append_comm
theorem UpF.drop {l : List α} (h : UpF f l) (p : α → Bool) : UpF f (l.dropWhile p) := h.sublist (List.dropWhile_sublist p)
theorem drop_ge {l : List α} {s : α} (h : UpF f l) : ∀ q ∈ l.dropWhile (fun p => decide (f p < f s)), f s ≤ f q := by
  induction l with
  | nil => intro q hq; simp at hq
  | cons x r ih =>
    obtain ⟨h1, h2⟩ := List.pairwise_cons.1 h
    by_cases hx : f x < f s
    · rw [List.dropWhile_cons_of_pos (by simpa using hx)]; exact ih h2
    · rw [List.dropWhile_cons_of_neg (by simpa using hx)]
      intro q hq
      rcases List.mem_cons.1 hq with rfl | hq
      · omega
      · have := h1 q hq; omega
theorem take_lt {l : List α} {s : α} : ∀ q ∈ l.takeWhile (fun p => decide (f p < f s)), f q < f s := by
  induction l with
  | nil => intro q hq; simp at hq
  | cons x r ih =>
    intro q hq
    by_cases hx : f x < f s
    · rw [List.takeWhile_cons_of_pos (by simpa using hx)] at hq
      rcases List.mem_cons.1 hq with rfl | hq
      · exact hx
      · exact ih q hq
    · rw [List.takeWhile_cons_of_neg (by simpa using hx)] at hq
      simp at hq
theorem mrg_up {l m : List α} (hl : UpF f l) (hm : UpF f m) : UpF f (mrg f l m) := by
  induction l generalizing m with
  | nil => exact hm
  | cons s ss ih =>
    obtain ⟨l1, l2⟩ := List.pairwise_cons.1 hl
    rw [mrg]
    have hd := drop_ge f (s := s) hm
    have hi := ih l2 (UpF.drop f hm fun p => decide (f p < f s))
    have hmem : ∀ q ∈ mrg f ss (m.dropWhile fun p => decide (f p < f s)), f s ≤ f q := by
      intro q hq
      rcases mem_mrg f hq with h | h
      · exact l1 q h
      · exact hd q h
    have ht : ∀ q ∈ m.takeWhile (fun p => decide (f p < f s)), f q < f s := take_lt f
    unfold UpF
    rw [List.pairwise_append]
    refine ⟨hm.sublist (List.takeWhile_sublist _), List.pairwise_cons.2 ⟨hmem, hi⟩, ?_⟩
    intro a ha b hb
    have h1 := ht a ha
    rcases List.mem_cons.1 hb with rfl | hb
    · omega
    · have := hmem b hb; omega
/-- What a beginning of both takes: a beginning of each; what it has of the second row is lighter than the first's next one. -/
theorem mrg_take (l m : List α) (hl : UpF f l) (k : Nat) (hk : k ≤ l.length + m.length) : ∃ a b, a + b = k ∧ a ≤ l.length ∧ b ≤ m.length ∧ ((mrg f l m).take k).Perm (l.take a ++ m.take b) ∧ ∀ s, l[a]? = some s → ∀ q ∈ m.take b, f q < f s := by
  induction l generalizing m k with
  | nil => exact ⟨0, k, by omega, by simp, by simpa using hk, by simp [mrg], by intro s hs; simp at hs⟩
  | cons s ss ih =>
    rw [mrg]
    have h2 := List.takeWhile_append_dropWhile (p := fun p => decide (f p < f s)) (l := m)
    have ht : ∀ q ∈ m.takeWhile (fun p => decide (f p < f s)), f q < f s := take_lt f
    generalize m.takeWhile (fun p => decide (f p < f s)) = A at *
    generalize m.dropWhile (fun p => decide (f p < f s)) = B at *
    subst h2
    by_cases hkA : k ≤ A.length
    · refine ⟨0, k, by omega, Nat.zero_le _, by rw [List.length_append]; omega, ?_, ?_⟩
      · rw [List.take_append_of_le_length hkA, List.take_append_of_le_length hkA]; simp
      · intro t hs q hq
        simp only [List.getElem?_cons_zero, Option.some.injEq] at hs
        subst hs
        rw [List.take_append_of_le_length hkA] at hq
        exact ht q (List.mem_of_mem_take hq)
    · obtain ⟨l1, l2⟩ := List.pairwise_cons.1 hl
      obtain ⟨a, b, e1, e2, e3, e4, e5⟩ := ih B l2 (k - A.length - 1) (by simp only [List.length_append, List.length_cons] at hk; omega)
      refine ⟨a + 1, A.length + b, by omega, by rw [List.length_cons]; omega, by rw [List.length_append]; omega, ?_, ?_⟩
      · rw [List.take_append, List.take_of_length_le (by omega : A.length ≤ k), show k - A.length = (k - A.length - 1) + 1 by omega, List.take_succ_cons, List.take_append, List.take_of_length_le (by omega : A.length ≤ A.length + b), Nat.add_sub_cancel_left, List.take_succ_cons]
        refine List.perm_middle.trans ?_
        rw [List.cons_append]
        refine List.Perm.cons s ?_
        refine (List.Perm.append_left A e4).trans ?_
        rw [← List.append_assoc, ← List.append_assoc]
        exact List.Perm.append_right _ List.perm_append_comm
      · intro t hs q hq
        rw [List.getElem?_cons_succ] at hs
        rw [List.take_append, List.take_of_length_le (by omega : A.length ≤ A.length + b), Nat.add_sub_cancel_left] at hq
        rcases List.mem_append.1 hq with hq | hq
        · have h1 := ht q hq
          have h3 := l1 t (List.mem_of_getElem? hs)
          omega
        · exact e5 t hs q hq
end
/-- Two by two: the weights. -/
theorem prs_fst : ∀ l : List Pc, (prs l).map Prod.fst = prI (l.map Prod.fst)
  | [] => rfl
  | [_] => rfl
  | a :: b :: r => by rw [prs, List.map_cons, prs_fst r]; rfl
theorem prI_up : ∀ {l : List Int}, l.Pairwise (fun a b => a ≤ b) → (prI l).Pairwise fun a b => a ≤ b
  | [], _ => .nil
  | [_], _ => .nil
  | a :: b :: r, h => by
    obtain ⟨h1, h2⟩ := List.pairwise_cons.1 h
    obtain ⟨h3, h4⟩ := List.pairwise_cons.1 h2
    rw [prI]
    refine List.pairwise_cons.2 ⟨fun x hx => ?_, prI_up h4⟩
    obtain ⟨c, hc, d, hd, rfl⟩ := mem_prI hx
    have q1 := h1 c (by simp [hc])
    have q2 := h3 d hd
    omega
theorem upF_map {l : List Pc} : UpF Prod.fst l ↔ (l.map Prod.fst).Pairwise fun a b => a ≤ b := by unfold UpF; rw [List.pairwise_map]
theorem prs_up {l : List Pc} (h : UpF Prod.fst l) : UpF Prod.fst (prs l) := by
  rw [upF_map, prs_fst]; exact prI_up (upF_map.1 h)
theorem rowN_up {ps : List Pc} (h : UpF Prod.fst ps) : ∀ k, UpF Prod.fst (rowN ps k)
  | 0 => h
  | k + 1 => mrg_up Prod.fst h (prs_up (rowN_up h k))
/-- The rows' weights are the document's prices. -/
theorem rowN_fst {ps : List Pc} (h : UpF Prod.fst ps) {cs : List Int} (hp : (ps.map Prod.fst).Perm cs) : ∀ k, (rowN ps k).map Prod.fst = rwI cs (k + 1)
  | 0 => by
    rw [rowN, rwI, rwI, show prI [] = [] from rfl, List.nil_append]
    exact up_unique (hp.trans (srt_perm cs).symm) (upF_map.1 h) (srt_up cs)
  | k + 1 => by
    have ih := rowN_fst h hp k
    rw [rwI, ← ih, ← prs_fst]
    refine up_unique ?_ (upF_map.1 (rowN_up h (k + 1))) (srt_up _)
    refine List.Perm.trans ?_ (srt_perm _).symm
    rw [rowN]
    refine ((mrg_perm Prod.fst ps (prs (rowN ps k))).map Prod.fst).trans ?_
    rw [List.map_append]
    exact List.perm_append_comm.trans (List.Perm.append_left _ hp)
/-- Of each level so many of the lightest; the last level first. -/
def lvT (ps : List Pc) (av : List Nat) : List Int := av.flatMap fun a => (ps.take a).flatMap Prod.snd
def wid (av : List Nat) : Nat := match av with
  | [] => 0
  | a :: r => a * 2 ^ r.length + wid r
theorem flatMap_perm {l m : List Pc} (h : l.Perm m) : (l.flatMap Prod.snd).Perm (m.flatMap Prod.snd) := List.Perm.flatMap_right _ h
theorem prs_flat : ∀ (l : List Pc) (b : Nat), b ≤ l.length / 2 → ((prs l).take b).flatMap Prod.snd = (l.take (2 * b)).flatMap Prod.snd
  | [], b, _ => by simp [prs]
  | [_], b, h => by
    obtain rfl : b = 0 := by simp at h; omega
    simp
  | x :: y :: r, 0, _ => by simp
  | x :: y :: r, b + 1, h => by
    have ih := prs_flat r b (by simp only [List.length_cons] at h; omega)
    rw [prs, List.take_succ_cons, List.flatMap_cons, ih, show 2 * (b + 1) = 2 * b + 1 + 1 by omega, List.take_succ_cons, List.take_succ_cons, List.flatMap_cons, List.flatMap_cons, List.append_assoc]
/-- A parcel of a row's beginning stands in a pair of the pairs' beginning. -/
theorem prs_mem : ∀ (l : List Pc) (b : Nat) (p : Pc), b ≤ l.length / 2 → p ∈ l.take (2 * b) → ∃ q ∈ (prs l).take b, ∃ o ∈ l, q.1 = p.1 + o.1
  | [], b, p, _, hp => by simp at hp
  | [_], b, p, h, hp => by
    obtain rfl : b = 0 := by simp at h; omega
    simp at hp
  | x :: y :: r, 0, p, _, hp => by simp at hp
  | x :: y :: r, b + 1, p, h, hp => by
    rw [show 2 * (b + 1) = 2 * b + 1 + 1 by omega, List.take_succ_cons, List.take_succ_cons] at hp
    rw [prs, List.take_succ_cons]
    rcases List.mem_cons.1 hp with rfl | hp
    · exact ⟨_, List.mem_cons_self .., y, by simp, rfl⟩
    · rcases List.mem_cons.1 hp with rfl | hp
      · exact ⟨_, List.mem_cons_self .., x, by simp, by simp only; omega⟩
      · obtain ⟨q, hq, o, ho, e⟩ := prs_mem r b p (by simp only [List.length_cons] at h; omega) hp
        exact ⟨q, List.mem_cons_of_mem _ hq, o, by simp [ho], e⟩
/-- What a beginning of a row takes: of each level the lightest ones, and of an earlier level no more than of a later one. -/
theorem row_levels {ps : List Pc} (hu : UpF Prod.fst ps) (hpos : ∀ k, ∀ p ∈ rowN ps k, 0 < p.1) : ∀ k m, m ≤ (rowN ps k).length → ∃ av : List Nat, av.length = k + 1 ∧ (∀ a ∈ av, a ≤ ps.length) ∧ av.Pairwise (fun a b => b ≤ a) ∧ wid av = m * 2 ^ k ∧ (((rowN ps k).take m).flatMap Prod.snd).Perm (lvT ps av) ∧ (∀ a, av.head? = some a → ∀ i, i < a → ∀ s, ps[i]? = some s → s ∈ (rowN ps k).take m)
  | 0, m, hm => by
    refine ⟨[m], rfl, by simpa [rowN] using hm, List.pairwise_singleton _ _, by simp [wid], by simp [lvT, rowN], ?_⟩
    intro a ha
    simp only [List.head?_cons, Option.some.injEq] at ha
    subst ha
    intro i hi s hs
    have : (ps.take m)[i]? = some s := by rw [List.getElem?_take, if_pos hi]; exact hs
    exact List.mem_of_getElem? this
  | k + 1, m, hm => by
    have hm' : m ≤ ps.length + (prs (rowN ps k)).length := by rw [rowN, mrg_len] at hm; exact hm
    obtain ⟨a, b, e1, e2, e3, e4, e5⟩ := mrg_take Prod.fst ps (prs (rowN ps k)) hu m hm'
    rw [prs_len] at e3
    obtain ⟨av, q1, q2, q3, q4, q5, q6⟩ := row_levels hu hpos k (2 * b) (by omega)
    have hhead : ∀ c ∈ av, c ≤ a := by
      cases av with
      | nil => intro c hc; cases hc
      | cons x r =>
        obtain ⟨r1, r2⟩ := List.pairwise_cons.1 q3
        have hx : x ≤ a := by
          by_cases h : x ≤ a
          · exact h
          · have hxl := q2 x (by simp)
            have hal : a < ps.length := by omega
            have hs : ps[a]? = some ps[a] := List.getElem?_eq_getElem hal
            have hmem := q6 x rfl a (by omega) _ hs
            obtain ⟨q, hq, o, ho, e⟩ := prs_mem (rowN ps k) b _ e3 hmem
            have h1 := e5 _ hs q hq
            have h2 := hpos k o ho
            omega
        intro c hc
        rcases List.mem_cons.1 hc with rfl | hc
        · exact hx
        · have := r1 c hc; omega
    refine ⟨a :: av, by rw [List.length_cons, q1], ?_, List.pairwise_cons.2 ⟨hhead, q3⟩, ?_, ?_, ?_⟩
    · intro c hc
      rcases List.mem_cons.1 hc with rfl | hc
      · exact e2
      · exact q2 c hc
    · rw [wid, q4, q1, ← e1, Nat.add_mul, Nat.pow_succ, Nat.mul_comm 2 b, Nat.mul_assoc b 2, Nat.mul_comm 2 (2 ^ k)]
    · have h1 := flatMap_perm e4
      rw [List.flatMap_append, prs_flat _ _ e3] at h1
      show (((mrg Prod.fst ps (prs (rowN ps k))).take m).flatMap Prod.snd).Perm _
      refine h1.trans ?_
      rw [show lvT ps (a :: av) = (ps.take a).flatMap Prod.snd ++ lvT ps av from by simp [lvT]]
      exact List.Perm.append_left _ q5
    · intro c hc i hi s hs
      simp only [List.head?_cons, Option.some.injEq] at hc
      subst hc
      refine e4.symm.subset (List.mem_append_left _ ?_)
      have : (ps.take a)[i]? = some s := by rw [List.getElem?_take, if_pos hi]; exact hs
      exact List.mem_of_getElem? this
end Go.Proofs.Ytjellgkojmgmjaa
