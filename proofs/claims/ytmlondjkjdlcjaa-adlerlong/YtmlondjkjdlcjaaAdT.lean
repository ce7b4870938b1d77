/- Plain facts on bytes of which one is another one: no program in it. -/
import Derived.Test.YtmlondjkjdlcjaaAdM
namespace Go.Proofs.Ytmlondjkjdlcjaa

def suml (l : List Int) : Int := l.foldr (· + ·) 0
theorem amore_sum (p : Int × Int) (h : In p) (l : List Int) : (amore p l).1 = (p.1 + suml l) % 65521 := by
  induction l generalizing p with
  | nil => obtain ⟨h0, h1, _⟩ := h; simp [amore, suml]; omega
  | cons z r ih =>
    show (amore (astep p z) r).1 = _
    rw [ih _ (astep_in p z)]
    simp [astep, suml]
    omega
theorem suml_set (l : List Int) (k : Nat) (v : Int) (hk : k < l.length) : suml (l.set k v) = suml l - l[k]?.getD 0 + v := by
  induction l generalizing k with
  | nil => simp at hk
  | cons z r ih =>
    cases k with
    | zero => simp [suml]; omega
    | succ k =>
      simp only [List.set_cons_succ, List.getElem?_cons_succ]
      have := ih k (by simpa using hk)
      simp only [suml, List.foldr_cons] at this ⊢
      omega
theorem whole_fst {p q : Int × Int} (hp : In p) (hq : In q) (h : whole p = whole q) : p.1 = q.1 := by
  unfold In at hp hq
  unfold whole at h
  omega
/-- P4.3. -/
theorem turned_ne (B : List Int) (hB : Bytes B) (k : Nat) (hk : k < B.length) (v : Int) (h0 : 0 ≤ v) (h1 : v < 256) (hne : B[k]?.getD 0 ≠ v) : adlM 1 B ≠ adlM 1 (B.set k v) := by
  intro e
  have a := whole_fst (amore_in (halves_in 1) B) (amore_in (halves_in 1) (B.set k v)) e
  rw [amore_sum _ (halves_in 1), amore_sum _ (halves_in 1), suml_set B k v hk] at a
  have := hB.at k
  generalize suml B = s at *
  generalize B[k]?.getD 0 = z at *
  generalize (halves 1).1 = u at *
  omega
theorem set_same (B : List Int) (k : Nat) (v : Int) (h : B[k]?.getD 0 = v) : B.set k v = B := by
  by_cases hk : k < B.length
  · rw [List.getElem?_eq_getElem hk] at h
    simp at h
    subst h
    exact List.set_getElem_self hk
  · exact List.set_eq_of_length_le (by omega)
theorem Bytes.set {l : List Int} (h : Bytes l) (k : Nat) (v : Int) (h0 : 0 ≤ v) (h1 : v < 256) : Bytes (l.set k v) := by
  intro z hz
  rcases List.mem_or_eq_of_mem_set hz with q | q
  · exact h z q
  · subst q; exact ⟨h0, h1⟩
end Go.Proofs.Ytmlondjkjdlcjaa
