/- Plain facts on the sum of two texts together: no program in it. -/
import Derived.Test.YtmlondjkjdlcjaaAdM
namespace Go.Proofs.Ytmlondjkjdlcjaa

theorem amore_shift (p : Int × Int) (hp : In p) (B : List Int) : (amore p B).1 = (p.1 + 65520 + (amore (1, 0) B).1) % 65521 ∧ (amore p B).2 = (p.2 + (amore (1, 0) B).2 + (B.length : Int) * (p.1 + 65520)) % 65521 := by
  obtain ⟨h0, h1, h2, h3⟩ := hp
  suffices H : ∀ k, k ≤ B.length → (amore p (B.take k)).1 = (p.1 + 65520 + (amore (1, 0) (B.take k)).1) % 65521 ∧ (amore p (B.take k)).2 = (p.2 + (amore (1, 0) (B.take k)).2 + (k : Int) * (p.1 + 65520)) % 65521 by
    have := H B.length (Nat.le_refl _)
    rwa [List.take_length] at this
  intro k hk
  induction k with
  | zero => simp [amore]; omega
  | succ k ih =>
    obtain ⟨i1, i2⟩ := ih (by omega)
    rw [take_snoc B k (by omega), amore_snoc, amore_snoc]
    generalize B[k]?.getD 0 = v
    generalize amore p (B.take k) = X at *
    generalize amore (1, 0) (B.take k) = Y at *
    have e : ((k + 1 : Nat) : Int) * (p.1 + 65520) = (k : Int) * (p.1 + 65520) + (p.1 + 65520) := by rw [Int.natCast_add, Int.add_mul]; simp
    rw [e]
    generalize (k : Int) * (p.1 + 65520) = m at *
    unfold astep
    simp only
    omega
theorem mul_mods (x u k : Int) : (x + u % 65521 * (k % 65521)) % 65521 = (x + k * u) % 65521 := by
  rw [Int.add_emod, ← Int.mul_emod, ← Int.add_emod, Int.mul_comm u k]
theorem halves_one : halves 1 = (1, 0) := by decide
/-- P4.2. -/
theorem join_more (n : Int) (A B : List Int) : joinN (adlM n A) (adlM 1 B) B.length = adlM (adlM n A) B := by
  have hA := amore_in (halves_in n) A
  have hB := amore_in (halves_in 1) B
  have eA : halves (adlM n A) = amore (halves n) A := halves_whole hA
  have eB : halves (adlM 1 B) = amore (1, 0) B := by rw [← halves_one]; exact halves_whole hB
  rw [halves_one] at hB
  have s := amore_shift (amore (halves n) A) hA B
  have l1 : low (adlM n A) = (amore (halves n) A).1 := congrArg Prod.fst eA
  have l2 : high (adlM n A) = (amore (halves n) A).2 := congrArg Prod.snd eA
  have l3 : low (adlM 1 B) = (amore (1, 0) B).1 := congrArg Prod.fst eB
  have l4 : high (adlM 1 B) = (amore (1, 0) B).2 := congrArg Prod.snd eB
  unfold joinN
  rw [mul_mods, l1, l2, l3, l4]
  show _ = whole (amore (halves (adlM n A)) B)
  rw [eA]
  congr 1
  refine Prod.ext ?_ ?_
  · rw [s.1]
    simp only
    omega
  · exact s.2.symm
end Go.Proofs.Ytmlondjkjdlcjaa
