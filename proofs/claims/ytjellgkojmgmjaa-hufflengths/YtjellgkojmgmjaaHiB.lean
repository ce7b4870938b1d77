/- What any lengths make of New; the words as bits, the lowest first. -/
import Derived.Test.YtjellgkojmgmjaaHiA
import Derived.Test.YtjellgkojmgmjaaArgI
namespace Go.Proofs.Ytjellgkojmgmjaa
open Go.RowKit

/-- What New tells of any lengths. -/
def NewAll (w : World) (ls : List Int) (e : Ending) (w' : World) : Prop :=
  (okLens ls = true ∧ wholeB ls = true ∧ ∃ c, e = .returned (.tuple #[.pointer (some ⟨c, 0, none⟩), .int .i64 0]) ∧ w.heap.size ≤ c ∧ CodeAt w' c (ls.map Int.toNat) ∧ Below w.heap.size w w') ∨
  (∃ f : Int, (f = if okLens ls then 5 else 1) ∧ (okLens ls && wholeB ls) = false ∧ e = .returned (.tuple #[.pointer none, .int .i64 f]) ∧ w' = w)
theorem new_all (a : Option Addr) (len cap : Nat) (ls : List Int) (w : World) (hn : ls.length = len) (hl : len ≤ 140737488355328) (hr : IRow w a ls) :
    Calls Try.prog 10 #[.slice a len cap] w fun e w' => NewAll w ls e w' := by
  cases hk : okLens ls with
  | false => exact (new_arg a len cap ls w hn hl hr hk).mono fun e w' h => .inr ⟨1, by rw [hk]; rfl, by rw [hk]; rfl, h⟩
  | true => cases hw : wholeB ls with
    | false => exact (new_code a len cap ls w hn hl hr hk hw).mono fun e w' h => .inr ⟨5, by rw [hk]; rfl, by rw [hk, hw]; rfl, h⟩
    | true => exact (new_yes a len cap ls w hn hl hr hk hw).mono fun e w' ⟨c, h1, h2, h3, h4⟩ => .inl ⟨hk, hw, c, h1, h2, h3, h4⟩

theorem turn_split (v d : Nat) : ∀ k, turn v (d + k) = turn v d * 2 ^ k + turn (v / 2 ^ d) k
  | 0 => by simp [turn]
  | k + 1 => by
    rw [← Nat.add_assoc, turn, turn_split v d k, turn, Nat.pow_succ, Nat.div_div_eq_div_mul, ← Nat.pow_add, Nat.add_mul, Nat.mul_assoc, Nat.add_assoc]
/-- The first k bits of a word of n bits, the lowest first. -/
theorem turn_mod (v n k : Nat) (h : k ≤ n) : turn v n % 2 ^ k = turn (v / 2 ^ (n - k)) k := by
  have := turn_split v (n - k) k
  rw [Nat.sub_add_cancel h] at this
  rw [this, Nat.mul_comm, Nat.mul_add_mod, Nat.mod_eq_of_lt (turn_lt _ _)]
theorem turn_inj {v u : Nat} : ∀ {k : Nat}, v < 2 ^ k → u < 2 ^ k → turn v k = turn u k → v = u
  | 0, h1, h2, _ => by simp at h1 h2; omega
  | k + 1, h1, h2, h => by
    have e1 := turn_split v 1 k
    have e2 := turn_split u 1 k
    rw [Nat.add_comm 1 k] at e1 e2
    rw [e1, e2] at h
    have t1 : turn v 1 = v % 2 := by simp [turn]
    have t2 : turn u 1 = u % 2 := by simp [turn]
    rw [t1, t2, Nat.pow_one] at h
    have l1 := turn_lt (v / 2) k
    have l2 := turn_lt (u / 2) k
    have m1 : v % 2 = u % 2 := by
      rcases Nat.mod_two_eq_zero_or_one v with a | a <;> rcases Nat.mod_two_eq_zero_or_one u with b | b <;> rw [a, b] at h ⊢ <;> omega
    rw [m1] at h
    have m2 : turn (v / 2) k = turn (u / 2) k := by omega
    rw [Nat.pow_succ] at h1 h2
    have m3 := turn_inj (by omega) (by omega) m2
    omega
/-- Of two words the first bits are not the same, as many as the shorter one has. -/
theorem Cd.free {ns : List Nat} (h : Cd ns) {s t : Nat} (hne : s ≠ t) (k : Nat) (hk : k = min (hn ns s) (hn ns t)) (h0 : 0 < k) : turn (hv ns s) (hn ns s) % 2 ^ k ≠ turn (hv ns t) (hn ns t) % 2 ^ k := by
  intro e
  rw [turn_mod _ _ _ (by omega), turn_mod _ _ _ (by omega)] at e
  have hlt : ∀ s, k ≤ hn ns s → hv ns s / 2 ^ (hn ns s - k) < 2 ^ k := fun s hs => by
    rw [Nat.div_lt_iff_lt_mul (Nat.two_pow_pos _), ← Nat.pow_add, show k + (hn ns s - k) = hn ns s by omega]
    exact h.lt s
  have e2 := turn_inj (hlt s (by omega)) (hlt t (by omega)) e
  by_cases hle : hn ns s ≤ hn ns t
  · obtain rfl : k = hn ns s := by omega
    rw [Nat.sub_self, Nat.pow_zero, Nat.div_one] at e2
    exact h.apart (by omega) (by omega) hne hle e2.symm
  · obtain rfl : k = hn ns t := by omega
    rw [Nat.sub_self, Nat.pow_zero, Nat.div_one] at e2
    exact h.apart (by omega) (by omega) (fun e => hne e.symm) (by omega) e2
end Go.Proofs.Ytjellgkojmgmjaa
