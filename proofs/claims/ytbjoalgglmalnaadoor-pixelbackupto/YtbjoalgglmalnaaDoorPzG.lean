/- What is packed is got as it was. -/
import Derived.Test.YtbjoalgglmalnaaDoorPzD
namespace Go.Proofs.YtbjoalgglmalnaaDoor
open Go.RowKit
theorem bitL_bit (d : Nat) (s : List Int) (p : Nat) : (bitL d s)[p]?.getD 0 = 0 ∨ (bitL d s)[p]?.getD 0 = 1 := by
  by_cases h : p < (bitL d s).length
  · rw [List.getElem?_eq_getElem h, Option.getD_some]
    have hm := List.getElem_mem h
    generalize (bitL d s)[p] = x at hm
    unfold bitL bitsV at hm
    simp only [List.mem_flatMap, List.mem_map] at hm
    obtain ⟨v, _, k, _, rfl⟩ := hm
    omega
  · rw [out_at _ _ (by omega)]; exact .inl rfl
theorem f8_bit (l : List Int) (hl : ∀ p : Nat, l[p]?.getD 0 = 0 ∨ l[p]?.getD 0 = 1) (j r : Nat) (hr : r < 8) : f8 l j / 2 ^ (7 - r) % 2 = l[8 * j + r]?.getD 0 := by
  have hb : ∀ p : Nat, 0 ≤ l[p]?.getD 0 ∧ l[p]?.getD 0 ≤ 1 := fun p => by rcases hl p with h | h <;> rw [h] <;> decide
  have h0 := hb (8 * j)
  have h1 := hb (8 * j + 1)
  have h2 := hb (8 * j + 2)
  have h3 := hb (8 * j + 3)
  have h4 := hb (8 * j + 4)
  have h5 := hb (8 * j + 5)
  have h6 := hb (8 * j + 6)
  have h7 := hb (8 * j + 7)
  clear hl hb
  unfold f8
  have hr2 : r = 0 ∨ r = 1 ∨ r = 2 ∨ r = 3 ∨ r = 4 ∨ r = 5 ∨ r = 6 ∨ r = 7 := by omega
  clear hr
  rcases hr2 with rfl | rfl | rfl | rfl | rfl | rfl | rfl | rfl <;> simp only [Nat.add_zero, Nat.reduceSub, Int.reducePow, Nat.sub_zero] <;> (
  generalize l[8 * j]?.getD 0 = y0 at *
  generalize l[8 * j + 1]?.getD 0 = y1 at *
  generalize l[8 * j + 2]?.getD 0 = y2 at *
  generalize l[8 * j + 3]?.getD 0 = y3 at *
  generalize l[8 * j + 4]?.getD 0 = y4 at *
  generalize l[8 * j + 5]?.getD 0 = y5 at *
  generalize l[8 * j + 6]?.getD 0 = y6 at *
  generalize l[8 * j + 7]?.getD 0 = y7 at *
  omega)
theorem rpL_at (l : List Int) (j : Nat) (h : 8 * j < l.length) : (rpL l)[j]?.getD 0 = f8 l j := by
  unfold rpL
  have hj : j < (l.length + 7) / 8 := by omega
  simp [hj]
theorem bitL_at (d : Nat) (s : List Int) (i t : Nat) (hi : i < s.length) (ht : t < d) : (bitL d s)[i * d + t]?.getD 0 = s[i]?.getD 0 / 2 ^ (d - 1 - t) % 2 := by
  have es : s = s.take i ++ ([s[i]?.getD 0] ++ s.drop (i + 1)) := by
    rw [List.getElem?_eq_getElem hi, Option.getD_some]
    simp
  have hl : (bitL d (s.take i)).length = i * d := by rw [bitL_len, List.length_take, Nat.min_eq_left (by omega)]
  have e2 : bitL d s = bitL d (s.take i) ++ (bitsV d (s[i]?.getD 0) ++ bitL d (s.drop (i + 1))) := by
    conv => lhs; rw [es]
    rw [bitL_app, bitL_app, bitL_one]
  rw [e2, app_at, if_neg (by omega), hl, app_at, bitsV_len, show i * d + t - i * d = t by omega, if_pos ht, bitsV_at, if_pos ht]
theorem rv_back {d : Nat} {s : List Int} (hd : isDp d) (hs : allB (2 ^ d) s) (more : List Int) (i : Nat) (hi : i < s.length) : ∀ t, t ≤ d → rvN (pkL d s ++ more) (i * d) t = s[i]?.getD 0 / 2 ^ (d - t) % 2 ^ t := by
  have hid : i * d + d ≤ s.length * d := by
    have := Nat.mul_le_mul_right d (show i + 1 ≤ s.length by omega)
    rw [Nat.add_mul] at this; omega
  have hb : ∀ k, k < s.length * d → bitAt (pkL d s ++ more) k = (bitL d s)[k]?.getD 0 := fun k hk => by
    unfold bitAt
    have hl : (pkL d s).length = (s.length * d + 7) / 8 := by unfold pkL; rw [pkP_len]; rfl
    rw [app_at, if_pos (by omega), pkL_rpL hd hs, rpL_at _ _ (by rw [bitL_len]; omega), f8_bit _ (bitL_bit d s) _ _ (by omega)]
    congr 2
    omega
  intro t
  induction t with
  | zero => intro _; simp [rvN, Int.emod_one]
  | succ t ih =>
    intro h
    rw [rvN, ih (by omega), hb _ (by omega), bitL_at d s i t hi (by omega), ← two_mod, show d - 1 - t = d - (t + 1) by omega, half_pow, show d - (t + 1) + 1 = d - t by omega]
theorem bits_byte (l : List Int) (hl : ∀ p : Nat, l[p]?.getD 0 = 0 ∨ l[p]?.getD 0 = 1) (j : Nat) : 0 ≤ f8 l j ∧ f8 l j < 256 := by
  have hl : ∀ p : Nat, 0 ≤ l[p]?.getD 0 ∧ l[p]?.getD 0 ≤ 1 := fun p => by rcases hl p with h | h <;> rw [h] <;> decide
  have h0 := hl (8 * j)
  have h1 := hl (8 * j + 1)
  have h2 := hl (8 * j + 2)
  have h3 := hl (8 * j + 3)
  have h4 := hl (8 * j + 4)
  have h5 := hl (8 * j + 5)
  have h6 := hl (8 * j + 6)
  have h7 := hl (8 * j + 7)
  unfold f8
  omega
theorem pkL_byte {d : Nat} {s : List Int} (hd : isDp d) (hs : allB (2 ^ d) s) : ∀ x ∈ pkL d s, 0 ≤ x ∧ x < 256 := by
  rw [pkL_rpL hd hs]
  intro x hx
  unfold rpL at hx
  obtain ⟨j, _, rfl⟩ := List.mem_map.mp hx
  exact bits_byte _ (bitL_bit d s) j
theorem get_back {d : Nat} {s : List Int} (hd : isDp d) (hs : allB (2 ^ d) s) (more : List Int) (hm : ∀ x ∈ more, 0 ≤ x ∧ x < 256) (i : Nat) (hi : i < s.length) : getN d i (pkL d s ++ more) = s[i]?.getD 0 := by
  have hd' : d = 1 ∨ d = 2 ∨ d = 4 ∨ d = 8 ∨ d = 16 := by unfold isDp at hd; omega
  have hB : ∀ j : Nat, 0 ≤ (pkL d s ++ more)[j]?.getD 0 ∧ (pkL d s ++ more)[j]?.getD 0 < 256 := fun j => by
    by_cases h : j < (pkL d s ++ more).length
    · rw [List.getElem?_eq_getElem h, Option.getD_some]
      rcases List.mem_append.mp (List.getElem_mem h) with q | q
      · exact pkL_byte hd hs _ q
      · exact hm _ q
    · rw [out_at _ _ (by omega)]; omega
  rw [← rv_get d hd' _ hB, rv_back hd hs more i hi d (Nat.le_refl _)]
  have hv := hs _ (List.getElem_mem hi)
  rw [List.getElem?_eq_getElem hi, Option.getD_some, Nat.sub_self]
  simp
  exact Int.emod_eq_of_lt hv.1 hv.2
end Go.Proofs.YtbjoalgglmalnaaDoor
