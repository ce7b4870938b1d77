/- Samples as bits, and bits as bytes: what the document packs is what the program packs. -/
import Derived.Test.YtbjoalgglmalnaaDoorPxC
namespace Go.Proofs.YtbjoalgglmalnaaDoor
open Go.RowKit
/-- A number's bits, the highest one first. -/
def bitsV (d : Nat) (v : Int) : List Int := (List.range d).map fun k => v / 2 ^ (d - 1 - k) % 2
def bitL (d : Nat) (s : List Int) : List Int := s.flatMap (bitsV d)
/-- Eight bits as a byte. -/
def f8 (l : List Int) (j : Nat) : Int := l[8 * j]?.getD 0 * 128 + l[8 * j + 1]?.getD 0 * 64 + l[8 * j + 2]?.getD 0 * 32 + l[8 * j + 3]?.getD 0 * 16 + l[8 * j + 4]?.getD 0 * 8 + l[8 * j + 5]?.getD 0 * 4 + l[8 * j + 6]?.getD 0 * 2 + l[8 * j + 7]?.getD 0
theorem bitsV_len (d : Nat) (v : Int) : (bitsV d v).length = d := by simp [bitsV]
theorem bitsV_at (d : Nat) (v : Int) (k : Nat) : (bitsV d v)[k]?.getD 0 = if k < d then v / 2 ^ (d - 1 - k) % 2 else 0 := by
  unfold bitsV
  by_cases h : k < d
  · simp [h]
  · rw [if_neg h, List.getElem?_eq_none (by simp; omega)]; rfl
theorem bitL_len (d : Nat) (s : List Int) : (bitL d s).length = s.length * d := by
  induction s with
  | nil => simp [bitL]
  | cons a s ih => unfold bitL at ih ⊢; rw [List.flatMap_cons, List.length_append, ih, bitsV_len, List.length_cons, Nat.add_mul]; omega
theorem bitL_app (d : Nat) (s t : List Int) : bitL d (s ++ t) = bitL d s ++ bitL d t := by simp [bitL]
theorem bitL_one (d : Nat) (v : Int) : bitL d [v] = bitsV d v := by simp [bitL]
theorem app_at (l c : List Int) (p : Nat) : (l ++ c)[p]?.getD 0 = if p < l.length then l[p]?.getD 0 else c[p - l.length]?.getD 0 := by
  by_cases h : p < l.length
  · rw [if_pos h, List.getElem?_append_left h]
  · rw [if_neg h, List.getElem?_append_right (by omega)]
theorem out_at (l : List Int) (p : Nat) (h : l.length ≤ p) : l[p]?.getD 0 = 0 := by rw [List.getElem?_eq_none h]; rfl
theorem f8_far (l c : List Int) (j : Nat) (h : 8 * j + 8 ≤ l.length ∨ l.length + c.length ≤ 8 * j) : f8 (l ++ c) j = f8 l j := by
  have e : ∀ k, k < 8 → (l ++ c)[8 * j + k]?.getD 0 = l[8 * j + k]?.getD 0 := fun k hk => by
    rw [app_at]
    split
    · rfl
    · rw [out_at c _ (by omega), out_at l _ (by omega)]
  unfold f8
  rw [e 1 (by omega), e 2 (by omega), e 3 (by omega), e 4 (by omega), e 5 (by omega), e 6 (by omega), e 7 (by omega)]
  have := e 0 (by omega)
  rw [Nat.add_zero] at this
  rw [this]
theorem f8_near (d : Nat) (l : List Int) (v : Int) (A o : Nat) (hd : d = 1 ∨ d = 2 ∨ d = 4 ∨ d = 8) (hl : l.length = 8 * A + o) (hod : o % d = 0) (ho8 : o + d ≤ 8) (hv : 0 ≤ v) (hv2 : v < 2 ^ d) : f8 (l ++ bitsV d v) A = f8 l A + v * 2 ^ (8 - d - o) := by
  have e : ∀ k, (l ++ bitsV d v)[8 * A + k]?.getD 0 = if k < o then l[8 * A + k]?.getD 0 else if k - o < d then v / 2 ^ (d - 1 - (k - o)) % 2 else 0 := fun k => by
    rw [app_at, hl, bitsV_at]
    by_cases h : k < o
    · rw [if_pos (by omega), if_pos h]
    · rw [if_neg (by omega), if_neg h, show 8 * A + k - (8 * A + o) = k - o by omega]
  have z : ∀ k, o ≤ k → l[8 * A + k]?.getD 0 = 0 := fun k hk => out_at l _ (by omega)
  have e0 := e 0
  have z0 := z 0
  rw [Nat.add_zero] at e0 z0
  unfold f8
  rw [e0, e 1, e 2, e 3, e 4, e 5, e 6, e 7]
  have z1 := z 1
  have z2 := z 2
  have z3 := z 3
  have z4 := z 4
  have z5 := z 5
  have z6 := z 6
  have z7 := z 7
  clear e e0 z hl
  generalize l[8 * A]?.getD 0 = y0 at *
  generalize l[8 * A + 1]?.getD 0 = y1 at *
  generalize l[8 * A + 2]?.getD 0 = y2 at *
  generalize l[8 * A + 3]?.getD 0 = y3 at *
  generalize l[8 * A + 4]?.getD 0 = y4 at *
  generalize l[8 * A + 5]?.getD 0 = y5 at *
  generalize l[8 * A + 6]?.getD 0 = y6 at *
  generalize l[8 * A + 7]?.getD 0 = y7 at *
  have cs : (d = 1 ∧ (o = 0 ∨ o = 1 ∨ o = 2 ∨ o = 3 ∨ o = 4 ∨ o = 5 ∨ o = 6 ∨ o = 7)) ∨ (d = 2 ∧ (o = 0 ∨ o = 2 ∨ o = 4 ∨ o = 6)) ∨ (d = 4 ∧ (o = 0 ∨ o = 4)) ∨ (d = 8 ∧ o = 0) := by
    rcases hd with rfl | rfl | rfl | rfl <;> omega
  rcases cs with ⟨rfl, q⟩ | ⟨rfl, q⟩ | ⟨rfl, q⟩ | ⟨rfl, rfl⟩
  · rcases q with rfl | rfl | rfl | rfl | rfl | rfl | rfl | rfl <;> simp at * <;> omega
  · rcases q with rfl | rfl | rfl | rfl <;> simp at * <;> omega
  · rcases q with rfl | rfl <;> simp at * <;> omega
  · simp at *; omega
theorem f8_high (l : List Int) (v : Int) (A : Nat) (hl : l.length = 8 * A) (hv : 0 ≤ v) (hv2 : v < 65536) : f8 (l ++ bitsV 16 v) A = v / 256 ∧ f8 (l ++ bitsV 16 v) (A + 1) = v % 256 := by
  have e : ∀ k, (l ++ bitsV 16 v)[8 * A + k]?.getD 0 = if k < 16 then v / 2 ^ (16 - 1 - k) % 2 else 0 := fun k => by
    rw [app_at, hl, bitsV_at, if_neg (by omega), show 8 * A + k - 8 * A = k by omega]
  have e0 := e 0
  rw [Nat.add_zero] at e0
  constructor
  · unfold f8
    rw [e0, e 1, e 2, e 3, e 4, e 5, e 6, e 7]
    clear e e0
    simp
    omega
  · unfold f8
    rw [show 8 * (A + 1) = 8 * A + 8 by omega]
    simp only [Nat.add_assoc, Nat.reduceAdd]
    rw [e 8, e 9, e 10, e 11, e 12, e 13, e 14, e 15]
    clear e e0
    simp
    omega
theorem f8_nil (j : Nat) : f8 [] j = 0 := by simp [f8]
theorem pk_bits {d : Nat} {s : List Int} (hd : isDp d) (hs : allB (2 ^ d) s) : ∀ i, i ≤ s.length → ∀ j, j < pkM d s.length → (pkP d s (pkM d s.length) i)[j]?.getD 0 = f8 (bitL d (s.take i)) j := by
  intro i
  induction i with
  | zero =>
    intro _ j hj
    simp [pkP, bitL, f8_nil, hj]
  | succ i ih =>
    intro hi j hj
    have ih := ih (by omega)
    have hlt : i < s.length := by omega
    have hv : 0 ≤ s[i]?.getD 0 ∧ s[i]?.getD 0 < 2 ^ d := by rw [List.getElem?_eq_getElem hlt]; exact hs _ (List.getElem_mem hlt)
    have et : s.take (i + 1) = s.take i ++ [s[i]?.getD 0] := by rw [List.take_add_one, List.getElem?_eq_getElem hlt]; rfl
    rw [et, bitL_app, bitL_one, pkP]
    have hl := pkP_len d s (pkM d s.length) i
    have hbl : (bitL d (s.take i)).length = i * d := by rw [bitL_len, List.length_take, Nat.min_eq_left (by omega)]
    generalize s[i]?.getD 0 = v at *
    generalize bitL d (s.take i) = l at *
    generalize pkP d s (pkM d s.length) i = B at *
    have hid : i * d + d ≤ s.length * d := by
      have := Nat.mul_le_mul_right d (show i + 1 ≤ s.length by omega)
      rw [Nat.add_mul] at this; omega
    unfold isDp at hd
    unfold putL
    by_cases e : d = 16
    · subst e
      rw [if_pos rfl]
      have hm : 2 * i + 1 < pkM 16 s.length := by unfold pkM; omega
      rw [set_at _ _ _ (by rw [List.length_set, hl]; exact hm), set_at _ _ _ (by rw [hl]; omega)]
      have hh := f8_high l v (2 * i) (by omega) hv.1 (by simpa using hv.2)
      by_cases e1 : j = 2 * i + 1
      · rw [if_pos e1, e1, hh.2]
      · rw [if_neg e1]
        by_cases e2 : j = 2 * i
        · rw [if_pos e2, e2, hh.1]
        · rw [if_neg e2, ih j hj, f8_far _ _ _ (by rw [bitsV_len, hbl]; omega)]
    · have hd8 : d = 1 ∨ d = 2 ∨ d = 4 ∨ d = 8 := by omega
      rw [if_neg e]
      obtain ⟨A, hA⟩ : ∃ A, i * d / 8 = A := ⟨_, rfl⟩
      obtain ⟨o, ho⟩ : ∃ o, i * d % 8 = o := ⟨_, rfl⟩
      have hq : i * d = 8 * A + o := by omega
      have hod : o % d = 0 ∧ o + d ≤ 8 := by rcases hd8 with rfl | rfl | rfl | rfl <;> omega
      have hAm : A < pkM d s.length := by unfold pkM; omega
      rw [hA, ho, set_at _ _ _ (by rw [hl]; exact hAm)]
      by_cases e1 : j = A
      · subst e1
        rw [if_pos rfl, ih j hj, f8_near d l v j o hd8 (by omega) hod.1 hod.2 hv.1 hv.2]
      · rw [if_neg e1, ih j hj, f8_far _ _ _ (by rw [bitsV_len, hbl]; omega)]
/-- What the document packs: byte by byte out of the row of bits. -/
def rpL (l : List Int) : List Int := (List.range ((l.length + 7) / 8)).map (f8 l)
theorem pkL_rpL {d : Nat} {s : List Int} (hd : isDp d) (hs : allB (2 ^ d) s) : pkL d s = rpL (bitL d s) := by
  have hl : (pkL d s).length = (rpL (bitL d s)).length := by unfold pkL rpL; rw [pkP_len, List.length_map, List.length_range, bitL_len]; rfl
  refine List.ext_getElem hl fun j h1 h2 => ?_
  have hj : j < pkM d s.length := by unfold pkL at h1; rwa [pkP_len] at h1
  have := pk_bits hd hs s.length (Nat.le_refl _) j hj
  rw [List.take_length] at this
  unfold pkL at h1 ⊢
  rw [List.getElem?_eq_getElem h1, Option.getD_some] at this
  rw [this]
  simp [rpL]
end Go.Proofs.YtbjoalgglmalnaaDoor
