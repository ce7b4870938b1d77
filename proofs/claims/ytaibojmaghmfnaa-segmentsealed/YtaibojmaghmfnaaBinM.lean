/- Plain facts on rows of bits: no program in it. -/
import Derived.Test.YtaibojmaghmfnaaWrM
namespace Go.Proofs.Ytaibojmaghmfnaa
open Go.RowKit

def binN : List Int → Int
  | [] => 0
  | x :: r => x + 2 * binN r
def Bit (l : List Int) : Prop := ∀ x ∈ l, 0 ≤ x ∧ x ≤ 1
theorem Bit.nil : Bit [] := by intro z hz; cases hz
theorem Bit.append {l m : List Int} (h : Bit l) (k : Bit m) : Bit (l ++ m) := fun z hz => by
  rcases List.mem_append.1 hz with q | q
  · exact h z q
  · exact k z q
theorem Bit.take {l : List Int} (h : Bit l) (k : Nat) : Bit (l.take k) := fun z hz => h z (List.mem_of_mem_take hz)
theorem Bit.drop {l : List Int} (h : Bit l) (k : Nat) : Bit (l.drop k) := fun z hz => h z (List.mem_of_mem_drop hz)
theorem Bit.at {l : List Int} (h : Bit l) (k : Nat) : 0 ≤ l[k]?.getD 0 ∧ l[k]?.getD 0 ≤ 1 := by
  by_cases hk : k < l.length
  · rw [List.getElem?_eq_getElem hk]; exact h _ (List.getElem_mem hk)
  · rw [List.getElem?_eq_none (by omega)]; simp
theorem binN_append (l m : List Int) : binN (l ++ m) = binN l + 2 ^ l.length * binN m := by
  induction l with
  | nil => simp [binN]
  | cons z r ih => simp only [List.cons_append, binN, ih, List.length_cons, Int.pow_succ]; rw [Int.mul_add, Int.mul_comm (2 ^ r.length) 2, Int.mul_assoc]; omega
theorem binN_bound {l : List Int} (h : Bit l) : 0 ≤ binN l ∧ binN l < 2 ^ l.length := by
  induction l with
  | nil => simp [binN]
  | cons y r ih =>
    have hy := h y (by simp)
    have hr := ih (fun z hz => h z (by simp [hz]))
    simp only [binN, List.length_cons, Int.pow_succ]
    omega
theorem binN_drop (l : List Int) (j : Nat) (hj : j < l.length) : binN (l.drop j) = l[j]?.getD 0 + 2 * binN (l.drop (j + 1)) := by
  rw [List.drop_eq_getElem_cons hj, binN, List.getElem?_eq_getElem hj]; rfl
def lowL (v : Int) (m : Nat) : List Int := (List.range m).map fun i => v / 2 ^ i % 2
theorem lowL_len (v : Int) (m : Nat) : (lowL v m).length = m := by simp [lowL]
theorem lowL_snoc (v : Int) (m : Nat) : lowL v (m + 1) = lowL v m ++ [v / 2 ^ m % 2] := by simp [lowL, List.range_succ]
theorem lowL_bit (v : Int) (m : Nat) : Bit (lowL v m) := by
  intro z hz
  simp only [lowL, List.mem_map] at hz
  obtain ⟨i, _, rfl⟩ := hz
  omega
theorem binN_lowL (v : Int) (m : Nat) : binN (lowL v m) = v % 2 ^ m := by
  induction m with
  | zero => simp [lowL, binN]
  | succ m ih =>
    rw [lowL_snoc, binN_append, ih, lowL_len, emod_split v m 1]
    simp only [binN, Int.mul_zero, Int.add_zero]
    rw [show (2 : Int) ^ 1 = 2 from rfl, Int.mul_comm (2 ^ m)]
def chunkL (l : List Int) (k : Nat) : List Int := (List.range k).map fun j => binN ((l.drop (8 * j)).take 8)
theorem chunkL_snoc (l : List Int) (k : Nat) : chunkL l (k + 1) = chunkL l k ++ [binN ((l.drop (8 * k)).take 8)] := by simp [chunkL, List.range_succ]
theorem chunkL_len (l : List Int) (k : Nat) : (chunkL l k).length = k := by simp [chunkL]
theorem chunk_byte {l : List Int} (h : Bit l) (j : Nat) : 0 ≤ binN ((l.drop (8 * j)).take 8) ∧ binN ((l.drop (8 * j)).take 8) < 256 := by
  have hb := binN_bound ((h.drop (8 * j)).take 8)
  have h8 : (2 : Int) ^ ((l.drop (8 * j)).take 8).length ≤ 2 ^ 8 := pow_le_of _ _ (by simp; omega)
  have : (2 : Int) ^ 8 = 256 := by decide
  omega
theorem chunkL_bytes {l : List Int} (h : Bit l) (k : Nat) : Bytes (chunkL l k) := by
  intro z hz
  simp only [chunkL, List.mem_map] at hz
  obtain ⟨j, _, rfl⟩ := hz
  exact chunk_byte h j
theorem litN_chunk (l : List Int) (k : Nat) (hk : 8 * k ≤ l.length + 7) : litN (chunkL l k) = binN (l.take (8 * k)) := by
  induction k with
  | zero => simp [chunkL, litN, binN]
  | succ k ih =>
    rw [chunkL_snoc, litN_snoc, ih (by omega), chunkL_len]
    have e : l.take (8 * (k + 1)) = l.take (8 * k) ++ (l.drop (8 * k)).take 8 := by
      rw [show 8 * (k + 1) = 8 * k + 8 by omega, List.take_add]
    rw [e, binN_append, List.length_take, Nat.min_eq_left (by omega), pow_256_two, Int.mul_comm]
theorem litN_inj : ∀ {zs ys : List Int}, Bytes zs → Bytes ys → zs.length = ys.length → litN zs = litN ys → zs = ys
  | [], [], _, _, _, _ => rfl
  | x :: r, y :: s, h1, h2, hl, he => by
    have hx := h1 x (by simp)
    have hy := h2 y (by simp)
    simp only [litN] at he
    have e1 : x = y := by omega
    have e2 : litN r = litN s := by omega
    rw [e1, litN_inj (fun z hz => h1 z (by simp [hz])) (fun z hz => h2 z (by simp [hz])) (by simpa using hl) e2]
end Go.Proofs.Ytaibojmaghmfnaa
