/- Plain facts on numbers made of bytes: the highest first ('bigN'), the lowest first ('litN'); no program in it. -/
import Derived.WalkKit
namespace Go.Proofs.Ytaibojmaghmfnaa
open Go.RowKit

def bigN (zs : List Int) : Int := zs.foldl (fun v x => v * 256 + x) 0
def litN : List Int → Int
  | [] => 0
  | x :: r => x + 256 * litN r
def Bytes (zs : List Int) : Prop := ∀ z ∈ zs, 0 ≤ z ∧ z < 256

theorem bigN_nil : bigN [] = 0 := rfl
theorem bigN_snoc (l : List Int) (x : Int) : bigN (l ++ [x]) = bigN l * 256 + x := by simp [bigN, List.foldl_append]
theorem litN_snoc (l : List Int) (x : Int) : litN (l ++ [x]) = litN l + x * 256 ^ l.length := by
  induction l with
  | nil => simp [litN]
  | cons y r ih => simp only [List.cons_append, litN, ih, List.length_cons]; rw [Int.pow_succ]; rw [Int.mul_add, ← Int.add_assoc, Int.mul_comm (256 ^ r.length) 256, ← Int.mul_assoc 256, ← Int.mul_assoc x, Int.mul_comm x 256]
theorem bigN_reverse (l : List Int) : bigN l.reverse = litN l := by
  induction l with
  | nil => rfl
  | cons y r ih => rw [List.reverse_cons, bigN_snoc, ih, litN]; omega
theorem litN_reverse (l : List Int) : litN l.reverse = bigN l := by rw [← bigN_reverse, List.reverse_reverse]

theorem Bytes.nil : Bytes [] := by intro z hz; cases hz
theorem Bytes.take {l : List Int} (h : Bytes l) (k : Nat) : Bytes (l.take k) := fun z hz => h z (List.mem_of_mem_take hz)
theorem Bytes.drop {l : List Int} (h : Bytes l) (k : Nat) : Bytes (l.drop k) := fun z hz => h z (List.mem_of_mem_drop hz)
theorem Bytes.reverse {l : List Int} (h : Bytes l) : Bytes l.reverse := fun z hz => h z (by simpa using hz)
theorem Bytes.append {l m : List Int} (h : Bytes l) (k : Bytes m) : Bytes (l ++ m) := fun z hz => by
  rcases List.mem_append.1 hz with q | q
  · exact h z q
  · exact k z q
theorem Bytes.at {l : List Int} (h : Bytes l) (k : Nat) : 0 ≤ l[k]?.getD 0 ∧ l[k]?.getD 0 < 256 := by
  by_cases hk : k < l.length
  · rw [List.getElem?_eq_getElem hk]; exact h _ (List.getElem_mem hk)
  · rw [List.getElem?_eq_none (by omega)]; simp
theorem take_snoc (l : List Int) (k : Nat) (hk : k < l.length) : l.take (k + 1) = l.take k ++ [l[k]?.getD 0] := by
  rw [List.take_succ_eq_append_getElem hk, List.getElem?_eq_getElem hk]; rfl
theorem pow_256_pos (n : Nat) : (0 : Int) < 256 ^ n := Int.pow_pos (by omega)
theorem litN_bound {l : List Int} (h : Bytes l) : 0 ≤ litN l ∧ litN l < 256 ^ l.length := by
  induction l with
  | nil => simp [litN]
  | cons y r ih =>
    have hy := h y (by simp)
    have hr := ih (fun z hz => h z (by simp [hz]))
    simp only [litN, List.length_cons, Int.pow_succ]
    omega
theorem bigN_bound {l : List Int} (h : Bytes l) : 0 ≤ bigN l ∧ bigN l < 256 ^ l.length := by
  have := litN_bound h.reverse
  rwa [litN_reverse, List.length_reverse] at this
theorem pow_le_4 {n : Nat} (h : n ≤ 4) : (256 : Int) ^ n ≤ 4294967296 := by
  match n, h with
  | 0, _ => decide
  | 1, _ => decide
  | 2, _ => decide
  | 3, _ => decide
  | 4, _ => decide
theorem bigN_le {l : List Int} (h : Bytes l) (h4 : l.length ≤ 4) : 0 ≤ bigN l ∧ bigN l < 4294967296 := by
  have a := bigN_bound h; have b := pow_le_4 h4; omega
theorem litN_le {l : List Int} (h : Bytes l) (h4 : l.length ≤ 4) : 0 ≤ litN l ∧ litN l < 4294967296 := by
  have a := litN_bound h; have b := pow_le_4 h4; omega
theorem big_lt {l : List Int} (h : Bytes l) (h3 : l.length ≤ 3) : bigN l < 16777216 := by
  have a := bigN_bound h
  have : (256 : Int) ^ l.length ≤ 16777216 := by
    match l.length, h3 with
    | 0, _ => decide
    | 1, _ => decide
    | 2, _ => decide
    | 3, _ => decide
  omega

/-- 'v<<8 | x', v of fewer than 56 bits, x a byte. -/
theorem or_step (v x : Int) (h0 : 0 ≤ v) (h1 : v < 72057594037927936) (h2 : 0 ≤ x) (h3 : x < 256) : bits .or .u64 (v * 256) x = v * 256 + x := by
  rw [u64_or _ _ (by omega) (by omega) h2 (by omega)]
  rw [nat_join 8 _ _ (by omega) (by omega)]
  omega

theorem or_gen (L x : Int) (i P : Nat) (hP : P = 2 ^ i) (h0 : 0 ≤ L) (h1 : L < P) (h2 : 0 ≤ x) (h3 : x * P < 18446744073709551616) (h4 : (P : Int) < 18446744073709551616) : bits .or .u64 L (IntKind.u64.wrap (x * P)) = L + x * P := by
  have hx : 0 ≤ x * (P : Int) := Int.mul_nonneg h2 (by omega)
  rw [IntKind.wrap_u64, Int.emod_eq_of_lt hx h3]
  rw [u64_or _ _ h0 (by omega) hx h3, Nat.or_comm]
  have e : (x * (P : Int)).toNat = x.toNat * P := by rw [Int.toNat_mul h2 (by omega)]; simp
  rw [nat_join i _ _ (by rw [e, hP]; exact Nat.mul_mod_left _ _) (by omega)]
  omega
theorem pow_256 (k : Nat) : (256 : Int) ^ k = ((2 ^ (8 * k) : Nat) : Int) := by
  rw [show (256 : Int) = ((2 ^ 8 : Nat) : Int) from rfl, ← Int.natCast_pow, ← Nat.pow_mul]
/-- 'v |= x << (8 * k)', v of fewer than 8 k bits, x a byte, k at most 7. -/
theorem or_at (L x : Int) (k : Nat) (hk : k ≤ 7) (h0 : 0 ≤ L) (h1 : L < 256 ^ k) (h2 : 0 ≤ x) (h3 : x < 256) : bits .or .u64 L (IntKind.u64.wrap (x * 2 ^ (8 * k))) = L + x * 256 ^ k := by
  have hp : (256 : Int) ^ k ≤ 72057594037927936 := by
    match k, hk with
    | 0, _ => decide
    | 1, _ => decide
    | 2, _ => decide
    | 3, _ => decide
    | 4, _ => decide
    | 5, _ => decide
    | 6, _ => decide
    | 7, _ => decide
  have e : (2 : Int) ^ (8 * k) = ((2 ^ (8 * k) : Nat) : Int) := by rw [Int.natCast_pow]; rfl
  have hq := pow_256 k
  have hm : x * 256 ^ k ≤ 255 * 256 ^ k := Int.mul_le_mul_of_nonneg_right (by omega) (by have := pow_256_pos k; omega)
  rw [e, hq]
  exact or_gen L x (8 * k) _ rfl h0 (by rw [← hq]; exact h1) h2 (by rw [← hq]; omega) (by rw [← hq]; omega)
end Go.Proofs.Ytaibojmaghmfnaa
