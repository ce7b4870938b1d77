/- Plain facts on the bits of bytes: no program in it. -/
import Derived.Test.YtaibojmaghmfnaaBinM
namespace Go.Proofs.Ytaibojmaghmfnaa
open Go.RowKit

def bitsL (zs : List Int) : List Int := zs.flatMap fun z => lowL z 8
theorem bitsL_nil : bitsL [] = [] := rfl
theorem bitsL_cons (z : Int) (r : List Int) : bitsL (z :: r) = lowL z 8 ++ bitsL r := by simp [bitsL]
theorem bitsL_append (l m : List Int) : bitsL (l ++ m) = bitsL l ++ bitsL m := by simp [bitsL]
theorem bitsL_len (zs : List Int) : (bitsL zs).length = 8 * zs.length := by
  induction zs with
  | nil => rfl
  | cons z r ih => rw [bitsL_cons, List.length_append, lowL_len, ih, List.length_cons]; omega
theorem bitsL_bit (zs : List Int) : Bit (bitsL zs) := by
  induction zs with
  | nil => exact Bit.nil
  | cons z r ih => rw [bitsL_cons]; exact (lowL_bit z 8).append ih
theorem bitsL_drop (k : Nat) (zs : List Int) : (bitsL zs).drop (8 * k) = bitsL (zs.drop k) := by
  induction k generalizing zs with
  | zero => rfl
  | succ k ih =>
    cases zs with
    | nil => simp [bitsL]
    | cons z r =>
      rw [bitsL_cons, List.drop_append, lowL_len, List.drop_of_length_le (by rw [lowL_len]; omega), show 8 * (k + 1) - 8 = 8 * k by omega, ih]
      rfl
theorem binN_bitsL {zs : List Int} (h : Bytes zs) : binN (bitsL zs) = litN zs := by
  induction zs with
  | nil => rfl
  | cons z r ih =>
    have hz := h z (by simp)
    rw [bitsL_cons, binN_append, binN_lowL, lowL_len, ih (fun y hy => h y (by simp [hy]))]
    simp only [litN]
    rw [show (2 : Int) ^ 8 = 256 by decide]
    omega
theorem binN_split {l : List Int} (k : Nat) (hk : k ≤ l.length) : binN l = binN (l.take k) + 2 ^ k * binN (l.drop k) := by
  have := binN_append (l.take k) (l.drop k)
  rw [List.take_append_drop, List.length_take, Nat.min_eq_left hk] at this
  exact this
theorem binN_dropn {l : List Int} (h : Bit l) (k : Nat) (hk : k ≤ l.length) : binN (l.drop k) = binN l / 2 ^ k := by
  have hb := binN_bound (h.take k)
  rw [List.length_take, Nat.min_eq_left hk] at hb
  rw [binN_split k hk, Int.add_mul_ediv_left _ _ (by have := two_pos k; omega), Int.ediv_eq_zero_of_lt hb.1 hb.2, Int.zero_add]
theorem binN_taken {l : List Int} (h : Bit l) (k : Nat) (hk : k ≤ l.length) : binN (l.take k) = binN l % 2 ^ k := by
  have hb := binN_bound (h.take k)
  rw [List.length_take, Nat.min_eq_left hk] at hb
  rw [binN_split (l := l) k hk, Int.add_mul_emod_self_left, Int.emod_eq_of_lt hb.1 hb.2]
theorem bit_at {l : List Int} (h : Bit l) (k : Nat) (hk : k < l.length) : l[k]?.getD 0 = binN l / 2 ^ k % 2 := by
  rw [← binN_dropn h k (by omega), binN_drop l k hk]
  have := h.at k
  omega

/-- The program's reader (bytes zs, gone bits of the first) and the document's (bits L, at of them gone) hold the same. -/
structure RI (zs : List Int) (gone : Nat) (L : List Int) (at' : Nat) : Prop where
  byt : Bytes zs
  bit : Bit L
  le : at' ≤ L.length
  m8 : L.length % 8 = 0
  gn : gone = at' % 8
  eq : L.drop at' = (bitsL zs).drop gone
theorem RI.nil : RI [] 0 [] 0 := ⟨Bytes.nil, Bit.nil, Nat.le_refl _, rfl, rfl, rfl⟩
theorem RI.len {zs L : List Int} {gone a : Nat} (h : RI zs gone L a) : a + 8 * zs.length = L.length + gone ∧ gone ≤ 8 * zs.length ∧ gone < 8 := by
  have h1 := congrArg List.length h.eq
  rw [List.length_drop, List.length_drop, bitsL_len] at h1
  have := h.le
  have := h.m8
  have := h.gn
  omega
theorem RI.rest {zs L : List Int} {gone a : Nat} (h : RI zs gone L a) : binN (L.drop a) = bitV zs gone := by
  rw [h.eq, binN_dropn (bitsL_bit zs) gone (by rw [bitsL_len]; exact h.len.2.1), binN_bitsL h.byt]
  rfl
theorem RI.look {zs L : List Int} {gone a : Nat} (h : RI zs gone L a) (i : Nat) (hi : gone + i < 8 * zs.length) : L[a + i]?.getD 0 = bitV zs gone / 2 ^ i % 2 := by
  have hl := h.len
  rw [← h.rest, ← bit_at (h.bit.drop a) i (by rw [List.length_drop]; omega), List.getElem?_drop]
theorem RI.val {zs L : List Int} {gone a : Nat} (h : RI zs gone L a) (n : Nat) (hn : gone + n ≤ 8 * zs.length) : binN ((L.drop a).take n) = bitV zs gone % 2 ^ n := by
  have hl := h.len
  rw [binN_taken (h.bit.drop a) n (by rw [List.length_drop]; omega), h.rest]
theorem RI.pass {zs L : List Int} {gone a : Nat} (h : RI zs gone L a) (n : Nat) (hn : gone + n ≤ 8 * zs.length) : RI (zs.drop ((gone + n) / 8)) ((gone + n) % 8) L (a + n) := by
  have hl := h.len
  refine ⟨h.byt.drop _, h.bit, by omega, h.m8, by have := h.gn; omega, ?_⟩
  rw [← bitsL_drop, List.drop_drop, ← List.drop_drop (i := n) (j := a), h.eq, List.drop_drop]
  congr 1
  omega
theorem RI.feed {zs L : List Int} {gone a : Nat} (h : RI zs gone L a) {bs : List Int} (hb : Bytes bs) : RI (zs ++ bs) gone (L ++ bitsL bs) a := by
  have hl := h.len
  refine ⟨h.byt.append hb, h.bit.append (bitsL_bit bs), ?_, ?_, h.gn, ?_⟩
  · rw [List.length_append]; have := h.le; omega
  · rw [List.length_append, bitsL_len]; have := h.m8; omega
  · rw [bitsL_append, List.drop_append_of_le_length h.le, List.drop_append_of_le_length (by rw [bitsL_len]; exact hl.2.1), h.eq]
theorem RI.whole {zs L : List Int} {a : Nat} (h : RI zs 0 L a) (m : Nat) (hm : m ≤ zs.length) : RI (zs.drop m) 0 L (a + 8 * m) := by
  have := h.pass (8 * m) (by omega)
  rw [show (0 + 8 * m) / 8 = m by omega, show (0 + 8 * m) % 8 = 0 by omega] at this
  exact this
theorem RI.byte {zs L : List Int} {a : Nat} (h : RI zs 0 L a) (m : Nat) (hm : m < zs.length) : binN ((L.drop (a + 8 * m)).take 8) = zs[m]?.getD 0 := by
  have h1 := h.whole m (by omega)
  have hb := h.byt.at m
  rw [h1.val 8 (by rw [List.length_drop]; omega), bitV_low (h.byt.drop m) 0 8 (by omega), List.getElem?_drop, Nat.add_zero]
  rw [show (2 : Int) ^ 8 = 256 by decide, show (2 : Int) ^ 0 = 1 by decide]
  omega
end Go.Proofs.Ytaibojmaghmfnaa
