/- Joined: WrM BinM BitL Ia Im IvL Gd4. -/
import Derived.Test.YtloagniacjfkfaaGreatDoorQD
import Derived.Test.YtloagniacjfkfaaGreatDoorQE
import Derived.Test.YtloagniacjfkfaaGreatDoorQC
/- Plain facts on a row of bytes whose bits are put one behind the other: no program in it. -/
namespace Go.Proofs.YtloagniacjfkfaaGreatDoor
open Go.RowKit

theorem litN_append (l m : List Int) : litN (l ++ m) = litN l + 256 ^ l.length * litN m := by
  induction l with
  | nil => simp [litN]
  | cons z r ih => simp only [List.cons_append, litN, ih, List.length_cons, Int.pow_succ]; rw [Int.mul_add, Int.mul_comm (256 ^ r.length) 256, Int.mul_assoc]; omega
theorem litN_set {zs : List Int} (k : Nat) (y : Int) (hk : k < zs.length) : litN (zs.set k y) = litN zs + (y - zs[k]?.getD 0) * 256 ^ k := by
  induction zs generalizing k with
  | nil => simp at hk
  | cons z r ih =>
    cases k with
    | zero => simp [litN]; omega
    | succ k =>
      have hk' : k < r.length := by simpa using hk
      simp only [List.set_cons_succ, litN, List.getElem?_cons_succ, ih k hk', Int.pow_succ]
      rw [Int.mul_add, Int.mul_comm (256 ^ k) 256, ← Int.mul_assoc (y - _), Int.mul_comm (y - _) 256, Int.mul_assoc]
      omega
/-- The last byte of a row whose number has few bits. -/
theorem last_small {zs : List Int} (h : Bytes zs) (k used : Nat) (hl : zs.length = k + 1) (hw : litN zs < 2 ^ (8 * k + used)) : 0 ≤ zs[k]?.getD 0 ∧ zs[k]?.getD 0 < 2 ^ used := by
  have h1 := h.at k
  refine ⟨h1.1, ?_⟩
  have h2 := litN_mod h k
  have h3 : litN zs / 256 ^ k < 256 := by
    have := (litN_bound h).2
    rw [hl, Int.pow_succ] at this
    exact Int.ediv_lt_of_lt_mul (pow_256_pos k) (by rw [Int.mul_comm]; exact this)
  have h4 : 0 ≤ litN zs / 256 ^ k := Int.ediv_nonneg (litN_bound h).1 (by have := pow_256_pos k; omega)
  have h5 : litN zs / 256 ^ k < 2 ^ used := by
    refine Int.ediv_lt_of_lt_mul (pow_256_pos k) ?_
    rw [pow_256_two, Int.mul_comm, ← pow_add]; exact hw
  omega
theorem pow_le_of (a b : Nat) (h : a ≤ b) : (2 : Int) ^ a ≤ 2 ^ b := by
  have e : ∀ n : Nat, (2 : Int) ^ n = ((2 ^ n : Nat) : Int) := fun n => by rw [Int.natCast_pow]; rfl
  rw [e, e]
  have := Nat.pow_le_pow_right (show 0 < 2 by omega) h
  omega
/-- 'last |= byte(x << used)', last below 2^used, x of p bits, used + p at most 8. -/
theorem or_byte (L x : Int) (used p : Nat) (h0 : 0 ≤ L) (h1 : L < 2 ^ used) (h2 : 0 ≤ x) (h3 : x < 2 ^ p) (hp : used + p ≤ 8) : bits .or .u8 L (x * 2 ^ used) = L + x * 2 ^ used ∧ 0 ≤ x * 2 ^ used ∧ x * 2 ^ used < 256 ∧ L + x * 2 ^ used < 256 := by
  have e : (2 : Int) ^ used = ((2 ^ used : Nat) : Int) := by rw [Int.natCast_pow]; rfl
  have hu := two_pos used
  have hx0 : 0 ≤ x * 2 ^ used := Int.mul_nonneg h2 (by omega)
  have hx1 : x * 2 ^ used ≤ (2 ^ p - 1) * 2 ^ used := Int.mul_le_mul_of_nonneg_right (by omega) (by omega)
  have hx2 : (2 ^ p - 1) * 2 ^ used = 2 ^ (p + used) - (2 : Int) ^ used := by rw [pow_add, Int.sub_mul, Int.one_mul]
  have hx3 : (2 : Int) ^ (p + used) ≤ 2 ^ 8 := pow_le_of _ _ (by omega)
  have h8 : (2 : Int) ^ 8 = 256 := by decide
  refine ⟨?_, hx0, by omega, by omega⟩
  rw [u8_or _ _ h0 (by omega) hx0 (by omega), Nat.or_comm]
  have et : (x * 2 ^ used).toNat = x.toNat * 2 ^ used := by rw [e, Int.toNat_mul h2 (by omega), Int.toNat_natCast]
  rw [nat_join used _ _ (by rw [et]; exact Nat.mul_mod_left _ _) (by rw [e] at h1; omega)]
  omega
/-- One part that is put. -/
theorem put_step {zs : List Int} (hb : Bytes zs) (k used p : Nat) (x : Int) (hl : zs.length = k + 1) (hw : litN zs < 2 ^ (8 * k + used)) (h2 : 0 ≤ x) (h3 : x < 2 ^ p) (hp : used + p ≤ 8) :
    litN (zs.set k (zs[k]?.getD 0 + x * 2 ^ used)) = litN zs + x * 2 ^ (8 * k + used) ∧ Bytes (zs.set k (zs[k]?.getD 0 + x * 2 ^ used)) ∧ litN (zs.set k (zs[k]?.getD 0 + x * 2 ^ used)) < 2 ^ (8 * k + used + p) := by
  have hL := last_small hb k used hl hw
  have ho := or_byte _ x used p hL.1 hL.2 h2 h3 hp
  have e1 : litN (zs.set k (zs[k]?.getD 0 + x * 2 ^ used)) = litN zs + x * 2 ^ (8 * k + used) := by
    rw [litN_set k _ (by omega), pow_256_two, show zs[k]?.getD 0 + x * 2 ^ used - zs[k]?.getD 0 = x * 2 ^ used by omega, Int.mul_assoc, ← pow_add, Nat.add_comm used]
  refine ⟨e1, fun z hz => ?_, ?_⟩
  · rcases List.mem_or_eq_of_mem_set hz with h | h
    · exact hb z h
    · rw [h]; omega
  · rw [e1, pow_add (8 * k + used) p]
    have : x * 2 ^ (8 * k + used) ≤ (2 ^ p - 1) * 2 ^ (8 * k + used) := Int.mul_le_mul_of_nonneg_right (by omega) (by have := two_pos (8 * k + used); omega)
    rw [Int.sub_mul, Int.one_mul] at this
    rw [Int.mul_comm (2 ^ (8 * k + used))]
    omega
end Go.Proofs.YtloagniacjfkfaaGreatDoor
/- Plain facts on rows of bits: no program in it. -/
namespace Go.Proofs.YtloagniacjfkfaaGreatDoor
open Go.RowKit

def binN : List Int → Int
  | [] => 0
  | x :: r => x + 2 * binN r
def Bit (l : List Int) : Prop := ∀ x ∈ l, 0 ≤ x ∧ x ≤ 1
theorem Bit.nil : Bit [] := by intro z hz; cases hz
theorem Bit.append {l m : List Int} (h : Bit l) (k : Bit m) : Bit (l ++ m) := fun z hz => by
  rcases List.mem_append.1 hz with q | q
  · exact h z q
  · exact k z q
theorem Bit.take {l : List Int} (h : Bit l) (k : Nat) : Bit (l.take k) := fun z hz => h z (List.mem_of_mem_take hz)
theorem Bit.drop {l : List Int} (h : Bit l) (k : Nat) : Bit (l.drop k) := fun z hz => h z (List.mem_of_mem_drop hz)
theorem Bit.at {l : List Int} (h : Bit l) (k : Nat) : 0 ≤ l[k]?.getD 0 ∧ l[k]?.getD 0 ≤ 1 := by
  by_cases hk : k < l.length
  · rw [List.getElem?_eq_getElem hk]; exact h _ (List.getElem_mem hk)
  · rw [List.getElem?_eq_none (by omega)]; simp
theorem binN_append (l m : List Int) : binN (l ++ m) = binN l + 2 ^ l.length * binN m := by
  induction l with
  | nil => simp [binN]
  | cons z r ih => simp only [List.cons_append, binN, ih, List.length_cons, Int.pow_succ]; rw [Int.mul_add, Int.mul_comm (2 ^ r.length) 2, Int.mul_assoc]; omega
theorem binN_bound {l : List Int} (h : Bit l) : 0 ≤ binN l ∧ binN l < 2 ^ l.length := by
  induction l with
  | nil => simp [binN]
  | cons y r ih =>
    have hy := h y (by simp)
    have hr := ih (fun z hz => h z (by simp [hz]))
    simp only [binN, List.length_cons, Int.pow_succ]
    omega
theorem binN_drop (l : List Int) (j : Nat) (hj : j < l.length) : binN (l.drop j) = l[j]?.getD 0 + 2 * binN (l.drop (j + 1)) := by
  rw [List.drop_eq_getElem_cons hj, binN, List.getElem?_eq_getElem hj]; rfl
def lowL (v : Int) (m : Nat) : List Int := (List.range m).map fun i => v / 2 ^ i % 2
theorem lowL_len (v : Int) (m : Nat) : (lowL v m).length = m := by simp [lowL]
theorem lowL_snoc (v : Int) (m : Nat) : lowL v (m + 1) = lowL v m ++ [v / 2 ^ m % 2] := by simp [lowL, List.range_succ]
theorem lowL_bit (v : Int) (m : Nat) : Bit (lowL v m) := by
  intro z hz
  simp only [lowL, List.mem_map] at hz
  obtain ⟨i, _, rfl⟩ := hz
  omega
theorem binN_lowL (v : Int) (m : Nat) : binN (lowL v m) = v % 2 ^ m := by
  induction m with
  | zero => simp [lowL, binN]
  | succ m ih =>
    rw [lowL_snoc, binN_append, ih, lowL_len, emod_split v m 1]
    simp only [binN, Int.mul_zero, Int.add_zero]
    rw [show (2 : Int) ^ 1 = 2 from rfl, Int.mul_comm (2 ^ m)]
def chunkL (l : List Int) (k : Nat) : List Int := (List.range k).map fun j => binN ((l.drop (8 * j)).take 8)
theorem chunkL_snoc (l : List Int) (k : Nat) : chunkL l (k + 1) = chunkL l k ++ [binN ((l.drop (8 * k)).take 8)] := by simp [chunkL, List.range_succ]
theorem chunkL_len (l : List Int) (k : Nat) : (chunkL l k).length = k := by simp [chunkL]
theorem chunk_byte {l : List Int} (h : Bit l) (j : Nat) : 0 ≤ binN ((l.drop (8 * j)).take 8) ∧ binN ((l.drop (8 * j)).take 8) < 256 := by
  have hb := binN_bound ((h.drop (8 * j)).take 8)
  have h8 : (2 : Int) ^ ((l.drop (8 * j)).take 8).length ≤ 2 ^ 8 := pow_le_of _ _ (by simp; omega)
  have : (2 : Int) ^ 8 = 256 := by decide
  omega
theorem chunkL_bytes {l : List Int} (h : Bit l) (k : Nat) : Bytes (chunkL l k) := by
  intro z hz
  simp only [chunkL, List.mem_map] at hz
  obtain ⟨j, _, rfl⟩ := hz
  exact chunk_byte h j
theorem litN_chunk (l : List Int) (k : Nat) (hk : 8 * k ≤ l.length + 7) : litN (chunkL l k) = binN (l.take (8 * k)) := by
  induction k with
  | zero => simp [chunkL, litN, binN]
  | succ k ih =>
    rw [chunkL_snoc, litN_snoc, ih (by omega), chunkL_len]
    have e : l.take (8 * (k + 1)) = l.take (8 * k) ++ (l.drop (8 * k)).take 8 := by
      rw [show 8 * (k + 1) = 8 * k + 8 by omega, List.take_add]
    rw [e, binN_append, List.length_take, Nat.min_eq_left (by omega), pow_256_two, Int.mul_comm]
theorem litN_inj : ∀ {zs ys : List Int}, Bytes zs → Bytes ys → zs.length = ys.length → litN zs = litN ys → zs = ys
  | [], [], _, _, _, _ => rfl
  | x :: r, y :: s, h1, h2, hl, he => by
    have hx := h1 x (by simp)
    have hy := h2 y (by simp)
    simp only [litN] at he
    have e1 : x = y := by omega
    have e2 : litN r = litN s := by omega
    rw [e1, litN_inj (fun z hz => h1 z (by simp [hz])) (fun z hz => h2 z (by simp [hz])) (by simpa using hl) e2]
end Go.Proofs.YtloagniacjfkfaaGreatDoor
/- Plain facts on the bits of bytes: no program in it. -/
namespace Go.Proofs.YtloagniacjfkfaaGreatDoor
open Go.RowKit

def bitsL (zs : List Int) : List Int := zs.flatMap fun z => lowL z 8
theorem bitsL_nil : bitsL [] = [] := rfl
theorem bitsL_cons (z : Int) (r : List Int) : bitsL (z :: r) = lowL z 8 ++ bitsL r := by simp [bitsL]
theorem bitsL_append (l m : List Int) : bitsL (l ++ m) = bitsL l ++ bitsL m := by simp [bitsL]
theorem bitsL_len (zs : List Int) : (bitsL zs).length = 8 * zs.length := by
  induction zs with
  | nil => rfl
  | cons z r ih => rw [bitsL_cons, List.length_append, lowL_len, ih, List.length_cons]; omega
theorem bitsL_bit (zs : List Int) : Bit (bitsL zs) := by
  induction zs with
  | nil => exact Bit.nil
  | cons z r ih => rw [bitsL_cons]; exact (lowL_bit z 8).append ih
theorem bitsL_drop (k : Nat) (zs : List Int) : (bitsL zs).drop (8 * k) = bitsL (zs.drop k) := by
  induction k generalizing zs with
  | zero => rfl
  | succ k ih =>
    cases zs with
    | nil => simp [bitsL]
    | cons z r =>
      rw [bitsL_cons, List.drop_append, lowL_len, List.drop_of_length_le (by rw [lowL_len]; omega), show 8 * (k + 1) - 8 = 8 * k by omega, ih]
      rfl
theorem binN_bitsL {zs : List Int} (h : Bytes zs) : binN (bitsL zs) = litN zs := by
  induction zs with
  | nil => rfl
  | cons z r ih =>
    have hz := h z (by simp)
    rw [bitsL_cons, binN_append, binN_lowL, lowL_len, ih (fun y hy => h y (by simp [hy]))]
    simp only [litN]
    rw [show (2 : Int) ^ 8 = 256 by decide]
    omega
theorem binN_split {l : List Int} (k : Nat) (hk : k ≤ l.length) : binN l = binN (l.take k) + 2 ^ k * binN (l.drop k) := by
  have := binN_append (l.take k) (l.drop k)
  rw [List.take_append_drop, List.length_take, Nat.min_eq_left hk] at this
  exact this
theorem binN_dropn {l : List Int} (h : Bit l) (k : Nat) (hk : k ≤ l.length) : binN (l.drop k) = binN l / 2 ^ k := by
  have hb := binN_bound (h.take k)
  rw [List.length_take, Nat.min_eq_left hk] at hb
  rw [binN_split k hk, Int.add_mul_ediv_left _ _ (by have := two_pos k; omega), Int.ediv_eq_zero_of_lt hb.1 hb.2, Int.zero_add]
theorem binN_taken {l : List Int} (h : Bit l) (k : Nat) (hk : k ≤ l.length) : binN (l.take k) = binN l % 2 ^ k := by
  have hb := binN_bound (h.take k)
  rw [List.length_take, Nat.min_eq_left hk] at hb
  rw [binN_split (l := l) k hk, Int.add_mul_emod_self_left, Int.emod_eq_of_lt hb.1 hb.2]
theorem bit_at {l : List Int} (h : Bit l) (k : Nat) (hk : k < l.length) : l[k]?.getD 0 = binN l / 2 ^ k % 2 := by
  rw [← binN_dropn h k (by omega), binN_drop l k hk]
  have := h.at k
  omega

/-- The program's reader (bytes zs, gone bits of the first) and the document's (bits L, at of them gone) hold the same. -/
structure RI (zs : List Int) (gone : Nat) (L : List Int) (at' : Nat) : Prop where
  byt : Bytes zs
  bit : Bit L
  le : at' ≤ L.length
  m8 : L.length % 8 = 0
  gn : gone = at' % 8
  eq : L.drop at' = (bitsL zs).drop gone
theorem RI.nil : RI [] 0 [] 0 := ⟨Bytes.nil, Bit.nil, Nat.le_refl _, rfl, rfl, rfl⟩
theorem RI.len {zs L : List Int} {gone a : Nat} (h : RI zs gone L a) : a + 8 * zs.length = L.length + gone ∧ gone ≤ 8 * zs.length ∧ gone < 8 := by
  have h1 := congrArg List.length h.eq
  rw [List.length_drop, List.length_drop, bitsL_len] at h1
  have := h.le
  have := h.m8
  have := h.gn
  omega
theorem RI.rest {zs L : List Int} {gone a : Nat} (h : RI zs gone L a) : binN (L.drop a) = bitV zs gone := by
  rw [h.eq, binN_dropn (bitsL_bit zs) gone (by rw [bitsL_len]; exact h.len.2.1), binN_bitsL h.byt]
  rfl
theorem RI.look {zs L : List Int} {gone a : Nat} (h : RI zs gone L a) (i : Nat) (hi : gone + i < 8 * zs.length) : L[a + i]?.getD 0 = bitV zs gone / 2 ^ i % 2 := by
  have hl := h.len
  rw [← h.rest, ← bit_at (h.bit.drop a) i (by rw [List.length_drop]; omega), List.getElem?_drop]
theorem RI.val {zs L : List Int} {gone a : Nat} (h : RI zs gone L a) (n : Nat) (hn : gone + n ≤ 8 * zs.length) : binN ((L.drop a).take n) = bitV zs gone % 2 ^ n := by
  have hl := h.len
  rw [binN_taken (h.bit.drop a) n (by rw [List.length_drop]; omega), h.rest]
theorem RI.pass {zs L : List Int} {gone a : Nat} (h : RI zs gone L a) (n : Nat) (hn : gone + n ≤ 8 * zs.length) : RI (zs.drop ((gone + n) / 8)) ((gone + n) % 8) L (a + n) := by
  have hl := h.len
  refine ⟨h.byt.drop _, h.bit, by omega, h.m8, by have := h.gn; omega, ?_⟩
  rw [← bitsL_drop, List.drop_drop, ← List.drop_drop (i := n) (j := a), h.eq, List.drop_drop]
  congr 1
  omega
theorem RI.feed {zs L : List Int} {gone a : Nat} (h : RI zs gone L a) {bs : List Int} (hb : Bytes bs) : RI (zs ++ bs) gone (L ++ bitsL bs) a := by
  have hl := h.len
  refine ⟨h.byt.append hb, h.bit.append (bitsL_bit bs), ?_, ?_, h.gn, ?_⟩
  · rw [List.length_append]; have := h.le; omega
  · rw [List.length_append, bitsL_len]; have := h.m8; omega
  · rw [bitsL_append, List.drop_append_of_le_length h.le, List.drop_append_of_le_length (by rw [bitsL_len]; exact hl.2.1), h.eq]
theorem RI.whole {zs L : List Int} {a : Nat} (h : RI zs 0 L a) (m : Nat) (hm : m ≤ zs.length) : RI (zs.drop m) 0 L (a + 8 * m) := by
  have := h.pass (8 * m) (by omega)
  rw [show (0 + 8 * m) / 8 = m by omega, show (0 + 8 * m) % 8 = 0 by omega] at this
  exact this
theorem RI.byte {zs L : List Int} {a : Nat} (h : RI zs 0 L a) (m : Nat) (hm : m < zs.length) : binN ((L.drop (a + 8 * m)).take 8) = zs[m]?.getD 0 := by
  have h1 := h.whole m (by omega)
  have hb := h.byt.at m
  rw [h1.val 8 (by rw [List.length_drop]; omega), bitV_low (h.byt.drop m) 0 8 (by omega), List.getElem?_drop, Nat.add_zero]
  rw [show (2 : Int) ^ 8 = 256 by decide, show (2 : Int) ^ 0 = 1 by decide]
  omega
end Go.Proofs.YtloagniacjfkfaaGreatDoor
/- A decoder in memory: its block's cells. -/
namespace Go.Proofs.YtloagniacjfkfaaGreatDoor
open Go.RowKit

/-- What stands in a decoder's cells behind its reader. -/
structure Tv where
  now : Int
  failed : Int
  rest : Value
  lim : Int
  total : Int
  win : Nat → Int
  told : Value
  last : Bool
  left : Int
  lits : Int
  all : Int
  cl : Int
  code : Value
  row : Value
  again : Int
  c1 : Value
  c2 : Value
  f1 : Value
  f2 : Value
  least : Int
  nb : Int
  len : Int
def Tv.tail (t : Tv) : Nat → Value
  | 0 => t.told | 1 => .bool t.last | 2 => .int .i64 t.left | 3 => .int .i64 t.lits | 4 => .int .i64 t.all | 5 => .int .i64 t.cl
  | 6 => t.code | 7 => t.row | 8 => .int .i64 t.again | 9 => t.c1 | 10 => t.c2 | 11 => t.f1 | 12 => t.f2
  | 13 => .int .i64 t.least | 14 => .int .i64 t.nb | 15 => .int .i64 t.len | _ => .pointer none
def Tv.head (t : Tv) : Nat → Value
  | 2 => .int .i64 t.now | 3 => .int .i64 t.failed | 4 => t.rest | 5 => .int .i64 t.lim | 6 => .int .i64 t.total | _ => .pointer none
def Tv.at (t : Tv) (i : Nat) : Value := if i < 7 then t.head i else if i < 32775 then .int .u8 (t.win (i - 7)) else t.tail (i - 32775)
def IsT (tl : Array Value) (t : Tv) : Prop := tl.size = 32789 ∧ ∀ i, 2 ≤ i → i < 32791 → tl[i - 2]? = some (t.at i)
def Dk (w : World) (d : Nat) (g : Option Nat) (zs : List Int) (gone : Nat) (t : Tv) : Prop := ∃ tl, Gd tl w d g zs gone ∧ IsT tl t

theorem Dk.lt {w : World} {d : Nat} {g : Option Nat} {zs : List Int} {gone : Nat} {t : Tv} (h : Dk w d g zs gone t) : d < w.heap.size := by
  obtain ⟨tl, h, _⟩ := h; exact h.lt
theorem Dk.sep {w : World} {d : Nat} {g : Option Nat} {zs : List Int} {gone : Nat} {t : Tv} (h : Dk w d g zs gone t) : g ≠ some d := by
  obtain ⟨tl, h, _⟩ := h; exact h.sep
theorem Dk.same {w w' : World} {d : Nat} {g : Option Nat} {zs : List Int} {gone : Nat} {t : Tv} (h : Dk w d g zs gone t) (hr : w'.heap[d]? = w.heap[d]?) (hg : ∀ k, g = some k → w'.heap[k]? = w.heap[k]?) : Dk w' d g zs gone t := by
  obtain ⟨tl, h, h2⟩ := h; exact ⟨tl, h.same hr hg, h2⟩
theorem Dk.tag {w : World} {d : Nat} {g : Option Nat} {zs : List Int} {gone : Nat} {t : Tv} (h : Dk w d g zs gone t) : ∃ cur, w.heap[d]? = some (.cells cur 119 (0, 0)) := by
  obtain ⟨tl, ⟨v, hh, _⟩, _⟩ := h; exact ⟨_, hh⟩
theorem Sl.tag {w : World} {e : TypeId} {v : Value} {g : Option Nat} {xs : List Value} (h : Sl w e v g xs) : ∀ k, g = some k → ∃ cur, w.heap[k]? = some (.cells cur e (0, 0)) := by
  rintro k rfl
  rcases h with ⟨_, h, _⟩ | ⟨b, off, cap, cur, _, h, hb, _⟩
  · cases h
  · cases h; exact ⟨_, hb⟩
theorem Dk.gtag {w : World} {d : Nat} {g : Option Nat} {zs : List Int} {gone : Nat} {t : Tv} (h : Dk w d g zs gone t) : ∀ k, g = some k → ∃ cur, w.heap[k]? = some (.cells cur 5 (0, 0)) := by
  obtain ⟨tl, ⟨v, _, hs⟩, _⟩ := h; exact hs.tag
theorem Dk.fz {w : World} {d : Nat} {g : Option Nat} {zs : List Int} {gone : Nat} {t : Tv} (h : Dk w d g zs gone t) (j : Nat) : w.frozen? ⟨d, j, none⟩ = false := by
  obtain ⟨cur, hh⟩ := h.tag
  simp [World.frozen?, hh]
theorem Dk.cell {w : World} {d : Nat} {g : Option Nat} {zs : List Int} {gone : Nat} {t : Tv} (h : Dk w d g zs gone t) (i : Nat) (h2 : 2 ≤ i) (hi : i < 32791) : w.cell? ⟨d, i, none⟩ = some (t.at i) := by
  obtain ⟨tl, ⟨v, hh, _⟩, _, ht⟩ := h
  rw [← ht i h2 hi]
  simp only [World.cell?, hh]
  rw [Array.getElem?_append_right (by simpa using h2)]
  rfl
theorem Dk.in0 {w : World} {d : Nat} {g : Option Nat} {zs : List Int} {gone : Nat} {t : Tv} (h : Dk w d g zs gone t) : ∃ v, w.cell? ⟨d, 0, none⟩ = some v ∧ w.cell? ⟨d, 1, none⟩ = some (.int .i64 gone) := by
  obtain ⟨tl, ⟨v, hh, _⟩, _⟩ := h
  obtain ⟨a, b, _⟩ := gtwo_cells hh
  exact ⟨v, a, b⟩
section
variable {w : World} {d : Nat} {g : Option Nat} {zs : List Int} {gone : Nat} {t : Tv}
theorem Dk.k2 (h : Dk w d g zs gone t) : w.cell? ⟨d, 2, none⟩ = some (.int .i64 t.now) := h.cell 2 (by omega) (by omega)
theorem Dk.k3 (h : Dk w d g zs gone t) : w.cell? ⟨d, 3, none⟩ = some (.int .i64 t.failed) := h.cell 3 (by omega) (by omega)
theorem Dk.k4 (h : Dk w d g zs gone t) : w.cell? ⟨d, 4, none⟩ = some t.rest := h.cell 4 (by omega) (by omega)
theorem Dk.k5 (h : Dk w d g zs gone t) : w.cell? ⟨d, 5, none⟩ = some (.int .i64 t.lim) := h.cell 5 (by omega) (by omega)
theorem Dk.k6 (h : Dk w d g zs gone t) : w.cell? ⟨d, 6, none⟩ = some (.int .i64 t.total) := h.cell 6 (by omega) (by omega)
theorem Dk.kw (h : Dk w d g zs gone t) (k : Nat) (hk : k < 32768) : w.cell? ⟨d, 7 + k, none⟩ = some (.int .u8 (t.win k)) := by
  rw [h.cell (7 + k) (by omega) (by omega)]
  unfold Tv.at
  rw [if_neg (by omega), if_pos (by omega), Nat.add_sub_cancel_left]
theorem Dk.kt (h : Dk w d g zs gone t) (i : Nat) (hi : i < 16) : w.cell? ⟨d, 32775 + i, none⟩ = some (t.tail i) := by
  rw [h.cell (32775 + i) (by omega) (by omega)]
  unfold Tv.at
  rw [if_neg (by omega), if_neg (by omega), Nat.add_sub_cancel_left]
theorem Dk.told (h : Dk w d g zs gone t) : w.cell? ⟨d, 32775, none⟩ = some t.told := h.kt 0 (by omega)
theorem Dk.last (h : Dk w d g zs gone t) : w.cell? ⟨d, 32776, none⟩ = some (.bool t.last) := h.kt 1 (by omega)
theorem Dk.left (h : Dk w d g zs gone t) : w.cell? ⟨d, 32777, none⟩ = some (.int .i64 t.left) := h.kt 2 (by omega)
theorem Dk.lits (h : Dk w d g zs gone t) : w.cell? ⟨d, 32778, none⟩ = some (.int .i64 t.lits) := h.kt 3 (by omega)
theorem Dk.all (h : Dk w d g zs gone t) : w.cell? ⟨d, 32779, none⟩ = some (.int .i64 t.all) := h.kt 4 (by omega)
theorem Dk.cl (h : Dk w d g zs gone t) : w.cell? ⟨d, 32780, none⟩ = some (.int .i64 t.cl) := h.kt 5 (by omega)
theorem Dk.code (h : Dk w d g zs gone t) : w.cell? ⟨d, 32781, none⟩ = some t.code := h.kt 6 (by omega)
theorem Dk.row (h : Dk w d g zs gone t) : w.cell? ⟨d, 32782, none⟩ = some t.row := h.kt 7 (by omega)
theorem Dk.again (h : Dk w d g zs gone t) : w.cell? ⟨d, 32783, none⟩ = some (.int .i64 t.again) := h.kt 8 (by omega)
theorem Dk.c1 (h : Dk w d g zs gone t) : w.cell? ⟨d, 32784, none⟩ = some t.c1 := h.kt 9 (by omega)
theorem Dk.c2 (h : Dk w d g zs gone t) : w.cell? ⟨d, 32785, none⟩ = some t.c2 := h.kt 10 (by omega)
theorem Dk.f1 (h : Dk w d g zs gone t) : w.cell? ⟨d, 32786, none⟩ = some t.f1 := h.kt 11 (by omega)
theorem Dk.f2 (h : Dk w d g zs gone t) : w.cell? ⟨d, 32787, none⟩ = some t.f2 := h.kt 12 (by omega)
theorem Dk.least (h : Dk w d g zs gone t) : w.cell? ⟨d, 32788, none⟩ = some (.int .i64 t.least) := h.kt 13 (by omega)
theorem Dk.nb (h : Dk w d g zs gone t) : w.cell? ⟨d, 32789, none⟩ = some (.int .i64 t.nb) := h.kt 14 (by omega)
theorem Dk.len (h : Dk w d g zs gone t) : w.cell? ⟨d, 32790, none⟩ = some (.int .i64 t.len) := h.kt 15 (by omega)

/-- One cell is set. -/
theorem Dk.set (h : Dk w d g zs gone t) (i : Nat) (v : Value) (t' : Tv) (h2 : 2 ≤ i) (hi : i < 32791) (h1 : t'.at i = v) (ho : ∀ j, j ≠ i → t'.at j = t.at j) : Dk (w.setCell ⟨d, i, none⟩ v) d g zs gone t' := by
  obtain ⟨tl, hg, hs, ht⟩ := h
  have hsep := hg.sep
  obtain ⟨u, hh, hsl⟩ := hg
  refine ⟨tl.setIfInBounds (i - 2) v, ⟨u, ?_, hsl.same fun k hk => Below.heap_setCell _ _ _ _ (fun e => hsep (by rw [hk, e]))⟩, by simpa using hs, fun j hj2 hj => ?_⟩
  · rw [heap_setCell_same w d i _ _ _ hh, Array.setIfInBounds_append_right (by simpa using h2)]
    rfl
  · by_cases e : j = i
    · subst e
      rw [Array.getElem?_setIfInBounds_self_of_lt (by omega), h1]
    · rw [Array.getElem?_setIfInBounds_ne (by omega), ht j hj2 hj, ho j e]
theorem at_head {t t' : Tv} (i : Nat) (hw : t'.win = t.win) (ht : t'.tail = t.tail) (hh : ∀ j, j ≠ i → t'.head j = t.head j) : ∀ j, j ≠ i → t'.at j = t.at j := by
  intro j hj
  unfold Tv.at
  rw [hw, ht, hh j hj]
theorem at_tail {t t' : Tv} (i : Nat) (hw : t'.win = t.win) (hh : t'.head = t.head) (ht : ∀ j, j ≠ i → t'.tail j = t.tail j) : ∀ j, j ≠ 32775 + i → t'.at j = t.at j := by
  intro j hj
  unfold Tv.at
  rw [hw, hh]
  by_cases h7 : j < 7
  · rw [if_pos h7, if_pos h7]
  · rw [if_neg h7, if_neg h7]
    by_cases h8 : j < 32775
    · rw [if_pos h8, if_pos h8]
    · rw [if_neg h8, if_neg h8, ht _ (by omega)]
theorem Dk.setT (h : Dk w d g zs gone t) (i : Nat) (v : Value) (t' : Tv) (hi : i < 16) (h1 : t'.tail i = v) (hw : t'.win = t.win) (hh : t'.head = t.head) (ht : ∀ j, j ≠ i → t'.tail j = t.tail j) : Dk (w.setCell ⟨d, 32775 + i, none⟩ v) d g zs gone t' :=
  h.set (32775 + i) v t' (by omega) (by omega) (by unfold Tv.at; rw [if_neg (by omega), if_neg (by omega), Nat.add_sub_cancel_left, h1]) (at_tail i hw hh ht)
theorem Dk.setH (h : Dk w d g zs gone t) (i : Nat) (v : Value) (t' : Tv) (h2 : 2 ≤ i) (hi : i < 7) (h1 : t'.head i = v) (hw : t'.win = t.win) (ht : t'.tail = t.tail) (hh : ∀ j, j ≠ i → t'.head j = t.head j) : Dk (w.setCell ⟨d, i, none⟩ v) d g zs gone t' :=
  h.set i v t' h2 (by omega) (by unfold Tv.at; rw [if_pos hi, h1]) (at_head i hw ht hh)
theorem Dk.s_now (h : Dk w d g zs gone t) (x : Int) : Dk (w.setCell ⟨d, 2, none⟩ (.int .i64 x)) d g zs gone { t with now := x } := h.setH 2 _ _ (by omega) (by omega) rfl rfl (by funext j; rfl) (by intro j hj; unfold Tv.head; split <;> first | rfl | exact absurd rfl hj)
theorem Dk.s_failed (h : Dk w d g zs gone t) (x : Int) : Dk (w.setCell ⟨d, 3, none⟩ (.int .i64 x)) d g zs gone { t with failed := x } := h.setH 3 _ _ (by omega) (by omega) rfl rfl (by funext j; rfl) (by intro j hj; unfold Tv.head; split <;> first | rfl | exact absurd rfl hj)
theorem Dk.s_rest (h : Dk w d g zs gone t) (x : Value) : Dk (w.setCell ⟨d, 4, none⟩ x) d g zs gone { t with rest := x } := h.setH 4 _ _ (by omega) (by omega) rfl rfl (by funext j; rfl) (by intro j hj; unfold Tv.head; split <;> first | rfl | exact absurd rfl hj)
theorem Dk.s_lim (h : Dk w d g zs gone t) (x : Int) : Dk (w.setCell ⟨d, 5, none⟩ (.int .i64 x)) d g zs gone { t with lim := x } := h.setH 5 _ _ (by omega) (by omega) rfl rfl (by funext j; rfl) (by intro j hj; unfold Tv.head; split <;> first | rfl | exact absurd rfl hj)
theorem Dk.s_total (h : Dk w d g zs gone t) (x : Int) : Dk (w.setCell ⟨d, 6, none⟩ (.int .i64 x)) d g zs gone { t with total := x } := h.setH 6 _ _ (by omega) (by omega) rfl rfl (by funext j; rfl) (by intro j hj; unfold Tv.head; split <;> first | rfl | exact absurd rfl hj)
theorem Dk.s_told (h : Dk w d g zs gone t) (x : Value) : Dk (w.setCell ⟨d, 32775, none⟩ x) d g zs gone { t with told := x } := h.setT 0 _ _ (by omega) rfl rfl (by funext j; rfl) (by intro j hj; unfold Tv.tail; split <;> first | rfl | exact absurd rfl hj)
theorem Dk.s_last (h : Dk w d g zs gone t) (x : Bool) : Dk (w.setCell ⟨d, 32776, none⟩ (.bool x)) d g zs gone { t with last := x } := h.setT 1 _ _ (by omega) rfl rfl (by funext j; rfl) (by intro j hj; unfold Tv.tail; split <;> first | rfl | exact absurd rfl hj)
theorem Dk.s_left (h : Dk w d g zs gone t) (x : Int) : Dk (w.setCell ⟨d, 32777, none⟩ (.int .i64 x)) d g zs gone { t with left := x } := h.setT 2 _ _ (by omega) rfl rfl (by funext j; rfl) (by intro j hj; unfold Tv.tail; split <;> first | rfl | exact absurd rfl hj)
theorem Dk.s_lits (h : Dk w d g zs gone t) (x : Int) : Dk (w.setCell ⟨d, 32778, none⟩ (.int .i64 x)) d g zs gone { t with lits := x } := h.setT 3 _ _ (by omega) rfl rfl (by funext j; rfl) (by intro j hj; unfold Tv.tail; split <;> first | rfl | exact absurd rfl hj)
theorem Dk.s_all (h : Dk w d g zs gone t) (x : Int) : Dk (w.setCell ⟨d, 32779, none⟩ (.int .i64 x)) d g zs gone { t with all := x } := h.setT 4 _ _ (by omega) rfl rfl (by funext j; rfl) (by intro j hj; unfold Tv.tail; split <;> first | rfl | exact absurd rfl hj)
theorem Dk.s_cl (h : Dk w d g zs gone t) (x : Int) : Dk (w.setCell ⟨d, 32780, none⟩ (.int .i64 x)) d g zs gone { t with cl := x } := h.setT 5 _ _ (by omega) rfl rfl (by funext j; rfl) (by intro j hj; unfold Tv.tail; split <;> first | rfl | exact absurd rfl hj)
theorem Dk.s_code (h : Dk w d g zs gone t) (x : Value) : Dk (w.setCell ⟨d, 32781, none⟩ x) d g zs gone { t with code := x } := h.setT 6 _ _ (by omega) rfl rfl (by funext j; rfl) (by intro j hj; unfold Tv.tail; split <;> first | rfl | exact absurd rfl hj)
theorem Dk.s_row (h : Dk w d g zs gone t) (x : Value) : Dk (w.setCell ⟨d, 32782, none⟩ x) d g zs gone { t with row := x } := h.setT 7 _ _ (by omega) rfl rfl (by funext j; rfl) (by intro j hj; unfold Tv.tail; split <;> first | rfl | exact absurd rfl hj)
theorem Dk.s_again (h : Dk w d g zs gone t) (x : Int) : Dk (w.setCell ⟨d, 32783, none⟩ (.int .i64 x)) d g zs gone { t with again := x } := h.setT 8 _ _ (by omega) rfl rfl (by funext j; rfl) (by intro j hj; unfold Tv.tail; split <;> first | rfl | exact absurd rfl hj)
theorem Dk.s_c1 (h : Dk w d g zs gone t) (x : Value) : Dk (w.setCell ⟨d, 32784, none⟩ x) d g zs gone { t with c1 := x } := h.setT 9 _ _ (by omega) rfl rfl (by funext j; rfl) (by intro j hj; unfold Tv.tail; split <;> first | rfl | exact absurd rfl hj)
theorem Dk.s_c2 (h : Dk w d g zs gone t) (x : Value) : Dk (w.setCell ⟨d, 32785, none⟩ x) d g zs gone { t with c2 := x } := h.setT 10 _ _ (by omega) rfl rfl (by funext j; rfl) (by intro j hj; unfold Tv.tail; split <;> first | rfl | exact absurd rfl hj)
theorem Dk.s_f1 (h : Dk w d g zs gone t) (x : Value) : Dk (w.setCell ⟨d, 32786, none⟩ x) d g zs gone { t with f1 := x } := h.setT 11 _ _ (by omega) rfl rfl (by funext j; rfl) (by intro j hj; unfold Tv.tail; split <;> first | rfl | exact absurd rfl hj)
theorem Dk.s_f2 (h : Dk w d g zs gone t) (x : Value) : Dk (w.setCell ⟨d, 32787, none⟩ x) d g zs gone { t with f2 := x } := h.setT 12 _ _ (by omega) rfl rfl (by funext j; rfl) (by intro j hj; unfold Tv.tail; split <;> first | rfl | exact absurd rfl hj)
theorem Dk.s_least (h : Dk w d g zs gone t) (x : Int) : Dk (w.setCell ⟨d, 32788, none⟩ (.int .i64 x)) d g zs gone { t with least := x } := h.setT 13 _ _ (by omega) rfl rfl (by funext j; rfl) (by intro j hj; unfold Tv.tail; split <;> first | rfl | exact absurd rfl hj)
theorem Dk.s_nb (h : Dk w d g zs gone t) (x : Int) : Dk (w.setCell ⟨d, 32789, none⟩ (.int .i64 x)) d g zs gone { t with nb := x } := h.setT 14 _ _ (by omega) rfl rfl (by funext j; rfl) (by intro j hj; unfold Tv.tail; split <;> first | rfl | exact absurd rfl hj)
theorem Dk.s_len (h : Dk w d g zs gone t) (x : Int) : Dk (w.setCell ⟨d, 32790, none⟩ (.int .i64 x)) d g zs gone { t with len := x } := h.setT 15 _ _ (by omega) rfl rfl (by funext j; rfl) (by intro j hj; unfold Tv.tail; split <;> first | rfl | exact absurd rfl hj)
theorem at_win {t t' : Tv} (k : Nat) (hh : t'.head = t.head) (ht : t'.tail = t.tail) (hw : ∀ j, j ≠ k → t'.win j = t.win j) : ∀ j, j ≠ 7 + k → t'.at j = t.at j := by
  intro j hj
  unfold Tv.at
  rw [hh, ht]
  by_cases h7 : j < 7
  · rw [if_pos h7, if_pos h7]
  · rw [if_neg h7, if_neg h7]
    by_cases h8 : j < 32775
    · rw [if_pos h8, if_pos h8, hw _ (by omega)]
    · rw [if_neg h8, if_neg h8]
theorem Dk.s_win (h : Dk w d g zs gone t) (k : Nat) (hk : k < 32768) (x : Int) : Dk (w.setCell ⟨d, 7 + k, none⟩ (.int .u8 x)) d g zs gone { t with win := fun j => if j = k then x else t.win j } := by
  refine h.set (7 + k) _ _ (by omega) (by omega) ?_ (at_win k (by funext j; rfl) (by funext j; rfl) fun j hj => if_neg hj)
  unfold Tv.at
  rw [if_neg (by omega), if_pos (by omega), Nat.add_sub_cancel_left]
  exact congrArg _ (if_pos rfl)
/-- The reader is let go. -/
theorem Dk.s_in (h : Dk w d g zs gone t) : Dk ((w.setCell ⟨d, 0, none⟩ (.slice none 0 0)).setCell ⟨d, 1, none⟩ (.int .i64 0)) d none [] 0 t := by
  obtain ⟨tl, ⟨v, hh, _⟩, h2⟩ := h
  exact ⟨tl, ⟨_, gtwo_set1 (gtwo_set0 hh), Sl.nil _ _⟩, h2⟩
end
end Go.Proofs.YtloagniacjfkfaaGreatDoor
/- What packed bits tell, item by item: a machine of plain data; no program in it but the next symbol's number. -/
namespace Go.Proofs.YtloagniacjfkfaaGreatDoor
open Go.RowKit

structure St where
  now : Nat
  out : List Int
  last : Bool
  left : Nat
  lits : Nat
  all : Nat
  cl : Nat
  lc : Option (List Nat)
  row : List Nat
  again : Nat
  la : Option (List Nat)
  da : Option (List Nat)
  least : Nat
  nb : Nat
  len : Nat
def St.start : St := ⟨0, [], false, 0, 0, 0, 0, none, [], 0, none, none, 0, 0, 0⟩
inductive Rs where
  | short : Rs
  | bad : Int → List Int → Rs
  | ok : St → Nat → Rs
def fixN (s : Nat) : Nat := if s < 144 then 8 else if s < 256 then 9 else if s < 280 then 7 else 8
def fixL : List Nat := (List.range 288).map fixN
def fixD : List Nat := List.replicate 32 5
/-- The next symbol of bits. -/
def nxL (ns : List Nat) (l : List Int) : Int × Int × Nat := nxt ns (fun i => (l[i]?.getD 0).toNat) l.length 15 0
def bV (l : List Int) (k n : Nat) : Nat := (binN ((l.drop k).take n)).toNat
/-- A block ends, behind n bits. -/
def endB (s : St) (l : List Int) (n : Nat) : Rs :=
  if s.last then .ok { s with la := none, da := none, now := 11 } (n + (l.length - n) % 8) else .ok { s with la := none, da := none, now := 0 } n
def cpy (lim dist : Nat) : Nat → List Int → List Int × Bool
  | 0, out => (out, true)
  | n + 1, out => if out.length = lim then (out, false) else cpy lim dist n (out ++ [out[out.length - dist]?.getD 0])
def sprd (k group : Nat) : Nat × Nat := if k < group then (k, 0) else ((group + k % group) * 2 ^ (k / group - 1), k / group - 1)
def cLen (sym : Nat) : Nat × Nat := if sym = 285 then (258, 0) else ((sprd (sym - 257) 4).1 + 3, (sprd (sym - 257) 4).2)
def ordL : List Nat := [16, 17, 18, 0, 8, 7, 9, 6, 10, 5, 11, 4, 12, 3, 13, 2, 14, 1, 15]
/-- The lengths of the lengths' code, the first i of them read. -/
def clL (l : List Int) : Nat → List Nat
  | 0 => List.replicate 19 0
  | i + 1 => (clL l i).set (ordL[i]?.getD 0) (bV l (3 * i) 3)
def clr (s : St) : St := { s with lits := 0, all := 0, cl := 0, lc := none, row := [], again := 0 }
/-- The row of lengths has its end. -/
def endL (s : St) (n : Nat) : Rs :=
  if (s.row[256]?.getD 0) = 0 ∨ wholeB (ints (s.row.take s.lits)) = false ∨ wholeB (ints (s.row.drop s.lits)) = false then .bad 5 s.out
  else .ok { clr s with la := some (s.row.take s.lits), da := some (s.row.drop s.lits), now := 7 } n
def lengL (s : St) (v times n : Nat) : Rs :=
  if s.all < s.row.length + times then .bad 5 s.out
  else if s.row.length + times < s.all then .ok { s with row := s.row ++ List.replicate times v } n
  else endL { s with row := s.row ++ List.replicate times v } n

def itHead (s : St) (l : List Int) : Rs :=
  if l.length < 3 then .short
  else if bV l 1 2 = 0 then .ok { s with last := decide (bV l 0 1 = 1), now := 1 } (3 + (l.length - 3) % 8)
  else if bV l 1 2 = 1 then .ok { s with last := decide (bV l 0 1 = 1), la := some fixL, da := some fixD, now := 7 } 3
  else if bV l 1 2 = 2 then .ok { s with last := decide (bV l 0 1 = 1), now := 3 } 3
  else .bad 3 s.out
def itSize (s : St) (l : List Int) : Rs :=
  if l.length < 32 then .short
  else if bV l 16 16 ≠ 65535 - bV l 0 16 then .bad 8 s.out
  else if bV l 0 16 = 0 then endB { s with left := 0 } l 32
  else .ok { s with left := bV l 0 16, now := 2 } 32
def itStored (lim : Nat) (s : St) (l : List Int) : Rs :=
  if l.length < 8 then .short
  else if s.out.length = lim then .bad 9 s.out
  else if s.left = 1 then endB { s with out := s.out ++ [(bV l 0 8 : Int)], left := 0 } l 8
  else .ok { s with out := s.out ++ [(bV l 0 8 : Int)], left := s.left - 1 } 8
def itCounts (s : St) (l : List Int) : Rs :=
  if l.length < 14 then .short
  else if 286 < bV l 0 5 + 257 ∨ 30 < bV l 5 5 + 1 then .bad 5 s.out
  else .ok { clr s with lits := bV l 0 5 + 257, all := bV l 0 5 + 257 + (bV l 5 5 + 1), cl := bV l 10 4 + 4, now := 4 } 14
def itCode (s : St) (l : List Int) : Rs :=
  if l.length < 3 * s.cl then .short
  else if wholeB (ints (clL l s.cl)) = false ∨ wordsN (ints (clL l s.cl)) = 0 then .bad 5 s.out
  else .ok { s with lc := some (clL l s.cl), now := 5 } (3 * s.cl)
def itLens (s : St) (l : List Int) : Rs :=
  let o := nxL (s.lc.getD []) l
  if o.2.1 = 2 then .short
  else if o.2.1 ≠ 0 then .bad o.2.1 s.out
  else if o.1 = 16 then
    if s.row = [] then .bad 5 s.out else .ok { s with again := s.row[s.row.length - 1]?.getD 0, least := 3, nb := 2, now := 6 } o.2.2
  else if o.1 = 17 then .ok { s with again := 0, least := 3, nb := 3, now := 6 } o.2.2
  else if o.1 = 18 then .ok { s with again := 0, least := 11, nb := 7, now := 6 } o.2.2
  else lengL { s with again := 0, now := 5 } o.1.toNat 1 o.2.2
def itAgain (s : St) (l : List Int) : Rs :=
  if l.length < s.nb then .short
  else lengL { s with now := 5 } s.again (s.least + bV l 0 s.nb) s.nb
def itSymbol (lim : Nat) (s : St) (l : List Int) : Rs :=
  let o := nxL (s.la.getD []) l
  if o.2.1 = 2 then .short
  else if o.2.1 ≠ 0 then .bad o.2.1 s.out
  else if o.1 < 256 then
    if s.out.length = lim then .bad 9 s.out else .ok { s with out := s.out ++ [o.1] } o.2.2
  else if o.1 = 256 then endB s l o.2.2
  else if 285 < o.1 then .bad 6 s.out
  else .ok { s with least := (cLen o.1.toNat).1, nb := (cLen o.1.toNat).2, now := 8 } o.2.2
def itLength (s : St) (l : List Int) : Rs :=
  if l.length < s.nb then .short
  else .ok { s with len := s.least + bV l 0 s.nb, now := 9 } s.nb
def itDist (s : St) (l : List Int) : Rs :=
  let o := nxL (s.da.getD []) l
  if o.2.1 = 2 then .short
  else if o.2.1 ≠ 0 then .bad o.2.1 s.out
  else if 30 ≤ o.1 then .bad 6 s.out
  else .ok { s with least := (sprd o.1.toNat 2).1 + 1, nb := (sprd o.1.toNat 2).2, now := 10 } o.2.2
def itFar (lim : Nat) (s : St) (l : List Int) : Rs :=
  if l.length < s.nb then .short
  else if s.out.length < s.least + bV l 0 s.nb then .bad 7 s.out
  else if (cpy lim (s.least + bV l 0 s.nb) s.len s.out).2 then .ok { s with out := (cpy lim (s.least + bV l 0 s.nb) s.len s.out).1, now := 7 } s.nb
  else .bad 9 (cpy lim (s.least + bV l 0 s.nb) s.len s.out).1
def item (lim : Nat) (s : St) (l : List Int) : Rs :=
  match s.now with
  | 0 => itHead s l
  | 1 => itSize s l
  | 2 => itStored lim s l
  | 3 => itCounts s l
  | 4 => itCode s l
  | 5 => itLens s l
  | 6 => itAgain s l
  | 7 => itSymbol lim s l
  | 8 => itLength s l
  | 9 => itDist s l
  | _ => itFar lim s l
end Go.Proofs.YtloagniacjfkfaaGreatDoor
/- Rows of ints in memory. -/
namespace Go.Proofs.YtloagniacjfkfaaGreatDoor
open Go.RowKit

def ivals (l : List Int) : List Value := l.map (Value.int .i64)
theorem ivals_one (l : List Int) : ∀ u ∈ ivals l, u.oneCell' = true := by
  intro u hu
  simp only [ivals, List.mem_map] at hu
  obtain ⟨z, _, rfl⟩ := hu
  rfl
theorem ivals_len (l : List Int) : (ivals l).length = l.length := by simp [ivals]
theorem ivals_append (l m : List Int) : ivals (l ++ m) = ivals l ++ ivals m := by simp [ivals]
theorem ivals_at (l : List Int) (i : Nat) (hi : i < l.length) : (ivals l)[i]? = some (.int .i64 (l[i]?.getD 0)) := by simp [ivals, hi]
theorem Sl.irow {w : World} {v : Value} {g : Option Nat} {l : List Int} (h : Sl w 3 v g (ivals l)) {a : Option Addr} {n cap : Nat} (hv : v = .slice a n cap) : IRow w a l := by
  subst hv
  rcases h with ⟨_, _, h⟩ | ⟨b, off, cap', cur, h, _, hh, _, _, _, hc⟩
  · exact .inl (by simpa [ivals] using h)
  · simp only [Value.slice.injEq] at h
    obtain ⟨rfl, _, _⟩ := h
    refine .inr ⟨b, off, rfl, fun i hi => ?_⟩
    rw [← ivals_at l i hi, ← hc i (by rw [ivals_len]; exact hi)]
    simp [World.cell?, hh]
theorem inews_row {w : World} {x : Addr} {l : List Int} (h : IRow w (some x) l) : ∀ j u, (ivals l)[j]? = some u → w.cell? (x.add j) = some u := by
  intro j u hj
  rcases h with rfl | ⟨b, off, hx, hc⟩
  · simp [ivals] at hj
  · simp at hx
    subst hx
    simp only [ivals, List.getElem?_map, Option.map_eq_some_iff] at hj
    obtain ⟨z, hz, rfl⟩ := hj
    have hlt : j < l.length := by
      by_cases h : j < l.length
      · exact h
      · rw [List.getElem?_eq_none (by omega)] at hz; cases hz
    have := hc j hlt
    rw [hz] at this
    rw [Addr.add_lit]
    simpa using this
end Go.Proofs.YtloagniacjfkfaaGreatDoor
/- All bytes of a reader within a decoder, taken at once. -/
namespace Go.Proofs.YtloagniacjfkfaaGreatDoor
open Go.RowKit
variable {tl : Array Value}

theorem row_len_none {w : World} {l : List Int} (h : Row w none l) : l = [] := by
  rcases h with h | ⟨b, off, h, _⟩
  · exact h
  · cases h

/-- 'append([]byte(nil), x...)': a copy in new memory. -/
theorem wpList_copy_row {w : World} {ops : Array Oper} {rest : List Oper} {o : Oper} {a : Act} {Q : Exit → Act → World → Prop} (hgd : o.guard = none) (s x : Operand)
    (ho : o.op = .call { callee := .builtin .append, args := #[s, x], argTypes := #[22, 22] })
    (hs : a.eval s = .slice none 0 0) (ad : Option Addr) (m c : Nat) (l : List Int) (hx : a.eval x = .slice ad m c) (hm : l.length = m) (hc : ad = none → c = 0) (hr : Row w ad l) (hsum : m ≤ 140737488355328)
    (h : ∀ a' c' w' g', Sl w' 5 (.slice a' m c') g' (vals l) → (∀ k, g' = some k → w.heap.size ≤ k) → Below w.heap.size w w' → wpList Tryz.prog ops Q rest (a.put o.dst (.slice a' m c')) w') : wpList Tryz.prog ops Q (o :: rest) a w := by
  obtain ⟨i0, hi, hz0, hz1, hz2⟩ := info_parts Tryz.info5
  cases ad with
  | none =>
    obtain rfl := row_len_none hr
    obtain rfl := hc rfl
    simp at hm
    subst hm
    exact wpList_append_sl_none hgd s x _ ho 5 i0 Tryz.underlying22 hi none 0 0 hs (Nat.le_refl _) hx (h none 0 w none (Sl.nil _ _) (by intro k hk; cases hk) (Below.refl _ _))
  | some y =>
    refine wpList_append_sl hgd s x _ ho 5 i0 (.int .u8 0) 1 Tryz.underlying22 hi hz0 hz1 hz2 rfl _ none [] hs (Sl.nil _ _) y m c (vals l) hx (by rw [vals_len]; exact hm) (news_row hr) (vals_one l) (by simp; omega) (by simp; unfold maxLen; omega) ?_
    intro v' w' g' hsl hg' hgrow
    rw [List.nil_append] at hsl
    obtain ⟨a', c', hv, _⟩ := hsl.shape
    rw [vals_len, hm] at hv
    subst hv
    refine h a' c' w' g' hsl ?_ ⟨hgrow.os, hgrow.tape, hgrow.output, hgrow.size, fun k hk => hgrow.block k hk (by simp)⟩
    intro k hk
    rcases hg' with rfl | ⟨q, rfl, hq⟩
    · cases hk
    · cases hk; exact hq

def GBytesPost (tl : Array Value) (w : World) (r : Nat) (g : Option Nat) (zs : List Int) (e : Ending) (w' : World) : Prop :=
  ∃ a c g1, e = .returned (.slice a zs.length c) ∧ Sl w' 5 (.slice a zs.length c) g1 (vals zs) ∧ (∀ k, g1 = some k → w.heap.size ≤ k) ∧ Gd tl w' r g [] 0 ∧ Fr w w' r g
set_option maxHeartbeats 800000 in
theorem gbytes_no (r : Nat) (g : Option Nat) (w : World) (h : Gd tl w r g [] 0) :
    Calls Tryz.prog 148 #[.pointer (some ⟨r, 0, none⟩), .int .i64 0] w fun e w' => GBytesPost tl w r g [] e w' := by
  have HG : Hid (Gd tl w r g [] 0) := h
  obtain ⟨v, hh, hs⟩ := h
  obtain ⟨q0, q1, _, _⟩ := gtwo_cells hh
  clear hh hs
  go_enter Tryz.func148, Tryz.ntmps148
  go_wp2
  go_ret
  exact ⟨none, 0, none, rfl, Sl.nil _ _, (by intro k hk; cases hk), HG.out, Fr.refl _ _ _⟩
set_option maxHeartbeats 1600000 in
theorem gbytes_yes (r : Nat) (g : Option Nat) (zs : List Int) (w : World) (h : Gd tl w r g zs 0) (hl : zs.length ≤ 140737488355328) (hn : 1 ≤ zs.length) :
    Calls Tryz.prog 148 #[.pointer (some ⟨r, 0, none⟩), .int .i64 zs.length] w fun e w' => GBytesPost tl w r g zs e w' := by
  have HP : Hid (g ≠ some r) := h.sep
  obtain ⟨v, hh, hs⟩ := h
  obtain ⟨av, cv, hv, hl1, hl2, hl3⟩ := hs.shape
  subst hv
  rw [vals_len] at hh hs hl1
  unfold maxLen at hl2
  obtain ⟨q0, q1, f0, f1⟩ := gtwo_cells hh
  have HH : Hid (w.heap[r]? = some (.cells (#[.slice av zs.length cv, .int .i64 (0 : Nat)] ++ tl) 119 (0, 0))) := hh
  have HS : Hid (Sl w 5 (.slice av zs.length cv) g (vals zs)) := hs
  have HN : Hid (av = none → cv = 0) := hl3
  have HRW : Hid (Row w av zs) := hs.row rfl
  clear hh hs hl3
  go_enter Tryz.func148, Tryz.ntmps148
  go_wp2_with (at_builtin; refine wpList_copy_row rfl _ _ rfl rfl av zs.length cv zs rfl rfl HN.out HRW.out (by omega) ?_)
  intro a1 c1 w1 g1 hsl1 hg1 hb1
  have hh1 := (hb1.block r (lt_of_block HH.out)).trans HH.out
  clear q0 q1 f0 f1
  obtain ⟨q0, q1, f0, f1⟩ := gtwo_cells hh1
  have HH1 : Hid (w1.heap[r]? = some (.cells (#[.slice av zs.length cv, .int .i64 (0 : Nat)] ++ tl) 119 (0, 0))) := hh1
  have HC1 : Hid (∀ k, g1 = some k → w.heap.size ≤ k) := hg1
  have HSL : Hid (Sl w1 5 (.slice a1 zs.length c1) g1 (vals zs)) := hsl1
  have HB1 : Hid (Below w.heap.size w w1) := hb1
  have HS2 : Hid (Sl w1 5 (.slice (if cv = zs.length then av else Option.map (fun x => x.add zs.length) av) (zs.length - zs.length) (cv - zs.length)) g ((vals zs).drop zs.length)) := (HS.out.same fun j hj => hb1.block j (HS.out.lt hj)).cut zs.length (by rw [vals_len]; exact Nat.le_refl _) (vals_len zs)
  have FIN : Hid (∀ v, Sl w1 5 v g ((vals zs).drop zs.length) → GBytesPost tl w r g zs (.returned (.slice a1 zs.length c1)) (w1.setCell ⟨r, 0, none⟩ v)) := by
    intro v hv
    have hnr : ∀ j, g = some j → j ≠ r := fun j hj e => HP.out (by rw [hj, e])
    refine ⟨a1, c1, g1, rfl, HSL.out.same fun k hk => ?_, HC1.out, ⟨v, gtwo_set0 HH1.out, ?_⟩, (Fr.of_heap HB1.out).trans (Fr.set r 0 _ g) (.inl rfl)⟩
    · refine Below.heap_setCell w1 _ _ _ ?_
      have := HC1.out k hk
      have := lt_of_block HH.out
      simp; omega
    · rw [show vals ([] : List Int) = (vals zs).drop zs.length by rw [List.drop_eq_nil_of_le (by rw [vals_len]; exact Nat.le_refl _)]; rfl]
      exact hv.same fun j hj => Below.heap_setCell w1 _ _ j (hnr j hj)
  clear hh1 hsl1 hg1 hb1
  by_cases hck : cv = zs.length
  · rw [if_pos hck, hck, Nat.sub_self] at HS2
    go_wp2
    go_ret
    exact FIN.out _ HS2.out
  · rw [if_neg hck, Nat.sub_self] at HS2
    go_wp2
    go_ret
    exact FIN.out _ HS2.out
end Go.Proofs.YtloagniacjfkfaaGreatDoor
