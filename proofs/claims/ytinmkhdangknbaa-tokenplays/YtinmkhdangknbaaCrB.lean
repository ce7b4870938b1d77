/- Plain facts on bursts: no program in it. -/
import Derived.Test.YtinmkhdangknbaaCrC
import Derived.Test.YtinmkhdangknbaaBitL
namespace Go.Proofs.Ytinmkhdangknbaa
open Go.RowKit

theorem nat_odd (m : Nat) : 1 ^^^ (2 * m) = 1 + 2 * m := by
  apply Nat.eq_of_testBit_eq
  intro i
  cases i with
  | zero => rw [Nat.testBit_xor, Nat.testBit_zero, Nat.testBit_zero, Nat.testBit_zero]; simp
  | succ i =>
    rw [Nat.testBit_xor, Nat.testBit_succ, Nat.testBit_succ, Nat.testBit_succ, show 1 / 2 = 0 from rfl, show 2 * m / 2 = m by omega, show (1 + 2 * m) / 2 = m by omega]
    simp
theorem wd_nat (z : Int) (h0 : 0 ≤ z) (h1 : z < 4294967296) : (wd z).toNat = z.toNat := by have := wd_toNat z h0 h1; omega
theorem wd_split (d m : Int) (h0 : 0 ≤ d) (h1 : d ≤ 1) (h2 : 0 ≤ m) (h3 : m < 2147483648) : wd (d + 2 * m) = wd d ^^^ wd (2 * m) := by
  apply BitVec.eq_of_toNat_eq
  rw [BitVec.toNat_xor, wd_nat _ (by omega) (by omega), wd_nat _ h0 (by omega), wd_nat _ (by omega) (by omega)]
  have e : (2 * m).toNat = 2 * m.toNat := by omega
  rw [e]
  by_cases hd : d = 0
  · subst hd
    rw [show (0 : Int).toNat = 0 from rfl, Nat.zero_xor]; omega
  · obtain rfl : d = 1 := by omega
    rw [show (1 : Int).toNat = 1 from rfl, nat_odd]; omega
theorem hv_double (m : Int) (h2 : 0 ≤ m) (h3 : m < 2147483648) : hv (wd (2 * m)) = wd m := by
  have e := wd_nat (2 * m) (by omega) (by omega)
  unfold hv
  rw [lsb_mod, decide_eq_false (by omega), if_neg (by decide), BitVec.xor_zero]
  apply BitVec.eq_of_toNat_eq
  rw [shr_toNat, e, wd_nat m h2 (by omega)]
  omega
/-- The state behind bits. -/
def crcB (x : BitVec 32) (ds : List Int) : BitVec 32 := ds.foldl (fun x d => hv (x ^^^ wd d)) x
theorem crcB_append (x : BitVec 32) (l m : List Int) : crcB x (l ++ m) = crcB (crcB x l) m := by simp [crcB, List.foldl_append]
theorem pow_small {n : Nat} (h : n ≤ 31) : (2 : Int) ^ n ≤ 2147483648 := by
  have := pow_le_of n 31 h
  have e : (2 : Int) ^ 31 = 2147483648 := by decide
  omega
theorem crcB_word (x : BitVec 32) (ds : List Int) (hb : Bit ds) (hl : ds.length ≤ 32) : crcB x ds = hvn ds.length (x ^^^ wd (binN ds)) := by
  induction ds generalizing x with
  | nil => show x = x ^^^ wd 0; rw [show wd 0 = (BitVec.ofNat 32 0) by decide, BitVec.xor_zero]
  | cons d r ih =>
    have hd := hb d (by simp)
    have hr : Bit r := fun z hz => hb z (by simp [hz])
    simp only [List.length_cons] at hl
    have hbd := binN_bound hr
    have hp := pow_small (n := r.length) (by omega)
    show crcB (hv (x ^^^ wd d)) r = _
    rw [ih _ hr (by omega), List.length_cons, hvn]
    congr 1
    rw [binN, wd_split d _ hd.1 hd.2 hbd.1 (by omega), ← BitVec.xor_assoc, hv_xor (x ^^^ wd d), hv_double _ hbd.1 (by omega)]
theorem crcS_bits (x : BitVec 32) (zs : List Int) (h : Bytes zs) : crcS x zs = crcB x (bitsL zs) := by
  induction zs generalizing x with
  | nil => rfl
  | cons z r ih =>
    have hz := h z (by simp)
    rw [bitsL_cons, crcB_append, crcB_word x (lowL z 8) (lowL_bit z 8) (by rw [lowL_len]; omega), lowL_len, binN_lowL, show (2 : Int) ^ 8 = 256 by decide, Int.emod_eq_of_lt hz.1 hz.2]
    exact ih _ (fun y hy => h y (by simp [hy]))
theorem xor_right_inj {x y z : BitVec 32} (h : x ^^^ z = y ^^^ z) : x = y := by
  have : x ^^^ z ^^^ z = y ^^^ z ^^^ z := by rw [h]
  rwa [BitVec.xor_assoc, BitVec.xor_assoc, BitVec.xor_self, BitVec.xor_zero, BitVec.xor_zero] at this
theorem crcB_inj {x y : BitVec 32} (Q : List Int) (h : crcB x Q = crcB y Q) : x = y := by
  induction Q generalizing x y with
  | nil => exact h
  | cons d r ih => exact xor_right_inj (hv_inj (ih h))
theorem binN_inj : ∀ {l m : List Int}, Bit l → Bit m → l.length = m.length → binN l = binN m → l = m
  | [], [], _, _, _, _ => rfl
  | x :: r, y :: s, h1, h2, hl, he => by
    have hx := h1 x (by simp)
    have hy := h2 y (by simp)
    simp only [binN] at he
    have e1 : x = y := by omega
    have e2 : binN r = binN s := by omega
    rw [e1, binN_inj (fun z hz => h1 z (by simp [hz])) (fun z hz => h2 z (by simp [hz])) (by simpa using hl) e2]
theorem wd_inj {a b : Int} (h0 : 0 ≤ a) (h1 : a < 4294967296) (h2 : 0 ≤ b) (h3 : b < 4294967296) (h : wd a = wd b) : a = b := by
  rw [← wd_toNat a h0 h1, ← wd_toNat b h2 h3, h]
theorem pow_32 {n : Nat} (h : n ≤ 32) : (2 : Int) ^ n ≤ 4294967296 := by
  have := pow_le_of n 32 h
  have e : (2 : Int) ^ 32 = 4294967296 := by decide
  omega
theorem burst (x : BitVec 32) (P W V Q : List Int) (hW : Bit W) (hV : Bit V) (hl : W.length = V.length) (h32 : W.length ≤ 32) (h : crcB x (P ++ W ++ Q) = crcB x (P ++ V ++ Q)) : W = V := by
  rw [crcB_append, crcB_append, crcB_append, crcB_append] at h
  have h1 := crcB_inj Q h
  rw [crcB_word _ W hW h32, crcB_word _ V hV (by omega), hl] at h1
  have h2 := hvn_inj h1
  rw [BitVec.xor_comm, BitVec.xor_comm (crcB x P)] at h2
  have bW := binN_bound hW
  have bV := binN_bound hV
  have p32 := pow_32 h32
  exact binN_inj hW hV hl (wd_inj bW.1 (by omega) bV.1 (by rw [← hl] at bV; omega) (xor_right_inj h2))

/-- k of the bits from place a on are turned, each by its bit of f. -/
def turnL (l : List Int) (a : Nat) (f : Nat → Int) : Nat → List Int
  | 0 => l
  | k + 1 => if a + k < l.length then (turnL l a f k).set (a + k) ((l[a + k]?.getD 0 + f k) % 2) else turnL l a f k
theorem turnL_len (l : List Int) (a : Nat) (f : Nat → Int) (k : Nat) : (turnL l a f k).length = l.length := by
  induction k with
  | zero => rfl
  | succ k ih => rw [turnL]; split <;> simp [ih]
theorem turnL_out (l : List Int) (a : Nat) (f : Nat → Int) (k i : Nat) (h : i < a ∨ a + k ≤ i) : (turnL l a f k)[i]? = l[i]? := by
  induction k with
  | zero => rfl
  | succ k ih =>
    rw [turnL]
    split
    · rw [List.getElem?_set_ne (by omega), ih (by omega)]
    · exact ih (by omega)
theorem turnL_bit {l : List Int} (hb : Bit l) (a : Nat) (f : Nat → Int) (k : Nat) : Bit (turnL l a f k) := by
  induction k with
  | zero => exact hb
  | succ k ih =>
    rw [turnL]
    split
    · intro z hz
      rcases List.mem_or_eq_of_mem_set hz with q | q
      · exact ih z q
      · omega
    · exact ih
theorem cut3 (l : List Int) (a : Nat) : l = l.take a ++ (l.drop a).take 32 ++ l.drop (a + 32) := by
  rw [List.append_assoc, ← List.drop_drop, List.take_append_drop, List.take_append_drop]
theorem turnL_take (l : List Int) (a : Nat) (f : Nat → Int) : (turnL l a f 32).take a = l.take a := by
  apply List.ext_getElem?
  intro i
  rw [List.getElem?_take, List.getElem?_take]
  by_cases h : i < a
  · rw [if_pos h, if_pos h, turnL_out l a f 32 i (.inl h)]
  · rw [if_neg h, if_neg h]
theorem turnL_drop (l : List Int) (a : Nat) (f : Nat → Int) : (turnL l a f 32).drop (a + 32) = l.drop (a + 32) := by
  apply List.ext_getElem?
  intro i
  rw [List.getElem?_drop, List.getElem?_drop, turnL_out l a f 32 _ (.inr (by omega))]
theorem bitsL_chunk {l : List Int} (hb : Bit l) (n : Nat) (hl : l.length = 8 * n) : bitsL (chunkL l n) = l := by
  refine binN_inj (bitsL_bit _) hb (by rw [bitsL_len, chunkL_len, hl]) ?_
  rw [binN_bitsL (chunkL_bytes hb n), litN_chunk l n (by omega), ← hl, List.take_length]
/-- Bytes that are turned: they are as many, and bytes. -/
def turnB (zs : List Int) (a : Nat) (f : Nat → Int) : List Int := chunkL (turnL (bitsL zs) a f 32) zs.length
theorem turnB_len (zs : List Int) (a : Nat) (f : Nat → Int) : (turnB zs a f).length = zs.length := chunkL_len _ _
theorem turnB_bytes (zs : List Int) (a : Nat) (f : Nat → Int) : Bytes (turnB zs a f) := chunkL_bytes (turnL_bit (bitsL_bit _) a f 32) _
/-- P3.3. -/
theorem turned_same (x : BitVec 32) (zs : List Int) (hz : Bytes zs) (a : Nat) (f : Nat → Int) (h : crcS x zs = crcS x (turnB zs a f)) : zs = turnB zs a f := by
  have hT := turnL_bit (bitsL_bit zs) a f 32
  have hb : bitsL (turnB zs a f) = turnL (bitsL zs) a f 32 := bitsL_chunk hT _ (by rw [turnL_len, bitsL_len])
  rw [crcS_bits x zs hz, crcS_bits x _ (turnB_bytes zs a f), hb] at h
  have e1 := cut3 (bitsL zs) a
  have e2 := cut3 (turnL (bitsL zs) a f 32) a
  rw [turnL_take, turnL_drop] at e2
  have hw : ((bitsL zs).drop a).take 32 = ((turnL (bitsL zs) a f 32).drop a).take 32 := by
    refine burst x _ _ _ _ (((bitsL_bit zs).drop a).take 32) ((hT.drop a).take 32) ?_ (by simp; omega) (by rw [← e1, ← e2]; exact h)
    rw [List.length_take, List.length_take, List.length_drop, List.length_drop, turnL_len]
  have he : bitsL zs = turnL (bitsL zs) a f 32 := by rw [e2, ← hw, ← e1]
  refine litN_inj hz (turnB_bytes zs a f) (turnB_len zs a f).symm ?_
  rw [← binN_bitsL hz, ← binN_bitsL (turnB_bytes zs a f), hb, ← he]
theorem not_inj {x y : BitVec 32} (h : ~~~ x = ~~~ y) : x = y := by
  have : ~~~ (~~~ x) = ~~~ (~~~ y) := by rw [h]
  rwa [not_not, not_not] at this
theorem turned_ne (zs : List Int) (hz : Bytes zs) (a : Nat) (f : Nat → Int) (hne : zs ≠ turnB zs a f) : crcM (BitVec.ofNat 32 0) zs ≠ crcM (BitVec.ofNat 32 0) (turnB zs a f) := by
  intro h
  exact hne (turned_same _ zs hz a f (not_inj h))

/-- A text with a word behind it, the lowest byte first. -/
theorem seal_state (x : BitVec 32) (zs ts : List Int) (ht : Bytes ts) (h4 : ts.length = 4) : crcS x (zs ++ ts) = hvn 32 (crcS x zs ^^^ wd (litN ts)) := by
  rw [crcS_append, crcS_bits _ ts ht, crcB_word _ _ (bitsL_bit ts) (by rw [bitsL_len]; omega), bitsL_len, h4, binN_bitsL ht]
/-- It is the text's sum just where the state behind all is one number's. -/
theorem seal_iff (zs ts : List Int) (ht : Bytes ts) (h4 : ts.length = 4) : crcM (BitVec.ofNat 32 0) zs = wd (litN ts) ↔ crcS (~~~ (BitVec.ofNat 32 0)) (zs ++ ts) = hvn 32 (~~~ (BitVec.ofNat 32 0)) := by
  rw [seal_state _ zs ts ht h4]
  unfold crcM
  constructor
  · intro h
    rw [← h]
    congr 1
    rw [not_eq (crcS _ zs), ← BitVec.xor_assoc, BitVec.xor_self, BitVec.zero_xor]
  · intro h
    have h1 := hvn_inj h
    generalize crcS (~~~ (BitVec.ofNat 32 0)) zs = s at *
    rw [not_eq s, ← h1, ← BitVec.xor_assoc, BitVec.xor_self, BitVec.zero_xor]
end Go.Proofs.Ytinmkhdangknbaa
