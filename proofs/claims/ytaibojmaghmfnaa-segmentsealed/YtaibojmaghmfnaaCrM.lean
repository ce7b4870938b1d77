/- Plain facts on CRC-32: no program in it. -/
import Derived.Test.YtaibojmaghmfnaaNum
namespace Go.Proofs.Ytaibojmaghmfnaa

def poly : BitVec 32 := (BitVec.ofNat 32 0xedb88320)
/-- One bit on. -/
def hv (x : BitVec 32) : BitVec 32 := (x >>> 1) ^^^ (if x.getLsbD 0 then poly else (BitVec.ofNat 32 0))
theorem hv_xor (x y : BitVec 32) : hv (x ^^^ y) = hv x ^^^ hv y := by
  unfold hv
  rw [BitVec.ushiftRight_xor_distrib, BitVec.getLsbD_xor]
  cases x.getLsbD 0 <;> cases y.getLsbD 0 <;> simp
  · rw [BitVec.xor_assoc]
  · rw [BitVec.xor_assoc, BitVec.xor_comm (y >>> 1), ← BitVec.xor_assoc]
  · rw [BitVec.xor_assoc, ← BitVec.xor_assoc poly, BitVec.xor_comm poly, BitVec.xor_assoc (y >>> 1), BitVec.xor_self, BitVec.xor_zero]
theorem hv_zero : hv (BitVec.ofNat 32 0) = (BitVec.ofNat 32 0) := by decide
theorem hv_inj0 (x : BitVec 32) (h : hv x = (BitVec.ofNat 32 0)) : x = (BitVec.ofNat 32 0) := by
  have h31 : (hv x).getLsbD 31 = false := by rw [h]; simp
  have hl : x.getLsbD 0 = false := by
    cases hb : x.getLsbD 0 with
    | false => rfl
    | true =>
      unfold hv at h31
      rw [hb, if_pos rfl, BitVec.getLsbD_xor, BitVec.getLsbD_ushiftRight] at h31
      have hp : poly.getLsbD 31 = true := by decide
      have hx : x.getLsbD (1 + 31) = false := BitVec.getLsbD_of_ge _ _ (by omega)
      rw [hp, hx] at h31
      cases h31
  have hs : x >>> 1 = (BitVec.ofNat 32 0) := by
    unfold hv at h
    rw [hl] at h
    simpa using h
  apply BitVec.eq_of_getLsbD_eq
  intro i hi
  cases i with
  | zero => rw [hl]; simp
  | succ i =>
    have := congrArg (fun b => BitVec.getLsbD b i) hs
    simp only [BitVec.getLsbD_ushiftRight] at this
    rw [Nat.add_comm] at this
    rw [this]
    simp
theorem xor_eq_zero {x y : BitVec 32} (h : x ^^^ y = (BitVec.ofNat 32 0)) : x = y := by
  have : x ^^^ y ^^^ y = (BitVec.ofNat 32 0) ^^^ y := by rw [h]
  rwa [BitVec.xor_assoc, BitVec.xor_self, BitVec.xor_zero, BitVec.zero_xor] at this
theorem hv_inj {x y : BitVec 32} (h : hv x = hv y) : x = y := by
  refine xor_eq_zero (hv_inj0 _ ?_)
  rw [hv_xor, h, BitVec.xor_self]

def hvn : Nat → BitVec 32 → BitVec 32
  | 0, x => x
  | k + 1, x => hvn k (hv x)
theorem hvn_add (a b : Nat) (x : BitVec 32) : hvn (a + b) x = hvn b (hvn a x) := by
  induction a generalizing x with
  | zero => rw [Nat.zero_add]; rfl
  | succ a ih => rw [show a + 1 + b = (a + b) + 1 by omega]; exact ih (hv x)
theorem hvn_succ (k : Nat) (x : BitVec 32) : hvn (k + 1) x = hv (hvn k x) := hvn_add k 1 x
theorem hvn_xor (k : Nat) (x y : BitVec 32) : hvn k (x ^^^ y) = hvn k x ^^^ hvn k y := by
  induction k generalizing x y with
  | zero => rfl
  | succ k ih => rw [hvn, hv_xor, ih]; rfl
theorem hvn_zero (k : Nat) : hvn k (BitVec.ofNat 32 0) = (BitVec.ofNat 32 0) := by
  induction k with
  | zero => rfl
  | succ k ih => rw [hvn, hv_zero, ih]
theorem hvn_inj {k : Nat} {x y : BitVec 32} (h : hvn k x = hvn k y) : x = y := by
  induction k generalizing x y with
  | zero => exact h
  | succ k ih => exact hv_inj (ih h)

/-- A byte as a word. -/
def wd (z : Int) : BitVec 32 := BitVec.ofInt 32 z
/-- The state behind bytes. -/
def crcS (x : BitVec 32) (zs : List Int) : BitVec 32 := zs.foldl (fun x z => hvn 8 (x ^^^ wd z)) x
def crcM (n : BitVec 32) (zs : List Int) : BitVec 32 := ~~~ (crcS (~~~ n) zs)
theorem crcS_snoc (x : BitVec 32) (l : List Int) (z : Int) : crcS x (l ++ [z]) = hvn 8 (crcS x l ^^^ wd z) := by simp [crcS, List.foldl_append]
theorem crcS_append (x : BitVec 32) (l m : List Int) : crcS x (l ++ m) = crcS (crcS x l) m := by simp [crcS, List.foldl_append]
theorem not_not (x : BitVec 32) : ~~~ (~~~ x) = x := by simp
theorem crcM_append (n : BitVec 32) (l m : List Int) : crcM n (l ++ m) = crcM (crcM n l) m := by
  unfold crcM
  rw [not_not, crcS_append]
theorem crcS_split (x y : BitVec 32) (zs : List Int) : crcS (x ^^^ y) zs = hvn (8 * zs.length) x ^^^ crcS y zs := by
  induction zs generalizing x y with
  | nil => rfl
  | cons z r ih =>
    show crcS (hvn 8 (x ^^^ y ^^^ wd z)) r = _
    rw [BitVec.xor_assoc, hvn_xor, ih, List.length_cons, show 8 * (r.length + 1) = 8 + 8 * r.length by omega, hvn_add]
    rfl
theorem not_eq (x : BitVec 32) : ~~~ x = x ^^^ ~~~ (BitVec.ofNat 32 0) := by
  rw [show (~~~ (BitVec.ofNat 32 0) : BitVec 32) = BitVec.allOnes 32 by decide, BitVec.xor_allOnes]
/-- P3.2: the sum of two texts together. -/
theorem join_together (A B : List Int) : hvn (8 * B.length) (crcM (BitVec.ofNat 32 0) A) ^^^ crcM (BitVec.ofNat 32 0) B = crcM (crcM (BitVec.ofNat 32 0) A) B := by
  have e1 : crcM (crcM (BitVec.ofNat 32 0) A) B = ~~~ (hvn (8 * B.length) (crcS (~~~ (BitVec.ofNat 32 0)) A) ^^^ crcS (BitVec.ofNat 32 0) B) := by
    unfold crcM
    rw [not_not, ← crcS_split, BitVec.xor_zero]
  have e2 : crcM (BitVec.ofNat 32 0) B = ~~~ (hvn (8 * B.length) (~~~ (BitVec.ofNat 32 0)) ^^^ crcS (BitVec.ofNat 32 0) B) := by
    unfold crcM
    rw [← crcS_split, BitVec.xor_zero]
  have e3 : crcM (BitVec.ofNat 32 0) A = crcS (~~~ (BitVec.ofNat 32 0)) A ^^^ ~~~ (BitVec.ofNat 32 0) := by unfold crcM; exact not_eq _
  rw [e1, e2, e3, hvn_xor, not_eq (hvn _ _ ^^^ _), not_eq (hvn _ (crcS _ _) ^^^ _)]
  generalize hvn (8 * B.length) (crcS (~~~ (BitVec.ofNat 32 0)) A) = p
  generalize hvn (8 * B.length) (~~~ (BitVec.ofNat 32 0)) = q
  generalize crcS (BitVec.ofNat 32 0) B = r
  generalize (~~~ (BitVec.ofNat 32 0) : BitVec 32) = t
  rw [BitVec.xor_assoc, ← BitVec.xor_assoc q, ← BitVec.xor_assoc q, BitVec.xor_self, BitVec.zero_xor, BitVec.xor_assoc]

/-- The product: a's bits, the highest first, each for one bit on of b. -/
def mulK (a b : BitVec 32) : Nat → BitVec 32
  | 0 => (BitVec.ofNat 32 0)
  | k + 1 => mulK a b k ^^^ (if a.getLsbD (31 - k) then hvn k b else (BitVec.ofNat 32 0))
def mul (a b : BitVec 32) : BitVec 32 := mulK a b 32
theorem mulK_hv (a b : BitVec 32) (k : Nat) : mulK a (hv b) k = hv (mulK a b k) := by
  induction k with
  | zero => exact hv_zero.symm
  | succ k ih =>
    simp only [mulK]
    rw [ih, hv_xor]
    congr 1
    cases a.getLsbD (31 - k) with
    | false => exact hv_zero.symm
    | true =>
      simp only [if_true]
      rw [← hvn_succ]
      rfl
theorem mul_hvn (a b : BitVec 32) (m : Nat) : mul a (hvn m b) = hvn m (mul a b) := by
  induction m generalizing b with
  | zero => rfl
  | succ m ih =>
    rw [hvn, ih]
    unfold mul
    rw [mulK_hv]
    rfl
def one : BitVec 32 := (BitVec.ofNat 32 0x80000000)
theorem hvn_one (k : Nat) (h : k < 32) : hvn k one = BitVec.twoPow 32 (31 - k) := by
  have : ∀ k : Fin 32, hvn k.1 one = BitVec.twoPow 32 (31 - k.1) := by decide
  exact this ⟨k, h⟩
theorem mulK_one (a : BitVec 32) (k : Nat) (hk : k ≤ 32) (i : Nat) (hi : i < 32) : (mulK a one k).getLsbD i = (decide (32 - k ≤ i) && a.getLsbD i) := by
  induction k with
  | zero => simp [mulK]; omega
  | succ k ih =>
    simp only [mulK]
    rw [BitVec.getLsbD_xor, ih (by omega), hvn_one k (by omega)]
    by_cases e : i = 31 - k
    · subst e
      cases a.getLsbD (31 - k) <;> simp <;> omega
    · have h1 : decide (32 - k ≤ i) = decide (32 - (k + 1) ≤ i) := by
        rw [decide_eq_decide]; omega
      rw [h1]
      cases a.getLsbD (31 - k) <;> simp [BitVec.getLsbD_twoPow, Ne.symm e]
theorem mul_one (a : BitVec 32) : mul a one = a := by
  apply BitVec.eq_of_getLsbD_eq
  intro i hi
  unfold mul
  rw [mulK_one a 32 (by omega) i hi]
  simp
theorem mul_pow (a : BitVec 32) (m : Nat) : mul a (hvn m one) = hvn m a := by rw [mul_hvn, mul_one]
end Go.Proofs.Ytaibojmaghmfnaa
