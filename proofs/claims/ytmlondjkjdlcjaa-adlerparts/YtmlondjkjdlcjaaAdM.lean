/- Plain facts on Adler's sums: no program in it. -/
import Derived.Test.YtmlondjkjdlcjaaNum
namespace Go.Proofs.Ytmlondjkjdlcjaa
open Go.RowKit

/-- One byte on. -/
def astep (p : Int × Int) (v : Int) : Int × Int := ((p.1 + v) % 65521, (p.2 + (p.1 + v) % 65521) % 65521)
def amore (p : Int × Int) (zs : List Int) : Int × Int := zs.foldl astep p
def low (n : Int) : Int := n % 65536 % 65521
def high (n : Int) : Int := n / 65536 % 65521
def halves (n : Int) : Int × Int := (low n, high n)
def whole (p : Int × Int) : Int := p.2 * 65536 + p.1
def adlM (n : Int) (zs : List Int) : Int := whole (amore (halves n) zs)
def In (p : Int × Int) : Prop := 0 ≤ p.1 ∧ p.1 < 65521 ∧ 0 ≤ p.2 ∧ p.2 < 65521
theorem halves_in (n : Int) : In (halves n) := by unfold In halves low high; omega
theorem astep_in (p : Int × Int) (v : Int) : In (astep p v) := by unfold In astep; omega
theorem amore_in {p : Int × Int} (h : In p) (zs : List Int) : In (amore p zs) := by
  induction zs generalizing p with
  | nil => exact h
  | cons z r ih => exact ih (astep_in p z)
theorem amore_snoc (p : Int × Int) (l : List Int) (x : Int) : amore p (l ++ [x]) = astep (amore p l) x := by simp [amore, List.foldl_append]
theorem amore_append (p : Int × Int) (l m : List Int) : amore p (l ++ m) = amore (amore p l) m := by simp [amore, List.foldl_append]
theorem halves_whole {p : Int × Int} (h : In p) : halves (whole p) = p := by
  obtain ⟨a, b⟩ := p
  unfold In at h
  simp only at h
  unfold halves whole low high
  simp only [Prod.mk.injEq]
  omega
theorem whole_bd {p : Int × Int} (h : In p) : 0 ≤ whole p ∧ whole p < 4294967296 := by unfold In at h; unfold whole; omega
theorem adlM_append (n : Int) (l m : List Int) : adlM n (l ++ m) = adlM (adlM n l) m := by
  unfold adlM
  rw [amore_append, halves_whole (amore_in (halves_in n) l)]
theorem adlM_bd (n : Int) (l : List Int) : 0 ≤ adlM n l ∧ adlM n l < 4294967296 := whole_bd (amore_in (halves_in n) l)

/-- The sum of two texts together, of their sums; c bytes (at least 0) are the second's. -/
def joinN (a b c : Int) : Int := whole (((low a + 65520) % 65521 + low b) % 65521, (high a + high b + (low a + 65520) % 65521 * (c % 65521)) % 65521)
def isN (n : Int) : Bool := decide (n % 65536 < 65521) && decide (n / 65536 < 65521)
/-- 't<<16 | s'. -/
theorem u32_or (a b : Int) (h0 : 0 ≤ a) (h1 : a < 4294967296) (h2 : 0 ≤ b) (h3 : b < 4294967296) : bits .or .u32 a b = (a.toNat ||| b.toNat : Nat) := by
  have e : (BitVec.ofInt 32 a ||| BitVec.ofInt 32 b).toNat = a.toNat ||| b.toNat := by
    rw [BitVec.toNat_or, BitVec.toNat_ofInt, BitVec.toNat_ofInt, Int.emod_eq_of_lt h0 (by omega), Int.emod_eq_of_lt h2 (by omega)]
  have hlt : a.toNat ||| b.toNat < 2 ^ 32 := Nat.or_lt_two_pow (by omega) (by omega)
  show IntKind.u32.wrap ((BitVec.ofInt 32 a ||| BitVec.ofInt 32 b).toNat : Nat) = _
  rw [e, IntKind.wrap_u32]
  omega
theorem or_whole (s t : Int) (h0 : 0 ≤ s) (h1 : s < 65521) (h2 : 0 ≤ t) (h3 : t < 65521) : bits .or .u32 (t * 65536) s = t * 65536 + s := by
  rw [u32_or _ _ (by omega) (by omega) h0 (by omega), nat_join 16 _ _ (by omega) (by omega)]
  omega
end Go.Proofs.Ytmlondjkjdlcjaa
