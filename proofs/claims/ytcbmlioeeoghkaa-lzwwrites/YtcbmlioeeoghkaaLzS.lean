/- LZW: what a packer writes (plain). -/
import Derived.Test.YtcbmlioeeoghkaaLzR
namespace Go.Proofs.Ytcbmlioeeoghkaa
open Go.RowKit
theorem lng_bound {L : Nat} {fs : List Tx} : ∀ (r : List Int) (c : Nat), c < fcN L + fs.length → (lngN L fs c r).1 < fcN L + fs.length
  | [], c, h => h
  | x :: r, c, h => by
    unfold lngN
    cases hi : ixT fs c x with
    | none => exact h
    | some i => exact lng_bound r _ (by have := (List.getElem?_eq_some_iff.1 (ixT_lt fs c x i hi)).1; omega)
theorem lng_len {L : Nat} {fs : List Tx} : ∀ (r : List Int) (c : Nat), (lngN L fs c r).2 ≤ r.length
  | [], c => Nat.le_refl _
  | x :: r, c => by
    unfold lngN
    cases hi : ixT fs c x with
    | none => exact Nat.zero_le _
    | some i => simp only [List.length_cons]; exact Nat.succ_le_succ (lng_len r _)
theorem lng_max {L : Nat} {fs : List Tx} : ∀ (r : List Int) (c : Nat) (y : Int) (r' : List Int), r.drop (lngN L fs c r).2 = y :: r' → ixT fs (lngN L fs c r).1 y = none
  | [], c, y, r', h => by simp [lngN] at h
  | x :: r, c, y, r', h => by
    unfold lngN at h ⊢
    cases hi : ixT fs c x with
    | none =>
      rw [hi] at h
      simp only [List.drop_zero, List.cons.injEq] at h
      rw [← h.1]; exact hi
    | some i =>
      rw [hi] at h
      simp only [List.drop_succ_cons] at h
      exact lng_max r _ y r' h
/-- What is written behind the first clear. -/
def pkE (L : Nat) (late : Int) : Nat → List Int → List Tx → Nat → List Em
  | 0, _, _, wr => [(2 ^ L + 1, widW L wr)]
  | _ + 1, [], _, wr => [(2 ^ L + 1, widW L wr)]
  | n + 1, x :: r, fs, wr =>
    ((lngN L fs x.toNat r).1, widW L wr) :: match r.drop (lngN L fs x.toNat r).2 with
      | [] => [(2 ^ L + 1, widW L (wr + 1))]
      | y :: b => if (wr : Int) + 1 - ((4096 - fcN L : Nat) : Int) = late then (2 ^ L, widW L (wr + 1)) :: pkE L late n (y :: b) [] 0
        else pkE L late n (y :: b) (lrnP L fs (lngN L fs x.toNat r).1 y) (wr + 1)
def pkA (L : Nat) (late : Int) (bs : List Int) : List Em := (2 ^ L, widW L 0) :: pkE L late bs.length bs [] 0
def outE (es : List Em) : List Int := (List.range ((cntE es + 7) / 8)).map fun i => numE es / 256 ^ i % 256
theorem Bitz.out {zs : List Int} {es : List Em} (h : Bitz zs (numE es) (cntE es)) : zs = outE es := by
  obtain ⟨h1, h2, h3, -⟩ := h
  refine List.ext_getElem (by unfold outE; simp [h2]) fun i hi hj => ?_
  have e := litN_mod h1 i
  rw [h3, List.getElem?_eq_getElem hi, Option.getD_some] at e
  simp only [outE, List.getElem_map, List.getElem_range]
  exact e.symm
theorem lrnP_len {L : Nat} {fs : List Tx} {c : Nat} {y : Int} {wr : Nat} (hF : fcN L ≤ 4096) (h1 : fs.length ≤ wr) (h2 : fcN L + fs.length ≤ 4096) : (lrnP L fs c y).length ≤ wr + 1 ∧ fcN L + (lrnP L fs c y).length ≤ 4096 := by
  unfold lrnP
  split
  · rw [List.length_append, List.length_singleton]; omega
  · omega
end Go.Proofs.Ytcbmlioeeoghkaa
