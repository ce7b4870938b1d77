/- Parcels: a weight, and symbols in memory; the sort's comparison; the library's insertion sort over them. -/
import Derived.Test.YtjellgkojmgmjaaHfA
import Derived.Shelf.SlSortCmp.KitK
namespace Go.Proofs.Ytjellgkojmgmjaa
open Go.RowKit

/-- A parcel: its weight, and where its symbols lie: block b, n of them. -/
structure Pv where
  wt : Int
  b : Nat
  n : Nat
  c : Nat
  deriving Inhabited
def Pv.enc (x : Pv) : List Value := [.int .i64 x.wt, .slice (some ⟨x.b, 0, none⟩) x.n x.c]
def cmpW (x y : Pv) : Int := if x.wt < y.wt then -1 else if y.wt < x.wt then 1 else 0
set_option maxHeartbeats 400000 in
theorem isNaN_any (x : Int) (w : World) : Calls Try.prog 52 #[.int .i64 x] w fun e w' => e = .returned (.bool false) ∧ w' = w := by
  go_enter Try.func52, Try.ntmps52
  go_wp2
  go_ret
  exact ⟨by simp, rfl⟩
set_option maxHeartbeats 400000 in
theorem compare_any (x y : Int) (w : World) : Calls Try.prog 49 #[.int .i64 x, .int .i64 y] w fun e w' => e = .returned (.int .i64 (if x < y then -1 else if y < x then 1 else 0)) ∧ w' = w := by
  by_cases h1 : x < y
  · rw [if_pos h1]
    go_enter Try.func49, Try.ntmps49
    go_wp2_with (go_at_call 52; refine (isNaN_any _ _).mono ?_; rintro e w' ⟨rfl, rfl⟩)
    go_ret
    exact ⟨rfl, rfl⟩
  · rw [if_neg h1]
    by_cases h2 : y < x
    · rw [if_pos h2]
      go_enter Try.func49, Try.ntmps49
      go_wp2_with (go_at_call 52; refine (isNaN_any _ _).mono ?_; rintro e w' ⟨rfl, rfl⟩)
      go_ret
      exact ⟨rfl, rfl⟩
    · rw [if_neg h2]
      go_enter Try.func49, Try.ntmps49
      go_wp2_with (go_at_call 52; refine (isNaN_any _ _).mono ?_; rintro e w' ⟨rfl, rfl⟩)
      go_ret
      exact ⟨rfl, rfl⟩
set_option maxHeartbeats 400000 in
theorem closure_any (x y : Pv) (w : World) : Calls Try.prog 48 #[.agg x.enc.toArray, .agg y.enc.toArray] w fun e w' => e = .returned (.int .i64 (cmpW x y)) ∧ ∃ os, w' = Sort.grow w os := by
  obtain ⟨xw, xb, xn, xc⟩ := x
  obtain ⟨yw, yb, yn, yc⟩ := y
  show Calls Try.prog 48 #[.agg #[.int .i64 xw, .slice (some ⟨xb, 0, none⟩) xn xc], .agg #[.int .i64 yw, .slice (some ⟨yb, 0, none⟩) yn yc]] w _
  obtain ⟨R, HR, C⟩ : ∃ R : Int, Hid ((if xw < yw then -1 else if yw < xw then 1 else 0) = R) ∧ ∀ W, Calls Try.prog 49 #[.int .i64 xw, .int .i64 yw] W fun e w' => e = .returned (.int .i64 R) ∧ w' = W := ⟨_, rfl, fun W => compare_any xw yw W⟩
  go_enter Try.func48, Try.ntmps48
  go_wp2_with (go_at_call 49; refine (C _).mono ?_; rintro e w' ⟨rfl, hw'⟩; subst hw')
  go_ret
  exact ⟨ret_int (by rw [← HR.out]; rfl), _, by rw [Sort.alloc_eq_grow, Sort.alloc_eq_grow, Sort.grow_grow]⟩
theorem cmpLays (blk off size : Nat) (w : World) : CmpLays Try.prog 48 #[] Pv.enc 2 cmpW blk off size w := by
  intro m os dk _ x y
  refine (closure_any x y _).mono ?_
  rintro e w' ⟨he, os', hw⟩
  exact ⟨he, 0, os', by rw [hw]; rfl⟩

def ren54 : Shelf.Ren := { f := fun x => match x with | 20 => 54 | n => n, t := fun x => match x with | 24 => 86 | 22 => 83 | 25 => 94 | n => n, g := fun n => n }
theorem l54 : SlLaysF0.n20 Try.prog ren54 :=
  { mixed := by kernel_rfl
    f20 := ⟨Try.f54.name, of_decide_eq_true (by kernel_rfl), Eq.trans Try.func54 (congrArg some (by kernel_rfl))⟩
    t0 := Try.underlying0
    a0 := Try.isAgg0
    z0 := Try.sizeOf0
    v0 := Try.zeroValue0
    t3 := Try.underlying3
    a3 := Try.isAgg3
    z3 := Try.sizeOf3
    v3 := Try.zeroValue3
    t4 := Try.underlying4
    a4 := Try.isAgg4
    z4 := Try.sizeOf4
    v4 := Try.zeroValue4
    t22 := Try.underlying83
    a22 := Try.isAgg83
    z22 := Try.sizeOf83
    v22 := Try.zeroValue83
    t25 := Try.underlying94
    a25 := Try.isAgg94
    z25 := Try.sizeOf94
    v25 := Try.zeroValue94 }
theorem enc_len (x : Pv) : x.enc.length = 2 := rfl
theorem enc_one (x : Pv) : ∀ v ∈ x.enc, v.oneCell' = true := by
  intro v hv
  simp only [Pv.enc, List.mem_cons, List.not_mem_nil, or_false] at hv
  rcases hv with rfl | rfl <;> rfl
theorem insertion_any (blk off cap a b : Nat) (d : Array Pv) (w : World) (hH : Sort.HoldsK Pv.enc 2 w blk off d) (hblk : blk < w.heap.size) (hab : a ≤ b) (hb : b ≤ d.size) (hsz : d.size < 4611686018427387904) :
    Calls Try.prog 54 #[.slice (some ⟨blk, off, none⟩) d.size cap, .int .i64 a, .int .i64 b, .func (.func 48) #[] #[]] w fun e w' =>
      e = .returned (.tuple #[]) ∧ ∃ n os, w' = sortWorldK Pv.enc 2 w blk off n (Sort.insertionSort (ltOf cmpW) d a b) os :=
  AnyQ.insertionSortCmpFunc l54 2 Try.isAgg86 Try.sizeOf86 Pv.enc enc_len enc_one cmpW 48 #[] blk off cap a b d w (enters_of Try.func48 (by kernel_rfl) rfl) (cmpLays blk off d.size w) hH hblk hab hb hsz
end Go.Proofs.Ytjellgkojmgmjaa
