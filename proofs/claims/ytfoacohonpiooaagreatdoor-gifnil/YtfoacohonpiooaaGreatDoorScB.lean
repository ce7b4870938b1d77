/- What a GIF's beginning says, step by step as it is read: no program in it. -/
import Derived.Test.YtfoacohonpiooaaGreatDoorScA
import Derived.Test.YtfoacohonpiooaaGreatDoorBk1
import Derived.Test.YtfoacohonpiooaaGreatDoorAmM
namespace Go.Proofs.YtfoacohonpiooaaGreatDoor
open Go.RowKit
/-- A screen; its colours as bytes, three each. -/
structure Scr where
  W : Int
  H : Int
  T : List Int
  Lo : Bool
  C : Int
  La : Bool
  B : Int
/-- How many bytes the table has that marks tell. -/
def tbN (m : Int) : Nat := 3 * 2 ^ ((m % 8).toNat + 1)
theorem tbN_bd (m : Int) : 6 ≤ tbN m ∧ tbN m ≤ 768 ∧ ∃ k, tbN m = 3 * k ∧ 2 ≤ k := by
  have h : (m % 8).toNat < 8 := by omega
  unfold tbN
  generalize (m % 8).toNat = k at *
  match k, h with
  | 0, _ => exact ⟨by decide, by decide, 2, by decide⟩
  | 1, _ => exact ⟨by decide, by decide, 4, by decide⟩
  | 2, _ => exact ⟨by decide, by decide, 8, by decide⟩
  | 3, _ => exact ⟨by decide, by decide, 16, by decide⟩
  | 4, _ => exact ⟨by decide, by decide, 32, by decide⟩
  | 5, _ => exact ⟨by decide, by decide, 64, by decide⟩
  | 6, _ => exact ⟨by decide, by decide, 128, by decide⟩
  | 7, _ => exact ⟨by decide, by decide, 256, by decide⟩
def nmB : List Int := [71, 73, 70, 56, 57, 97]
def nm1 (k : Int) (s : St) : St := if b1 s = k then bS 1 s else fS 3 (bS 1 s)
def nmAt (st : St) : Nat → St
  | 0 => st
  | k + 1 => nm1 (nmB[k]?.getD 0) (nmAt st k)
def sdH (st : St) : Int := l2 (bS 2 st)
def sdM (st : St) : Int := b1 (bS 2 (bS 2 st))
def sdA (st : St) : St := bS 2 (bS 1 (bS 2 (bS 2 st)))
def sdB (st : St) : St := if picN (l2 st) (sdH st) then sdA st else fS 11 (sdA st)
def sdT (st : St) : List Int := if 128 ≤ sdM st then bL (tbN (sdM st)) (sdB st) else []
def sdS (st : St) : St := if 128 ≤ sdM st then bS (tbN (sdM st)) (sdB st) else sdB st
def sdV (st : St) : Scr := ⟨l2 st, sdH st, sdT st, false, -1, false, 0⟩
def bkT (st : St) : List Int := (bgo bs0 (stZ st)).1
def bkN (st : St) : Nat := (bgo bs0 (stZ st)).2.seen
def bkS : St → St
  | .ok z => if (bgo bs0 z).2.done = true then .ok (bgo bs0 z).2.rest else .error 2
  | .error e => .error e
/-- The extension that counts, as it must be. -/
abbrev exY (st : St) : Prop := b1 st = 249 ∧ stE (bkS (bS 1 st)) = 0
abbrev exG (st : St) : Prop := (bkT (bS 1 st)).length = 4 ∧ bkN (bS 1 st) = 6
def exS (st : St) : St := if exY st ∧ ¬ exG st then fS 3 (bkS (bS 1 st)) else bkS (bS 1 st)
def exC (C : Int) (st : St) : Int := if exY st ∧ exG st then (if (bkT (bS 1 st))[0]?.getD 0 % 2 = 1 then (bkT (bS 1 st))[3]?.getD 0 else -1) else C
def pc8 (st : St) : St := bS 2 (bS 2 (bS 2 (bS 2 st)))
def pcM (st : St) : Int := b1 (pc8 st)
abbrev pcOk (W H : Int) (st : St) : Prop := l2 st = 0 ∧ l2 (bS 2 st) = 0 ∧ l2 (bS 2 (bS 2 st)) = W ∧ l2 (bS 2 (bS 2 (bS 2 st))) = H
def pcA (s : Scr) (st : St) : St := if pcOk s.W s.H st then (if pcM st < 128 ∧ s.T = [] then fS 12 (bS 1 (pc8 st)) else bS 1 (pc8 st)) else fS 11 (bS 1 (pc8 st))
def pcT (s : Scr) (st : St) : List Int := if 128 ≤ pcM st then bL (tbN (pcM st)) (pcA s st) else s.T
def pcB (s : Scr) (st : St) : St := if 128 ≤ pcM st then bS (tbN (pcM st)) (pcA s st) else pcA s st
def pcS (s : Scr) (st : St) : St := if 2 ≤ b1 (pcB s st) ∧ b1 (pcB s st) ≤ 8 then bS 1 (pcB s st) else fS 3 (bS 1 (pcB s st))
def pcV (s : Scr) (st : St) : Scr := ⟨s.W, s.H, pcT s st, decide (128 ≤ pcM st), s.C, decide (pcM st / 64 % 2 = 1), b1 (pcB s st)⟩
/-- What is told at the end. -/
def shut (s : Scr) : St → Except Int (Scr × List Int)
  | .ok r => .ok (s, r)
  | .error e => .error e
def gRest : Nat → Scr → St → Except Int (Scr × List Int)
  | 0, _, _ => .error 0
  | f + 1, s, st =>
    if b1 st = 33 then gRest f { s with C := exC s.C (bS 1 st) } (exS (bS 1 st))
    else if b1 st = 44 then shut (pcV s (bS 1 st)) (pcS s (bS 1 st))
    else if b1 st = 59 then shut s (fS 16 (bS 1 st))
    else shut s (fS 3 (bS 1 st))
def gAll (zs : List Int) : Except Int (Scr × List Int) := gRest (zs.length + 2) (sdV (nmAt (.ok zs) 6)) (sdS (nmAt (.ok zs) 6))
theorem b1_ok (x : Int) (r : List Int) : b1 (.ok (x :: r)) = x := by
  unfold b1; rw [bL_more (by simp)]; simp [bigN]
theorem b1_nil : b1 (.ok []) = 0 := by unfold b1; rw [bL_short (by simp)]; rfl
theorem b1_err (e : Int) : b1 (.error e) = 0 := rfl
theorem bS1_ok (x : Int) (r : List Int) : bS 1 (.ok (x :: r)) = .ok r := by rw [bS_more (by simp)]; rfl
theorem bS1_nil : bS 1 (.ok []) = .error 2 := bS_short (by simp)
theorem l2_ok (x y : Int) (r : List Int) : l2 (.ok (x :: y :: r)) = x + 256 * y := by
  unfold l2; rw [bL_more (by simp)]; simp [litN]
theorem bS2_ok (x y : Int) (r : List Int) : bS 2 (.ok (x :: y :: r)) = .ok r := by rw [bS_more (by simp)]; rfl
theorem l2_err (e : Int) : l2 (.error e) = 0 := rfl
theorem bS_err (n : Nat) (e : Int) : bS n (.error e) = .error e := rfl
theorem fS_err (x e : Int) : fS x (.error e) = .error e := rfl
theorem bL_err (n : Nat) (e : Int) : bL n (.error e) = [] := rfl
theorem bS_len (n : Nat) (st : St) : (stZ (bS n st)).length ≤ (stZ st).length := by
  cases st with
  | ok z =>
    by_cases h : z.length < n
    · rw [bS_short h]; simp [stZ]
    · rw [bS_more h]; simp [stZ]
  | error e => exact Nat.le_refl _
theorem fS_len (x : Int) (st : St) : (stZ (fS x st)).length = 0 := by cases st <;> rfl
theorem bkS_len (st : St) : (stZ (bkS st)).length ≤ (stZ st).length := by
  cases st with
  | ok z =>
    by_cases h : (bgo bs0 z).2.done = true
    · have e : bkS (.ok z) = .ok (bgo bs0 z).2.rest := if_pos h
      rw [e]; have := bgo_rest z bs0; simpa [stZ, bs0] using this
    · have e : bkS (.ok z) = .error 2 := if_neg h
      rw [e]; simp [stZ]
  | error e => exact Nat.le_refl _
theorem exS_len (st : St) : (stZ (exS st)).length ≤ (stZ st).length := by
  unfold exS
  split
  · rw [fS_len]; omega
  · exact Nat.le_trans (bkS_len _) (bS_len 1 st)
/-- A state that tells a byte that isn't 0. -/
theorem b1_pos {st : St} (h : b1 st ≠ 0) : ∃ r, st = .ok (b1 st :: r) ∧ bS 1 st = .ok r := by
  cases st with
  | ok z =>
    cases z with
    | nil => exact absurd b1_nil h
    | cons x r => exact ⟨r, by rw [b1_ok], bS1_ok x r⟩
  | error e => exact absurd (b1_err e) h
theorem gRest_err (f : Nat) (s : Scr) (e : Int) : gRest (f + 1) s (.error e) = .error e := rfl
theorem gRest_33 {f : Nat} {s : Scr} {st : St} (h : b1 st = 33) : gRest (f + 1) s st = gRest f { s with C := exC s.C (bS 1 st) } (exS (bS 1 st)) := by rw [gRest, if_pos h]
theorem gRest_44 {f : Nat} {s : Scr} {st : St} (h : b1 st = 44) : gRest (f + 1) s st = shut (pcV s (bS 1 st)) (pcS s (bS 1 st)) := by rw [gRest, if_neg (by omega), if_pos h]
theorem gRest_59 {f : Nat} {s : Scr} {st : St} (h : b1 st = 59) : gRest (f + 1) s st = shut s (fS 16 (bS 1 st)) := by rw [gRest, if_neg (by omega), if_neg (by omega), if_pos h]
theorem gRest_no {f : Nat} {s : Scr} {st : St} (h1 : b1 st ≠ 33) (h2 : b1 st ≠ 44) (h3 : b1 st ≠ 59) : gRest (f + 1) s st = shut s (fS 3 (bS 1 st)) := by rw [gRest, if_neg h1, if_neg h2, if_neg h3]
theorem nm1_err (k e : Int) (hk : k ≠ 0) : nm1 k (.error e) = .error e := by
  unfold nm1; rw [b1_err, if_neg (by omega)]; rfl
/-- All states: bytes are bytes. -/
theorem b1_bd {w : World} {c U : Nat} {st : St} (h : CS w c U st) : 0 ≤ b1 st ∧ b1 st ≤ 255 := by
  have hb := h.byt
  cases st with
  | ok z =>
    cases z with
    | nil => rw [b1_nil]; omega
    | cons x r => rw [b1_ok]; have := hb x (by simp [stZ]); omega
  | error e => rw [b1_err]; omega
theorem l2_bd {w : World} {c U : Nat} {st : St} (h : CS w c U st) : 0 ≤ l2 st ∧ l2 st ≤ 65535 := by
  have hb := litN_bound (h.bl 2)
  unfold l2
  rcases bL_len 2 st with k | k
  · rw [k] at hb; omega
  · rw [k]; simp [litN]
end Go.Proofs.YtfoacohonpiooaaGreatDoor
