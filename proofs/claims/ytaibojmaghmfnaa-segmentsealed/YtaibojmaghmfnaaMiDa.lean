/- Which messages may be: plain. -/
import Derived.Test.YtaibojmaghmfnaaMiA
namespace Go.Proofs.Ytaibojmaghmfnaa
open Go.RowKit
/-- What none of the fields of a message that may be is. -/
def BadF (m : Ms) : Prop := m.fi < 0 ∨ 16 ≤ m.fi ∨ m.ap < 0 ∨ 1048576 < m.ap ∨ m.ix < 0 ∨ 2147483647 < m.ix ∨ m.pa < 0 ∨ 8 < m.pa ∨ m.co < 0 ∨ 255 < m.co ∨ (4 : Int) < (m.rn : Int) ∨ (1024 : Int) < (m.dn : Int) ∨ (m.k = 2 ∧ (m.si < 1 ∨ 1048576 < m.si ∨ m.si < m.ap ∨ m.bd < 1 ∨ 1024 < m.bd)) ∨ (m.k = 3 ∧ (m.dn : Int) = 0)
theorem kd_five {k : Int} (h : isKd k = true) : k = 1 ∨ k = 2 ∨ k = 3 ∨ k = 4 ∨ k = 5 := by
  have := of_decide_eq_true h
  omega
theorem my_bad (m : Ms) (G : List (Int × Int)) (hk : isKd m.k = true) (hs : sameM m (plM m) = true) (hb : BadF m) : myM m G = false := by
  rw [Bool.eq_false_iff]
  intro hy
  obtain ⟨s1, s2, s3, s4, s5, s6, s7, s8, s9, s10⟩ := same_ask hs
  unfold BadF at hb
  rcases kd_five hk with e | e | e | e | e <;> unfold myM at hy <;> unfold plM Ms.kb at s1 s2 s3 s4 s5 s6 s7 s8 s9 s10 <;> rw [e] at hy s1 s2 s3 s4 s5 s6 s7 s8 s9 s10 hb <;> simp only [Int.reduceEq, ↓reduceIte, false_and, true_and, or_false, false_or] at hy s1 s2 s3 s4 s5 s6 s7 s8 s9 s10 hb
  · unfold my_ask bn_ask at hy
    simp only [Bool.and_eq_true, wi_iff] at hy
    unfold on_ask at s1 s2 s3 s4 s5 s6 s7 s8 s9 s10
    simp only at s1 s2 s3 s4 s5 s6 s7 s8 s9 s10
    omega
  · unfold my_offer bn_offer at hy
    simp only [Bool.and_eq_true, wi_iff] at hy
    unfold on_offer at s1 s2 s3 s4 s5 s6 s7 s8 s9 s10
    simp only at s1 s2 s3 s4 s5 s6 s7 s8 s9 s10
    omega
  · unfold my_data bn_data at hy
    simp only [Bool.and_eq_true, wi_iff] at hy
    unfold on_data at s1 s2 s3 s4 s5 s6 s7 s8 s9 s10
    simp only at s1 s2 s3 s4 s5 s6 s7 s8 s9 s10
    omega
  · unfold my_ack bn_ack at hy
    simp only [Bool.and_eq_true, wi_iff, decide_eq_true_eq] at hy
    unfold on_ack at s1 s2 s3 s4 s5 s6 s7 s8 s9 s10
    simp only at s1 s2 s3 s4 s5 s6 s7 s8 s9 s10
    omega
  · unfold my_no bn_no at hy
    simp only [Bool.and_eq_true, wi_iff] at hy
    unfold on_no at s1 s2 s3 s4 s5 s6 s7 s8 s9 s10
    simp only at s1 s2 s3 s4 s5 s6 s7 s8 s9 s10
    omega
theorem my_good (m : Ms) (G : List (Int × Int)) (hk : isKd m.k = true) (hs : sameM m (plM m) = true) (hg : G.length = m.rn) (hb : ¬ BadF m) : myM m G = ordP m.ix G := by
  obtain ⟨s1, s2, s3, s4, s5, s6, s7, s8, s9, s10⟩ := same_ask hs
  unfold BadF at hb
  have hs' := hs
  unfold plM at hs'
  rcases kd_five hk with e | e | e | e | e <;> unfold myM <;> unfold plM Ms.kb at s1 s2 s3 s4 s5 s6 s7 s8 s9 s10 <;> rw [e] at s1 s2 s3 s4 s5 s6 s7 s8 s9 s10 hb hs' ⊢ <;> simp only [Int.reduceEq, ↓reduceIte, false_and, true_and, or_false, false_or] at s1 s2 s3 s4 s5 s6 s7 s8 s9 s10 hb hs' ⊢
  · unfold my_ask bn_ask
    unfold on_ask at s1 s2 s3 s4 s5 s6 s7 s8 s9 s10
    simp only at s1 s2 s3 s4 s5 s6 s7 s8 s9 s10
    have hG : G = [] := List.eq_nil_of_length_eq_zero (by omega)
    rw [hG, show ordP m.ix [] = true from rfl]
    simp only [Bool.and_eq_true, wi_iff]
    exact ⟨hs', by omega⟩
  · unfold my_offer bn_offer
    unfold on_offer at s1 s2 s3 s4 s5 s6 s7 s8 s9 s10
    simp only at s1 s2 s3 s4 s5 s6 s7 s8 s9 s10
    have hG : G = [] := List.eq_nil_of_length_eq_zero (by omega)
    rw [hG, show ordP m.ix [] = true from rfl]
    simp only [Bool.and_eq_true, wi_iff]
    exact ⟨hs', by omega⟩
  · unfold my_data bn_data
    unfold on_data at s1 s2 s3 s4 s5 s6 s7 s8 s9 s10
    simp only at s1 s2 s3 s4 s5 s6 s7 s8 s9 s10
    have hG : G = [] := List.eq_nil_of_length_eq_zero (by omega)
    rw [hG, show ordP m.ix [] = true from rfl]
    simp only [Bool.and_eq_true, wi_iff]
    exact ⟨hs', by omega⟩
  · unfold my_ack bn_ack
    unfold on_ack at s1 s2 s3 s4 s5 s6 s7 s8 s9 s10
    simp only at s1 s2 s3 s4 s5 s6 s7 s8 s9 s10
    rw [show sameM m (on_ack m) = true from hs', show wi m.ix 0 2147483647 = true from wi_iff.2 (by omega), decide_eq_true (show m.rn ≤ 4 by omega)]
    rfl
  · unfold my_no bn_no
    unfold on_no at s1 s2 s3 s4 s5 s6 s7 s8 s9 s10
    simp only at s1 s2 s3 s4 s5 s6 s7 s8 s9 s10
    have hG : G = [] := List.eq_nil_of_length_eq_zero (by omega)
    rw [hG, show ordP m.ix [] = true from rfl]
    simp only [Bool.and_eq_true, wi_iff]
    exact ⟨hs', by omega⟩
end Go.Proofs.Ytaibojmaghmfnaa
