/- LZW: the machine goes on, code by code. -/
import Derived.Test.YtcbmlioeeoghkaaLzM
namespace Go.Proofs.Ytcbmlioeeoghkaa
open Go.RowKit
def lzB (s : Lz) : Nat := 8 * s.zs.length - s.gone
theorem lzC_same {L : Nat} {s : Lz} {c : Nat} (h : (lzC L s c).k = 0) : (lzC L s c).zs = s.zs ∧ (lzC L s c).gone = s.gone := by
  unfold lzC at h ⊢
  split
  · exact ⟨rfl, rfl⟩
  · rename_i h1
    rw [if_neg h1] at h
    split
    · rename_i h2
      rw [if_pos h2] at h; cases h
    · rename_i h2
      rw [if_neg h2] at h
      split
      · rename_i h3
        rw [h3] at h; cases h
      · rename_i fs' h3
        rw [h3] at h
        simp only at h
        unfold lzT at h ⊢
        split
        · exact ⟨rfl, rfl⟩
        · rename_i h4
          rw [if_neg h4] at h; cases h
theorem lzS_dec {L : Nat} {s t : Lz} (hL : L ≤ 8) (h : lzS L s = some t) (hk : t.k = 0) : lzB t < lzB s := by
  unfold lzS at h
  split at h
  · cases h
  · rename_i hen
    injection h with h
    subst h
    obtain ⟨e1, e2⟩ := lzC_same hk
    have hw := widN_le L (fcN L + s.fs.length) hL
    have hW : lzW L s = widN L (fcN L + s.fs.length) := rfl
    rw [← hW] at hw
    unfold lzB
    rw [e1, e2]
    show 8 * (s.zs.drop ((s.gone + lzW L s) / 8)).length - (s.gone + lzW L s) % 8 < 8 * s.zs.length - s.gone
    generalize lzW L s = W at *
    rw [List.length_drop]
    omega
theorem lzR_stop {L n : Nat} {s : Lz} (h : s.k ≠ 0) : lzR L n s = s := by
  cases n with
  | zero => rfl
  | succ n => rw [lzR, if_neg h]
theorem lzR_fuel {L : Nat} (hL : L ≤ 8) : ∀ (n m : Nat) (s : Lz), lzB s < n → lzB s < m → lzR L n s = lzR L m s
  | 0, _, _, h, _ => by omega
  | _ + 1, 0, _, _, h => by omega
  | n + 1, m + 1, s, h1, h2 => by
    rw [lzR, lzR]
    by_cases hk : s.k = 0
    · rw [if_pos hk, if_pos hk]
      cases hs : lzS L s with
      | none => rfl
      | some t =>
        simp only
        by_cases ht : t.k = 0
        · have := lzS_dec hL hs ht
          exact lzR_fuel hL n m t (by omega) (by omega)
        · rw [lzR_stop ht, lzR_stop ht]
    · rw [if_neg hk, if_neg hk]
theorem lzG_stop {L : Nat} {s : Lz} (h : s.k ≠ 0 ∨ lzS L s = none) : lzG L s = s := by
  unfold lzG
  rw [lzR]
  rcases h with h | h
  · rw [if_neg h]
  · by_cases hk : s.k = 0
    · rw [if_pos hk, h]
    · rw [if_neg hk]
theorem lzG_step {L : Nat} {s t : Lz} (hL : L ≤ 8) (hk : s.k = 0) (h : lzS L s = some t) : lzG L s = lzG L t := by
  have e : lzG L s = lzR L (8 * s.zs.length) t := by
    unfold lzG
    rw [lzR, if_pos hk, h]
  rw [e]
  by_cases ht : t.k = 0
  · have := lzS_dec hL h ht
    unfold lzG
    refine lzR_fuel hL _ _ t ?_ ?_
    · unfold lzB at *; omega
    · unfold lzB; omega
  · rw [lzR_stop ht, lzG_stop (.inl ht)]
theorem lzG_done {L : Nat} {s t : Lz} (hL : L ≤ 8) (hk : s.k = 0) (h : lzS L s = some t) (ht : t.k ≠ 0) : lzG L s = t := (lzG_step hL hk h).trans (lzG_stop (.inl ht))
theorem flwN_ok {L : Nat} {fs fs' : List Tx} {ah : Int} {c : Nat} (hwf : WfT L fs) (hct : fcN L + fs.length ≤ 4096) (hah : ah = -1 ∨ ∃ A : Nat, ah = (A : Int) ∧ A < fcN L + fs.length) (hc : c < 4096) (h : flwN L fs ah c = some fs') : WfT L fs' ∧ fcN L + fs'.length ≤ 4096 ∧ c < fcN L + fs'.length := by
  unfold flwN at h
  rcases hah with rfl | ⟨A, rfl, hA⟩
  · rw [if_pos rfl] at h
    split at h
    · cases h
    · rename_i h1
      injection h with h; subst h
      exact ⟨hwf, hct, by unfold fcN; omega⟩
  · rw [if_neg (by omega), Int.toNat_natCast] at h
    have key : ∀ b : Int, 0 ≤ b ∧ b < 256 → WfT L (lrnN L fs A b) ∧ fcN L + (lrnN L fs A b).length ≤ 4096 ∧ fs.length ≤ (lrnN L fs A b).length ∧ (fcN L + fs.length < 4096 → (lrnN L fs A b).length = fs.length + 1) := by
      intro b hb
      unfold lrnN
      split
      · rename_i h2
        exact ⟨hwf.push hA hb, by simp; omega, by simp, fun _ => by simp⟩
      · rename_i h2
        exact ⟨hwf, hct, Nat.le_refl _, fun h => absurd h h2⟩
    split at h
    · rename_i h1
      injection h with h; subst h
      obtain ⟨k1, k2, k3, -⟩ := key ((fsC L fs c : Int) % 256) (by omega)
      exact ⟨k1, k2, by omega⟩
    · split at h
      · rename_i h1 h2
        injection h with h; subst h
        obtain ⟨k1, k2, k3, k4⟩ := key ((fsC L fs A : Int) % 256) (by omega)
        have := k4 (by omega)
        exact ⟨k1, k2, by omega⟩
      · cases h
theorem lzC_out {L : Nat} {s : Lz} {c : Nat} (hwf : WfT L s.fs) (hct : fcN L + s.fs.length ≤ 4096) (hah : s.ah = -1 ∨ ∃ A : Nat, s.ah = (A : Int) ∧ A < fcN L + s.fs.length) (hc : c < 4096) : (lzC L s c).out.length ≤ s.out.length + 4097 ∧ lzB (lzC L s c) ≤ lzB s := by
  unfold lzC
  split
  · exact ⟨by simp, Nat.le_refl _⟩
  split
  · exact ⟨by simp, by simp [lzB]⟩
  split
  · exact ⟨by simp [lzF], by simp [lzF, lzB]⟩
  · rename_i fs' hfl
    obtain ⟨o1, o2, o3⟩ := flwN_ok hwf hct hah hc hfl
    have hl := txC_len o1 c o3 fs'.length (by omega)
    unfold lzT
    split
    · refine ⟨?_, Nat.le_refl _⟩
      simp; omega
    · refine ⟨?_, by simp [lzF, lzB]⟩
      simp [lzF]; omega
theorem lzV_lt {s : Lz} {W : Nat} (h : W ≤ 12) : lzV s W < 4096 := by
  unfold lzV
  have h1 := Int.emod_nonneg (bitV s.zs s.gone) (show (2 : Int) ^ W ≠ 0 by have := two_pos W; omega)
  have h2 := Int.emod_lt_of_pos (bitV s.zs s.gone) (two_pos W)
  have h3 : (2 : Int) ^ W ≤ 2 ^ 12 := by
    have := Nat.pow_le_pow_right (show 0 < 2 by omega) h
    exact_mod_cast this
  have h4 : (2 : Int) ^ 12 = 4096 := by decide
  omega
theorem lzP_bits {L : Nat} {s : Lz} (hL : 2 ≤ L ∧ L ≤ 8) (h : ¬ 8 * s.zs.length < s.gone + lzW L s) : lzB (lzP s (lzW L s)) + 3 ≤ lzB s := by
  have hw := widN_le L (fcN L + s.fs.length) hL.2
  have hW : lzW L s = widN L (fcN L + s.fs.length) := rfl
  rw [← hW] at hw
  unfold lzB lzP
  generalize lzW L s = W at *
  simp only [List.length_drop]
  omega
theorem lzS_out {L : Nat} {s t : Lz} (hL : 2 ≤ L ∧ L ≤ 8) (hwf : WfT L s.fs) (hct : fcN L + s.fs.length ≤ 4096) (hah : s.ah = -1 ∨ ∃ A : Nat, s.ah = (A : Int) ∧ A < fcN L + s.fs.length) (h : lzS L s = some t) : t.out.length + 4100 * lzB t ≤ s.out.length + 4100 * lzB s := by
  unfold lzS at h
  split at h
  · cases h
  · rename_i hen
    injection h with h
    subst h
    have h1 := lzP_bits hL hen
    have h2 := lzC_out (s := lzP s (lzW L s)) (c := lzV s (lzW L s)) hwf hct hah (lzV_lt (widN_le L _ hL.2).2)
    have h3 : (lzP s (lzW L s)).out = s.out := rfl
    rw [h3] at h2
    omega
end Go.Proofs.Ytcbmlioeeoghkaa
