/- LZW: bytes that come in pieces are read as if they came at once (plain). -/
import Derived.Test.YtcbmlioeeoghkaaLzN
import Derived.Test.YtcbmlioeeoghkaaWrM
namespace Go.Proofs.Ytcbmlioeeoghkaa
open Go.RowKit
theorem bitV_more (zs m : List Int) (gone W : Nat) (h : gone + W ≤ 8 * zs.length) : bitV (zs ++ m) gone % 2 ^ W = bitV zs gone % 2 ^ W := by
  unfold bitV
  rw [litN_append, pow_256_two]
  have e : (2 : Int) ^ (8 * zs.length) * litN m = 2 ^ gone * (2 ^ W * (2 ^ (8 * zs.length - gone - W) * litN m)) := by
    rw [← Int.mul_assoc (2 ^ W), ← pow_add, ← Int.mul_assoc (2 ^ gone), ← pow_add, show gone + (W + (8 * zs.length - gone - W)) = 8 * zs.length by omega]
  rw [e, Int.add_mul_ediv_left _ _ (by have := two_pos gone; omega), Int.add_mul_emod_self_left]
theorem fed_zero {s : Lz} (h : s.k = 0) (m : List Int) : s.fed m = { s with zs := s.zs ++ m } := by unfold Lz.fed; rw [if_pos h]
theorem lzC_fed {L : Nat} {s : Lz} {c : Nat} (hk : s.k = 0) (hg : 0 < s.gone → 0 < s.zs.length) (m : List Int) : lzC L { s with zs := s.zs ++ m } c = (lzC L s c).fed m := by
  unfold lzC
  by_cases h1 : c = 2 ^ L
  · rw [if_pos h1, if_pos h1]
    exact (fed_zero (s := { s with fs := [], ah := -1 }) hk m).symm
  rw [if_neg h1, if_neg h1]
  by_cases h2 : c = 2 ^ L + 1
  · rw [if_pos h2, if_pos h2]
    unfold Lz.fed
    simp only [Nat.one_ne_zero, if_false, if_true]
    by_cases h0 : s.gone = 0
    · simp [h0]
    · have := hg (by omega)
      simp only [h0, if_false]
      rw [List.drop_append_of_le_length (by omega)]
  rw [if_neg h2, if_neg h2]
  cases flwN L s.fs s.ah c with
  | none => rfl
  | some fs' =>
    simp only
    unfold lzT
    by_cases h3 : (txC L fs' c).length ≤ s.left
    · rw [if_pos h3, if_pos h3]
      exact (fed_zero (s := { s with fs := fs', ah := (c : Int), out := s.out ++ txC L fs' c, left := s.left - (txC L fs' c).length }) hk m).symm
    · rw [if_neg h3, if_neg h3]; rfl
theorem lzS_fed {L : Nat} {s t : Lz} (hk : s.k = 0) (h : lzS L s = some t) (m : List Int) : lzS L (s.fed m) = some (t.fed m) := by
  rw [fed_zero hk]
  unfold lzS at h ⊢
  have hw : lzW L { s with zs := s.zs ++ m } = lzW L s := rfl
  rw [hw]
  split at h
  · cases h
  · rename_i hen
    injection h with h
    generalize lzW L s = W at *
    have hl : ({ s with zs := s.zs ++ m } : Lz).zs.length = s.zs.length + m.length := by simp
    rw [if_neg (by rw [hl]; show ¬ 8 * (s.zs.length + m.length) < s.gone + W; omega)]
    have hv : lzV { s with zs := s.zs ++ m } W = lzV s W := by
      unfold lzV
      show (bitV (s.zs ++ m) s.gone % 2 ^ W).toNat = _
      rw [bitV_more _ _ _ _ (by omega)]
    have hp : lzP { s with zs := s.zs ++ m } W = { lzP s W with zs := (lzP s W).zs ++ m } := by
      unfold lzP
      simp only
      rw [List.drop_append_of_le_length (by omega)]
    rw [hv, hp, lzC_fed (s := lzP s W) hk ?_ m, h]
    intro hp
    show 0 < (s.zs.drop ((s.gone + W) / 8)).length
    have hp : 0 < (s.gone + W) % 8 := hp
    rw [List.length_drop]; omega
theorem lzG_fedN {L : Nat} (hL : L ≤ 8) (m : List Int) : ∀ (n : Nat) (s : Lz), lzB s < n → lzG L ((lzG L s).fed m) = lzG L (s.fed m)
  | 0, _, h => by omega
  | n + 1, s, h => by
    by_cases hk : s.k = 0
    · cases hs : lzS L s with
      | none => rw [lzG_stop (.inr hs)]
      | some t =>
        have hf : (s.fed m).k = 0 := by rw [fed_zero hk]; exact hk
        rw [lzG_step hL hk hs, lzG_step hL hf (lzS_fed hk hs m)]
        by_cases ht : t.k = 0
        · exact lzG_fedN hL m n t (by have := lzS_dec hL hs ht; omega)
        · rw [lzG_stop (.inl ht)]
    · rw [lzG_stop (.inl hk)]
theorem lzG_fed {L : Nat} (hL : L ≤ 8) (m : List Int) (s : Lz) : lzG L ((lzG L s).fed m) = lzG L (s.fed m) := lzG_fedN hL m _ s (Nat.lt_succ_self _)
theorem fed_fed (s : Lz) (m n : List Int) : (s.fed m).fed n = s.fed (m ++ n) := by
  unfold Lz.fed
  by_cases h : s.k = 0
  · simp [h]
  · by_cases h1 : s.k = 1
    · simp [h1]
    · simp [h, h1]
theorem fed_nil (s : Lz) : s.fed [] = s := by
  unfold Lz.fed
  split
  · simp
  split <;> simp
theorem fed_out (s : Lz) (m : List Int) : (s.fed m).out = s.out := by
  unfold Lz.fed
  split
  · rfl
  split <;> rfl
theorem lzC_zs {L : Nat} {s : Lz} {c : Nat} : (lzC L s c).zs.length ≤ s.zs.length := by
  unfold lzC
  split
  · exact Nat.le_refl _
  split
  · exact Nat.zero_le _
  split
  · exact Nat.zero_le _
  · unfold lzT
    split
    · exact Nat.le_refl _
    · exact Nat.zero_le _
/-- A property that each code leaves holds of all that is read. -/
theorem lzG_ind {L : Nat} (hL : L ≤ 8) (P : Lz → Prop) (hP : ∀ s t, P s → s.k = 0 → lzS L s = some t → P t) : ∀ (n : Nat) (s : Lz), lzB s < n → P s → P (lzG L s)
  | 0, _, h, _ => by omega
  | n + 1, s, h, hp => by
    by_cases hk : s.k = 0
    · cases hs : lzS L s with
      | none => rw [lzG_stop (.inr hs)]; exact hp
      | some t =>
        rw [lzG_step hL hk hs]
        have ht := hP s t hp hk hs
        by_cases hk2 : t.k = 0
        · exact lzG_ind hL P hP n t (by have := lzS_dec hL hs hk2; omega) ht
        · rw [lzG_stop (.inl hk2)]; exact ht
    · rw [lzG_stop (.inl hk)]; exact hp
theorem lzS_zs {L : Nat} {s t : Lz} (h : lzS L s = some t) : t.zs.length ≤ s.zs.length := by
  unfold lzS at h
  split at h
  · cases h
  · injection h with h
    subst h
    refine Nat.le_trans lzC_zs ?_
    show (s.zs.drop _).length ≤ _
    rw [List.length_drop]; omega
theorem lzG_zs {L : Nat} (hL : L ≤ 8) (s : Lz) : (lzG L s).zs.length ≤ s.zs.length :=
  lzG_ind hL (fun t => t.zs.length ≤ s.zs.length) (fun _ _ h _ e => Nat.le_trans (lzS_zs e) h) _ s (Nat.lt_succ_self _) (Nat.le_refl _)
theorem lzC_pre {L : Nat} {s : Lz} {c : Nat} : s.out <+: (lzC L s c).out := by
  unfold lzC
  split
  · exact List.prefix_refl _
  split
  · exact List.prefix_refl _
  split
  · exact List.prefix_refl _
  · unfold lzT
    split
    · exact List.prefix_append _ _
    · exact List.prefix_append _ _
theorem lzG_pre {L : Nat} (hL : L ≤ 8) (s : Lz) : s.out <+: (lzG L s).out :=
  lzG_ind hL (fun t => s.out <+: t.out) (fun a b h _ e => h.trans (by
    unfold lzS at e
    split at e
    · cases e
    · injection e with e; subst e; exact lzC_pre (s := lzP a _))) _ s (Nat.lt_succ_self _) (List.prefix_refl _)
end Go.Proofs.Ytcbmlioeeoghkaa
