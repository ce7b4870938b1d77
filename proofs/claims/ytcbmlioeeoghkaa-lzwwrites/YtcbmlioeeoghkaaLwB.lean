/- LZW, the document's packer beside the program's (plain). -/
import Derived.Test.YtcbmlioeeoghkaaLzBm
import Derived.Test.YtcbmlioeeoghkaaBinM
namespace Go.Proofs.Ytcbmlioeeoghkaa
open Go.RowKit
/-- The bits of codes. -/
def bitE (es : List Em) : List Int := es.flatMap fun p => lowL (p.1 : Int) p.2
theorem bitE_app (es fs : List Em) : bitE (es ++ fs) = bitE es ++ bitE fs := by simp [bitE]
theorem bitE_one (c n : Nat) : bitE [(c, n)] = lowL (c : Int) n := by simp [bitE]
theorem bitE_len : ∀ es : List Em, (bitE es).length = cntE es
  | [] => rfl
  | p :: r => by
    have h : bitE (p :: r) = lowL (p.1 : Int) p.2 ++ bitE r := by simp [bitE]
    rw [h, List.length_append, lowL_len, bitE_len r]; rfl
theorem bitE_bit : ∀ es : List Em, Bit (bitE es)
  | [] => by intro x hx; simp [bitE] at hx
  | p :: r => by
    have h : bitE (p :: r) = lowL (p.1 : Int) p.2 ++ bitE r := by simp [bitE]
    rw [h]; exact (lowL_bit _ _).append (bitE_bit r)
theorem bitE_num : ∀ es : List Em, FitE es → binN (bitE es) = numE es
  | [], _ => by simp [bitE, binN, numE]
  | p :: r, h => by
    have e : bitE (p :: r) = lowL (p.1 : Int) p.2 ++ bitE r := by simp [bitE]
    have hp := h p (by simp)
    rw [e, binN_append, binN_lowL, lowL_len, bitE_num r (fun q hq => h q (by simp [hq]))]
    have h4 : ((2 ^ p.2 : Nat) : Int) = 2 ^ p.2 := by simp
    rw [Int.emod_eq_of_lt (by omega) (by rw [← h4]; omega)]
    rfl
theorem bitE_out {es : List Em} (h : FitE es) : chunkL (bitE es) ((cntE es + 7) / 8) = outE es := by
  refine litN_inj (chunkL_bytes (bitE_bit es) _) (outE_bytes es) ?_ ?_
  · rw [chunkL_len, outE_len]
  · rw [litN_chunk _ _ (by rw [bitE_len]; omega), List.take_of_length_le (by rw [bitE_len]; omega), bitE_num es h, outE_num h]
/-- A packer's table: each text once, made of roots. -/
structure Gd (L : Nat) (fs : List Tx) : Prop where
  wf : WfT L fs
  un : ∀ (i : Nat) (p : Tx), fs[i]? = some p → ixT fs p.1 p.2 = some i
  pr : ∀ (i : Nat) (p : Tx), fs[i]? = some p → p.1 < 2 ^ L ∨ fcN L ≤ p.1
theorem Gd.nil (L : Nat) : Gd L [] := ⟨WfT.nil L, fun i p h => by simp at h, fun i p h => by simp at h⟩
theorem Gd.push {L : Nat} {fs : List Tx} (h : Gd L fs) {c : Nat} {y : Int} (hc : c < fcN L + fs.length) (hc2 : c < 2 ^ L ∨ fcN L ≤ c) (hy : 0 ≤ y ∧ y < 256) (hn : ixT fs c y = none) : Gd L (fs ++ [(c, y)]) := by
  refine ⟨h.wf.push hc hy, fun i p hp => ?_, fun i p hp => ?_⟩
  · rw [ixT_push fs c y _ _ hn]
    by_cases hi : i < fs.length
    · rw [List.getElem?_append_left hi] at hp
      have hu := h.un i p hp
      rw [if_neg ?_, hu]
      rintro ⟨e1, e2⟩
      rw [e1, e2, hn] at hu
      cases hu
    · rw [List.getElem?_append_right (by omega)] at hp
      have : i - fs.length = 0 := by
        rcases Nat.eq_zero_or_pos (i - fs.length) with h | h
        · exact h
        · rw [List.getElem?_eq_none (by simp; omega)] at hp; cases hp
      rw [this] at hp
      simp at hp
      subst hp
      rw [if_pos ⟨rfl, rfl⟩]
      congr 1; omega
  · by_cases hi : i < fs.length
    · rw [List.getElem?_append_left hi] at hp
      exact h.pr i p hp
    · rw [List.getElem?_append_right (by omega)] at hp
      have : i - fs.length = 0 := by
        rcases Nat.eq_zero_or_pos (i - fs.length) with h | h
        · exact h
        · rw [List.getElem?_eq_none (by simp; omega)] at hp; cases hp
      rw [this] at hp
      simp at hp
      subst hp
      exact hc2
theorem lng_zero {L : Nat} {fs : List Tx} : ∀ (r : List Int) (c : Nat), (lngN L fs c r).2 = 0 → (lngN L fs c r).1 = c
  | [], c, _ => rfl
  | x :: r, c, h => by
    unfold lngN at h ⊢
    cases hi : ixT fs c x with
    | none => rfl
    | some i => rw [hi] at h; simp at h
/-- A code whose text stands at the beginning lies on the way of the longest one. -/
theorem lng_way {L : Nat} (hL : L ≤ 8) {fs : List Tx} (h : Gd L fs) (x : Int) (r : List Int) (hx : 0 ≤ x ∧ x < ((2 ^ L : Nat) : Int)) : ∀ (c : Nat) (T : List Int), (c < 2 ^ L ∨ fcN L ≤ c) → c < fcN L + fs.length → txC L fs c = x :: T → T <+: r →
    lngN L fs x.toNat r = ((lngN L fs c (r.drop T.length)).1, (lngN L fs c (r.drop T.length)).2 + T.length) := by
  intro c
  induction c using Nat.strongRecOn with
  | ind c ih =>
    intro T hc hc2 ht hT
    have hP : 2 ^ L ≤ 256 := by have := Nat.pow_le_pow_right (n := 2) (by omega) hL; omega
    by_cases h1 : fcN L ≤ c
    · have ha := h.wf.at h1 hc2
      rw [txC_step h.wf h1 hc2] at ht
      have hb := txC_bytes h.wf (nxC L fs c) (by omega)
      obtain ⟨x', T', hT'⟩ : ∃ x' T', txC L fs (nxC L fs c) = x' :: T' := by
        cases hq : txC L fs (nxC L fs c) with
        | nil => rw [hq] at hb; simp at hb
        | cons x' T' => exact ⟨x', T', rfl⟩
      rw [hT', List.cons_append, List.cons.injEq] at ht
      obtain ⟨rfl, rfl⟩ := ht
      obtain ⟨R, hR⟩ := hT
      have hr : r = T' ++ (lsC L fs c :: R) := by rw [← hR, List.append_assoc]; rfl
      have := ih (nxC L fs c) ha.1 T' (h.pr _ _ ha.2.2.2) (by omega) hT' ⟨_, hr.symm⟩
      rw [this]
      have hu := h.un _ _ ha.2.2.2
      have e : r.drop T'.length = lsC L fs c :: R := by rw [hr, List.drop_left]
      have e2 : r.drop (T' ++ [lsC L fs c]).length = R := by rw [← hR, List.drop_left]
      rw [e, e2, List.length_append, List.length_singleton]
      have e3 : lngN L fs (nxC L fs c) (lsC L fs c :: R) = ((lngN L fs c R).1, (lngN L fs c R).2 + 1) := by
        rw [lngN]
        simp only at hu
        rw [hu]
        simp only
        rw [show fcN L + (c - fcN L) = c by omega]
      rw [e3]
      simp only [Prod.mk.injEq, true_and]
      omega
    · have hc3 : c < 2 ^ L := by omega
      rw [txC_root (by omega)] at ht
      simp only [List.cons.injEq] at ht
      obtain ⟨h4, h5⟩ := ht
      subst h5
      have : x.toNat = c := by omega
      rw [this]
      rfl
/-- The document's search: the first of the longest texts. -/
def scN (L : Nat) (fs : List Tx) (b : List Int) (x : Int) : Nat → Nat × Nat
  | 0 => (x.toNat, 1)
  | j + 1 => if (scN L fs b x j).2 < (txC L fs (fcN L + j)).length ∧ txC L fs (fcN L + j) <+: b then (fcN L + j, (txC L fs (fcN L + j)).length) else scN L fs b x j
theorem scN_inv (L : Nat) (fs : List Tx) (b : List Int) (x : Int) : ∀ j, 1 ≤ (scN L fs b x j).2 ∧ (scN L fs b x j = (x.toNat, 1) ∨ ∃ i, i < j ∧ scN L fs b x j = (fcN L + i, (txC L fs (fcN L + i)).length) ∧ txC L fs (fcN L + i) <+: b ∧ 1 < (txC L fs (fcN L + i)).length) ∧ ∀ i, i < j → txC L fs (fcN L + i) <+: b → (txC L fs (fcN L + i)).length ≤ (scN L fs b x j).2 := by
  intro j
  induction j with
  | zero => exact ⟨Nat.le_refl _, .inl rfl, fun i hi => by omega⟩
  | succ j ih =>
    obtain ⟨h1, h2, h3⟩ := ih
    unfold scN
    by_cases hc : (scN L fs b x j).2 < (txC L fs (fcN L + j)).length ∧ txC L fs (fcN L + j) <+: b
    · rw [if_pos hc]
      refine ⟨by show 1 ≤ _; omega, .inr ⟨j, by omega, rfl, hc.2, by omega⟩, fun i hi hp => ?_⟩
      show _ ≤ (txC L fs (fcN L + j)).length
      by_cases e : i = j
      · subst e; exact Nat.le_refl _
      · have := h3 i (by omega) hp; omega
    · rw [if_neg hc]
      refine ⟨h1, ?_, fun i hi hp => ?_⟩
      · rcases h2 with h | ⟨i, hi, h⟩
        · exact .inl h
        · exact .inr ⟨i, by omega, h⟩
      · by_cases e : i = j
        · subst e
          have : ¬ (scN L fs b x i).2 < (txC L fs (fcN L + i)).length := fun q => hc ⟨q, hp⟩
          omega
        · exact h3 i (by omega) hp
theorem scN_end {L : Nat} (hL : L ≤ 8) {fs : List Tx} (h : Gd L fs) (x : Int) (r : List Int) (hx : 0 ≤ x ∧ x < ((2 ^ L : Nat) : Int)) : scN L fs (x :: r) x fs.length = ((lngN L fs x.toNat r).1, (lngN L fs x.toNat r).2 + 1) := by
  have hF : fcN L = 2 ^ L + 2 := rfl
  have hcode : ∀ i, i < fs.length → txC L fs (fcN L + i) <+: x :: r → (txC L fs (fcN L + i)).length ≤ (lngN L fs x.toNat r).2 + 1 ∧ ((txC L fs (fcN L + i)).length = (lngN L fs x.toNat r).2 + 1 → (lngN L fs x.toNat r).1 = fcN L + i) := by
    intro i hi hp
    have hb := (txC_bytes h.wf (fcN L + i) (by omega)).2
    obtain ⟨x', T, hT⟩ : ∃ x' T, txC L fs (fcN L + i) = x' :: T := by
      cases hq : txC L fs (fcN L + i) with
      | nil => rw [hq] at hb; simp at hb
      | cons x' T => exact ⟨x', T, rfl⟩
    rw [hT] at hp
    obtain ⟨R, hR⟩ := hp
    rw [List.cons_append, List.cons.injEq] at hR
    obtain ⟨rfl, hR⟩ := hR
    have hw := lng_way hL h x' r hx (fcN L + i) T (.inr (by omega)) (by omega) hT ⟨R, hR⟩
    rw [hT, List.length_cons]
    refine ⟨by rw [hw]; show _ ≤ _ + _ + 1; omega, fun e => ?_⟩
    have e2 : (lngN L fs (fcN L + i) (r.drop T.length)).2 = 0 := by
      have := congrArg Prod.snd hw
      simp only at this
      omega
    rw [hw]
    exact lng_zero _ _ e2
  have hbest : 1 ≤ (lngN L fs x.toNat r).2 → ∃ i, i < fs.length ∧ txC L fs (fcN L + i) <+: x :: r ∧ (txC L fs (fcN L + i)).length = (lngN L fs x.toNat r).2 + 1 := by
    intro hk
    have ht := lng_text h.wf r x.toNat
    have hl := lng_len (L := L) (fs := fs) r x.toNat
    have hxr : txC L fs x.toNat = [x] := by
      rw [txC_root (by omega)]
      have hP : 2 ^ L ≤ 256 := by have := Nat.pow_le_pow_right (n := 2) (by omega) hL; omega
      congr 1; omega
    rw [hxr] at ht
    rcases lng_code (L := L) (fs := fs) r x.toNat with e | e
    · rw [e, hxr] at ht
      have := congrArg List.length ht
      rw [List.length_append, List.length_take, Nat.min_eq_left hl] at this
      omega
    · have hb := lng_bound (L := L) (fs := fs) r x.toNat (by omega)
      refine ⟨(lngN L fs x.toNat r).1 - fcN L, by omega, ?_, ?_⟩
      · rw [show fcN L + ((lngN L fs x.toNat r).1 - fcN L) = (lngN L fs x.toNat r).1 by omega, ht]
        exact ⟨r.drop (lngN L fs x.toNat r).2, by rw [List.append_assoc, List.take_append_drop]; rfl⟩
      · rw [show fcN L + ((lngN L fs x.toNat r).1 - fcN L) = (lngN L fs x.toNat r).1 by omega, ht, List.length_append, List.length_take, Nat.min_eq_left hl, List.length_singleton]
        omega
  obtain ⟨h1, h2, h3⟩ := scN_inv L fs (x :: r) x fs.length
  rcases h2 with h2 | ⟨i, hi, h2, hp, hl⟩
  · rw [h2] at h3 ⊢
    have hk : (lngN L fs x.toNat r).2 = 0 := by
      rcases Nat.eq_zero_or_pos (lngN L fs x.toNat r).2 with e | e
      · exact e
      · obtain ⟨i, hi, hp, hl⟩ := hbest e
        have := h3 i hi hp
        simp only at this; omega
    rw [hk, lng_zero _ _ hk]
  · rw [h2] at h3 ⊢
    have hq := hcode i hi hp
    have hlen : (txC L fs (fcN L + i)).length = (lngN L fs x.toNat r).2 + 1 := by
      rcases Nat.eq_zero_or_pos (lngN L fs x.toNat r).2 with e | e
      · omega
      · obtain ⟨j, hj, hjp, hjl⟩ := hbest e
        have := h3 j hj hjp
        simp only at this; omega
    rw [hq.2 hlen, hlen]
end Go.Proofs.Ytcbmlioeeoghkaa
