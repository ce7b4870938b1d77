/- LZW: what is packed is told (plain). -/
import Derived.Test.YtcbmlioeeoghkaaLzS
import Derived.Test.YtcbmlioeeoghkaaLzL
namespace Go.Proofs.Ytcbmlioeeoghkaa
open Go.RowKit
def FitE (es : List Em) : Prop := ∀ p ∈ es, p.1 < 2 ^ p.2
theorem numE_fit : ∀ (es : List Em), FitE es → 0 ≤ numE es ∧ numE es < 2 ^ cntE es
  | [], _ => by simp [numE, cntE]
  | p :: r, h => by
    have h1 := h p (by simp)
    obtain ⟨h2, h3⟩ := numE_fit r (fun q hq => h q (by simp [hq]))
    simp only [numE, cntE]
    have h4 : ((2 ^ p.2 : Nat) : Int) = 2 ^ p.2 := by simp
    have h5 := two_pos p.2
    rw [pow_add]
    have h6 : 2 ^ p.2 * (numE r + 1) ≤ 2 ^ p.2 * 2 ^ cntE r := Int.mul_le_mul_of_nonneg_left (by omega) (by omega)
    have h7 : 0 ≤ 2 ^ p.2 * numE r := Int.mul_nonneg (by omega) h2
    rw [Int.mul_add, Int.mul_one] at h6
    omega
theorem litN_digits (W : Int) : ∀ n : Nat, litN ((List.range n).map fun i => W / 256 ^ i % 256) = W % 256 ^ n
  | 0 => by simp [litN, Int.emod_one]
  | n + 1 => by
    rw [List.range_succ, List.map_append, List.map_singleton, litN_snoc, litN_digits W n, List.length_map, List.length_range]
    have h := emod_split W (8 * n) 8
    rw [show 8 * n + 8 = 8 * (n + 1) by omega, ← pow_256_two, ← pow_256_two, show (2 : Int) ^ 8 = 256 by decide] at h
    rw [h]
theorem outE_bytes (es : List Em) : Bytes (outE es) := by
  intro x hx
  unfold outE at hx
  simp only [List.mem_map, List.mem_range] at hx
  obtain ⟨i, -, rfl⟩ := hx
  omega
theorem outE_len (es : List Em) : (outE es).length = (cntE es + 7) / 8 := by unfold outE; simp
theorem outE_num {es : List Em} (h : FitE es) : litN (outE es) = numE es := by
  obtain ⟨h1, h2⟩ := numE_fit es h
  unfold outE
  rw [litN_digits]
  refine Int.emod_eq_of_lt h1 ?_
  rw [pow_256_two]
  exact Int.lt_of_lt_of_le h2 (pow_le_of _ _ (by omega))
theorem str_val {es1 es2 : List Em} {c W : Nat} {more zs : List Int} (hz : outE (es1 ++ (c, W) :: es2) ++ more = zs) (h : FitE (es1 ++ (c, W) :: es2)) : litN zs / 2 ^ cntE es1 % 2 ^ W = (c : Int) ∧ cntE es1 + W ≤ 8 * zs.length := by
  have hf1 : FitE es1 := fun p hp => h p (by simp [hp])
  have hc : c < 2 ^ W := h (c, W) (by simp)
  obtain ⟨n1, n2⟩ := numE_fit es1 hf1
  have hl := outE_len (es1 ++ (c, W) :: es2)
  have hcn : cntE (es1 ++ (c, W) :: es2) = cntE es1 + (W + cntE es2) := by rw [cntE_app]; rfl
  rw [hcn] at hl
  refine ⟨?_, by rw [← hz, List.length_append, hl]; omega⟩
  rw [← hz, litN_append, outE_num h, numE_app, pow_256_two, hl]
  show (numE es1 + 2 ^ cntE es1 * ((c : Int) + 2 ^ W * numE es2) + _) / _ % _ = _
  have e : (2 : Int) ^ (8 * ((cntE es1 + (W + cntE es2) + 7) / 8)) * litN more = 2 ^ cntE es1 * (2 ^ W * (2 ^ (8 * ((cntE es1 + (W + cntE es2) + 7) / 8) - cntE es1 - W) * litN more)) := by
    rw [← Int.mul_assoc (2 ^ W), ← pow_add, ← Int.mul_assoc (2 ^ cntE es1), ← pow_add, show cntE es1 + (W + (8 * ((cntE es1 + (W + cntE es2) + 7) / 8) - cntE es1 - W)) = 8 * ((cntE es1 + (W + cntE es2) + 7) / 8) by omega]
  rw [e, Int.add_assoc, ← Int.mul_add, Int.add_mul_ediv_left _ _ (by have := two_pos (cntE es1); omega), Int.ediv_eq_zero_of_lt n1 n2, Int.zero_add, Int.add_assoc, ← Int.mul_add, Int.add_mul_emod_self_left]
  refine Int.emod_eq_of_lt (by omega) ?_
  have : ((2 ^ W : Nat) : Int) = 2 ^ W := by simp
  rw [← this]; omega
/-- A decoder at a place of all bits. -/
def lzAt (zs : List Int) (P left : Nat) (fs : List Tx) (ah : Int) (out : List Int) : Lz := ⟨0, left, fs, ah, zs.drop (P / 8), P % 8, 0, out, []⟩
theorem lz_read {L : Nat} {zs : List Int} {P left : Nat} {fs : List Tx} {ah : Int} {out : List Int} {W c : Nat} (hby : Bytes zs) (hW : widN L (fcN L + fs.length) = W) (hlen : P + W ≤ 8 * zs.length) (hv : litN zs / 2 ^ P % 2 ^ W = (c : Int)) :
    lzS L (lzAt zs P left fs ah out) = some (lzC L (lzAt zs (P + W) left fs ah out) c) := by
  unfold lzS
  have e : lzW L (lzAt zs P left fs ah out) = W := hW
  rw [e, if_neg (by show ¬ 8 * (zs.drop (P / 8)).length < P % 8 + W; rw [List.length_drop]; omega)]
  have ev : lzV (lzAt zs P left fs ah out) W = c := by
    unfold lzV
    show (bitV (zs.drop (P / 8)) (P % 8) % 2 ^ W).toNat = c
    have h := bitV_pass hby 0 P
    rw [Nat.zero_add] at h
    rw [h]
    unfold bitV
    rw [Int.pow_zero, Int.ediv_one, hv]; simp
  have ep : lzP (lzAt zs P left fs ah out) W = lzAt zs (P + W) left fs ah out := by
    unfold lzP lzAt
    simp only [List.drop_drop]
    rw [show P / 8 + (P % 8 + W) / 8 = (P + W) / 8 by omega, show (P % 8 + W) % 8 = (P + W) % 8 by omega]
  rw [ev, ep]
theorem widN_top {L n : Nat} (hL : L ≤ 8) (h : 4096 ≤ n) : widN L n = 12 := by
  rcases widG_gt (L + 1) n (by omega) with h1 | h1
  · have h2 := (widN_le L n hL).2
    have h3 : 2 ^ widN L n ≤ 2 ^ 12 := Nat.pow_le_pow_right (by omega) h2
    have h4 : n < 2 ^ widN L n := h1
    have h5 : (2 : Nat) ^ 12 = 4096 := by decide
    omega
  · exact h1
theorem wid_same {L wn n : Nat} (hL : 2 ≤ L ∧ L ≤ 8) (hF : fcN L ≤ 4096) (h : n = min (wn - 1) (4096 - fcN L)) : widN L (fcN L + n) = widW L wn := by
  unfold widW
  by_cases h1 : wn - 1 ≤ 4096 - fcN L
  · rw [h, Nat.min_eq_left h1]
  · rw [widN_top hL.2 (n := fcN L + (wn - 1)) (by omega), widN_top hL.2 (by omega)]
/-- A greater table has the same texts. -/
theorem tx_app {L : Nat} {fs : List Tx} (hwf : WfT L fs) (p : Tx) (c : Nat) (hc : c < fcN L + fs.length) : txC L (fs ++ [p]) c = txC L fs c := by
  induction c using Nat.strongRecOn with
  | ind c ih =>
  by_cases h1 : fcN L ≤ c
  · have ha := hwf.at h1 hc
    have hi : c - fcN L < fs.length := by omega
    have e1 : nxC L (fs ++ [p]) c = nxC L fs c := by unfold nxC; rw [List.getElem?_append_left hi]
    have e2 : lsC L (fs ++ [p]) c = lsC L fs c := by unfold lsC; rw [List.getElem?_append_left hi]
    rw [txC_eq, if_pos ⟨h1, by rw [e1]; exact ha.1⟩, e1, e2, ih (nxC L fs c) ha.1 (by omega), txC_step hwf h1 hc]
  · rw [txC_root (by omega), txC_root (by omega)]
theorem tx_head {L : Nat} {fs : List Tx} (hwf : WfT L fs) (c : Nat) (hc : c < fcN L + fs.length) : (txC L fs c)[0]? = some ((fsC L fs c : Int) % 256) := by
  induction c using Nat.strongRecOn with
  | ind c ih =>
  by_cases h1 : fcN L ≤ c
  · have ha := hwf.at h1 hc
    have ih := ih (nxC L fs c) ha.1 (by omega)
    rw [txC_step hwf h1 hc, fsC_step hwf h1 hc, List.getElem?_append_left (by have := (txC_bytes hwf (nxC L fs c) (by omega)).2; omega), ih]
  · rw [txC_root (by omega), fsC_root (by omega)]; rfl
theorem tx_last {L : Nat} {fs : List Tx} (hwf : WfT L fs) {c : Nat} {y : Int} {i : Nat} (h : fs[i]? = some (c, y)) : txC L fs (fcN L + i) = txC L fs c ++ [y] := by
  have hi := (List.getElem?_eq_some_iff.1 h).1
  have e1 : nxC L fs (fcN L + i) = c := by unfold nxC; rw [Nat.add_sub_cancel_left, h]; rfl
  have e2 : lsC L fs (fcN L + i) = y := by unfold lsC; rw [Nat.add_sub_cancel_left, h]; rfl
  rw [txC_step hwf (by omega) (by omega), e1, e2]
theorem lng_text {L : Nat} {fs : List Tx} (hwf : WfT L fs) : ∀ (r : List Int) (c : Nat), txC L fs (lngN L fs c r).1 = txC L fs c ++ r.take (lngN L fs c r).2
  | [], c => by simp [lngN]
  | x :: r, c => by
    unfold lngN
    cases hi : ixT fs c x with
    | none => simp
    | some i =>
      simp only [List.take_succ_cons]
      rw [lng_text hwf r (fcN L + i), tx_last hwf (ixT_lt fs c x i hi), List.append_assoc]
      rfl
theorem lng_code {L : Nat} {fs : List Tx} : ∀ (r : List Int) (c : Nat), (lngN L fs c r).1 = c ∨ fcN L ≤ (lngN L fs c r).1
  | [], c => .inl rfl
  | x :: r, c => by
    unfold lngN
    cases hi : ixT fs c x with
    | none => exact .inl rfl
    | some i =>
      rcases lng_code r (fcN L + i) with h | h
      · exact .inr (by simp only; rw [h]; omega)
      · exact .inr h
theorem lrnP_lrnN (L : Nat) (fs : List Tx) (c : Nat) (y : Int) : lrnN L fs c y = lrnP L fs c y := by
  unfold lrnN lrnP
  by_cases h : fs.length < 4096 - fcN L
  · rw [if_pos h, if_pos (by omega)]
  · rw [if_neg h, if_neg (by omega)]
end Go.Proofs.Ytcbmlioeeoghkaa
