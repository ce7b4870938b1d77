/- What is written is read, and what is read is written: the bytes; no program in it. -/
import Derived.Test.YtinmkhdangknbaaTkS
import Derived.Test.YtinmkhdangknbaaCrS
namespace Go.Proofs.Ytinmkhdangknbaa
open Go.RowKit
theorem back_tx (f s : Int) (D : List Int) (hm : mayT f D.length = true) (hs : 0 ≤ s ∧ s < 4294967296) : flT (txT f s D) = f ∧ suT (txT f s D) = s ∧ daT (txT f s D) = D ∧ okT (txT f s D) = true := by
  obtain ⟨m0, m1, m2⟩ := mayT_iff.1 hm
  have hl := txT_len f s D
  obtain ⟨n1, n2, n3, -, n5⟩ := three_nums (txT f s D) (by omega)
  have e : txT f s D = bg 1 f ++ (bg 4 s ++ (bg 4 (D.length : Int) ++ D)) := by unfold txT; simp only [List.append_assoc]
  have h1 : flT (txT f s D) = f := by rw [← n1, e, bN_bg 1 f _ (by omega) m0 (by simp; omega)]
  have h2 : suT (txT f s D) = s := by rw [← n2, e, bS_bg, bN_bg 4 s _ (by omega) hs.1 (by simpa using hs.2)]
  have h3 : nmT (txT f s D) = D.length := by rw [← n3, e, bS_bg, bS_bg, bN_bg 4 _ _ (by omega) (by omega) (by simp; omega)]
  have h4 : daT (txT f s D) = D := by
    have h : (Except.ok D : St) = .ok (daT (txT f s D)) := by rw [← n5, e, bS_bg, bS_bg, bS_bg]
    exact (Except.ok.inj h).symm
  refine ⟨h1, h2, h4, ?_⟩
  unfold okT
  rw [h1, h3, h4, hm]
  simp
/-- What is sealed is read. -/
theorem seal_tb (t : List Int) : tbT (sealM t) = t := by
  unfold tbT sealM
  rw [List.length_append, octs_len, show t.length + 4 - 4 = t.length by omega, List.take_append_of_le_length (Nat.le_refl _), List.take_length]
theorem seal_len (t : List Int) : (sealM t).length = t.length + 4 := by unfold sealM; rw [List.length_append, octs_len]
theorem seal_byte {t : List Int} (h : Bytes t) : Bytes (sealM t) := by unfold sealM; exact h.append (octs_byte _ _)
theorem seal_sum (t : List Int) : smT (sealM t) = crT (sealM t) := by
  have hl := seal_len t
  unfold smT crT
  rw [seal_tb, hl, show t.length + 4 - 4 = t.length by omega]
  unfold sealM
  rw [List.drop_append_of_le_length (Nat.le_refl _), List.drop_length, List.nil_append]
  exact lit_octs _ 4 (by omega) (by omega) (by have := (crcM (BitVec.ofNat 32 0) t).isLt; simp; omega)
theorem seal_ok (t : List Int) (h9 : 9 ≤ t.length) (ho : okT t = true) : rdOk (sealM t) = true := by
  unfold rdOk
  rw [seal_tb, ho, decide_eq_true (seal_sum t), seal_len, decide_eq_true (by omega)]
  rfl
theorem octs_lit (l : List Int) (hb : Bytes l) (hl : l.length = 1 ∨ l.length = 4) : octs (litN l) l.length = l := by
  rcases hl with h | h
  · match l, h with
    | [a], _ =>
      have := hb a (by simp)
      simp [octs, litN, oct, List.range_succ]
      omega
  · match l, h with
    | [a, b, c, d], _ =>
      have h1 := hb a (by simp)
      have h2 := hb b (by simp)
      have h3 := hb c (by simp)
      have h4 := hb d (by simp)
      simp [octs, litN, oct, List.range_succ]
      omega
theorem bg_big (l : List Int) (hb : Bytes l) (hl : l.length = 1 ∨ l.length = 4) : bg l.length (bigN l) = l := by
  have h := octs_lit l.reverse (fun z hz => hb z (by simpa using hz)) (by simpa using hl)
  have e : bigN l = litN l.reverse := by
    have := bigN_reverse l.reverse
    rwa [List.reverse_reverse] at this
  unfold bg
  rw [e]
  rw [List.length_reverse] at h
  rw [h, List.reverse_reverse]
theorem tx_back (t : List Int) (hb : Bytes t) (h9 : 9 ≤ t.length) (ho : okT t = true) : txT (flT t) (suT t) (daT t) = t ∧ mayT (flT t) (daT t).length = true ∧ 0 ≤ suT t ∧ suT t < 4294967296 := by
  unfold okT at ho
  rw [Bool.and_eq_true, decide_eq_true_eq] at ho
  obtain ⟨hm, hn⟩ := ho
  have l1 : (t.take 1).length = 1 := by rw [List.length_take]; omega
  have l2 : ((t.drop 1).take 4).length = 4 := by rw [List.length_take, List.length_drop]; omega
  have l3 : ((t.drop 5).take 4).length = 4 := by rw [List.length_take, List.length_drop]; omega
  have b1 := bg_big _ (hb.take 1) (.inl l1)
  have b2 := bg_big _ ((hb.drop 1).take 4) (.inr l2)
  have b3 := bg_big _ ((hb.drop 5).take 4) (.inr l3)
  rw [l1] at b1
  rw [l2] at b2
  rw [l3] at b3
  have hs := bigN_bound ((hb.drop 1).take 4)
  rw [l2] at hs
  refine ⟨?_, hm, hs.1, by unfold suT; simpa using hs.2⟩
  unfold txT
  rw [← hn]
  unfold flT suT nmT daT
  rw [b1, b2, b3]
  have e1 : t.take 1 ++ (t.drop 1).take 4 = t.take 5 := by rw [← List.take_add]
  have e2 : t.take 5 ++ (t.drop 5).take 4 = t.take 9 := by rw [← List.take_add]
  rw [e1, e2, List.take_append_drop]
end Go.Proofs.Ytinmkhdangknbaa
