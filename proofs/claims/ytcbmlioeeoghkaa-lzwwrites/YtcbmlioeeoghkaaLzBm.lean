/- LZW: all that is packed, told (plain). -/
import Derived.Test.YtcbmlioeeoghkaaLzBl
import Derived.Test.YtcbmlioeeoghkaaLzY
namespace Go.Proofs.Ytcbmlioeeoghkaa
open Go.RowKit
theorem pk_fit {L : Nat} {late : Int} (hL : 2 ≤ L ∧ L ≤ 8) : ∀ (fuel : Nat) (b : List Int) (fs : List Tx) (wn : Nat), fs.length ≤ wn → fcN L + fs.length ≤ 4096 → (∀ v ∈ b, 0 ≤ v ∧ v < ((2 ^ L : Nat) : Int)) → FitE (pkE L late fuel b fs wn) := by
  have hP := fc_bd hL
  have hF : 6 ≤ fcN L ∧ fcN L ≤ 258 := by unfold fcN; omega
  have hFe : fcN L = 2 ^ L + 2 := rfl
  have he : ∀ wn, 2 ^ L + 1 < 2 ^ widW L wn := fun wn => widN_fits hL.2 (by omega) (by omega)
  have hc : ∀ wn, 2 ^ L < 2 ^ widW L wn := fun wn => widN_fits hL.2 (by omega) (by omega)
  intro fuel
  induction fuel with
  | zero =>
    intro b fs wn _ _ _ p hp
    simp only [pkE, List.mem_singleton] at hp
    subst hp; exact he wn
  | succ fuel ih =>
    intro b fs wn h1 h2 hv
    cases b with
    | nil =>
      intro p hp
      simp only [pkE, List.mem_singleton] at hp
      subst hp; exact he wn
    | cons x r =>
      have hx := hv x (by simp)
      obtain ⟨c, k, hq⟩ : ∃ c k, lngN L fs x.toNat r = (c, k) := ⟨_, _, rfl⟩
      have hcb : c < fcN L + fs.length := by have := lng_bound (L := L) (fs := fs) r x.toNat (by omega); rw [hq] at this; exact this
      intro p hp
      unfold pkE at hp
      rw [hq] at hp
      simp only [List.mem_cons] at hp
      rcases hp with rfl | hp
      · exact widN_fits hL.2 (by omega) (by omega)
      · cases hd : r.drop k with
        | nil =>
          rw [hd] at hp
          simp only [List.mem_singleton] at hp
          subst hp; exact he (wn + 1)
        | cons y b2 =>
          rw [hd] at hp
          simp only at hp
          have hvd : ∀ v ∈ y :: b2, 0 ≤ v ∧ v < ((2 ^ L : Nat) : Int) := fun v hm => hv v (by rw [← hd] at hm; exact List.mem_cons_of_mem _ (List.mem_of_mem_drop hm))
          split at hp
          · rcases List.mem_cons.1 hp with rfl | hp
            · exact hc (wn + 1)
            · exact ih (y :: b2) [] 0 (Nat.le_refl _) (by simp; omega) hvd p hp
          · obtain ⟨l1, l2⟩ := lrnP_len (c := c) (y := y) (by omega) h1 h2
            exact ih (y :: b2) (lrnP L fs c y) (wn + 1) l1 l2 hvd p hp
theorem pkA_fit {L : Nat} {late : Int} (hL : 2 ≤ L ∧ L ≤ 8) {b : List Int} (hv : ∀ v ∈ b, 0 ≤ v ∧ v < ((2 ^ L : Nat) : Int)) : FitE (pkA L late b) := by
  intro p hp
  unfold pkA at hp
  have hP := fc_bd hL
  rcases List.mem_cons.1 hp with rfl | hp
  · exact widN_fits hL.2 (by unfold fcN; omega) (by omega)
  · exact pk_fit hL _ _ _ _ (Nat.le_refl _) (by unfold fcN; simp; omega) hv p hp
/-- What is packed is told. -/
theorem lzO_back {L : Nat} {late : Int} (hL : 2 ≤ L ∧ L ≤ 8) (n : Nat) {b more : List Int} (hv : ∀ v ∈ b, 0 ≤ v ∧ v < ((2 ^ L : Nat) : Int)) (hm : Bytes more) : lzO L n (outE (pkA L late b) ++ more) = lzEnd n [] b more := by
  have hf := pkA_fit (late := late) hL hv
  have hby : Bytes (outE (pkA L late b) ++ more) := fun x hx => by
    rcases List.mem_append.1 hx with h | h
    · exact outE_bytes _ x h
    · exact hm x h
  obtain ⟨zs, hz⟩ : ∃ zs, outE (pkA L late b) ++ more = zs := ⟨_, rfl⟩
  rw [hz] at hby ⊢
  have e0 : (lz0 n).fed zs = lzAt zs (cntE []) n [] (-1) [] := rfl
  unfold lzO
  rw [e0, lz_clear (es1 := []) (es2 := pkE L late b.length b [] 0) hL hby rfl hf hz rfl]
  exact lz_back (late := late) hL more b.length b [] 0 [] (-1) n [] _ (pkA L late b) zs (Nat.le_refl _) hv ⟨WfT.nil L, by simp, fun _ => ⟨rfl, rfl, rfl⟩, fun h => absurd h (by decide)⟩ rfl hf hz hby
theorem cntE_pk {L : Nat} {late : Int} (hL : 2 ≤ L ∧ L ≤ 8) : ∀ (fuel : Nat) (b : List Int) (fs : List Tx) (wn : Nat), cntE (pkE L late fuel b fs wn) ≤ 12 + 24 * b.length := by
  have hw : ∀ wn, widW L wn ≤ 12 := fun wn => (widN_le L _ hL.2).2
  intro fuel
  induction fuel with
  | zero => intro b fs wn; have := hw wn; simp only [pkE, cntE]; omega
  | succ fuel ih =>
    intro b fs wn
    cases b with
    | nil => have := hw wn; simp only [pkE, cntE]; omega
    | cons x r =>
      unfold pkE
      have h1 := hw wn
      have h2 := hw (wn + 1)
      simp only [cntE]
      cases hd : r.drop (lngN L fs x.toNat r).2 with
      | nil => simp only [cntE, List.length_cons]; omega
      | cons y b2 =>
        have hl : (y :: b2).length ≤ r.length := by rw [← hd, List.length_drop]; omega
        simp only
        split
        · have := ih (y :: b2) [] 0
          simp only [cntE, List.length_cons] at *; omega
        · have := ih (y :: b2) (lrnP L fs (lngN L fs x.toNat r).1 y) (wn + 1)
          simp only [List.length_cons] at *; omega
theorem outE_pk {L : Nat} {late : Int} (hL : 2 ≤ L ∧ L ≤ 8) (b : List Int) : (outE (pkA L late b)).length ≤ 4 + 3 * b.length := by
  have h1 := cntE_pk (late := late) hL b.length b [] 0
  have h2 : widW L 0 ≤ 12 := (widN_le L _ hL.2).2
  rw [outE_len]
  unfold pkA
  simp only [cntE]
  omega
end Go.Proofs.Ytcbmlioeeoghkaa
