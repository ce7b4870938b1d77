/- The document's receiver: Ranges; what is held, as numbers. -/
import Derived.Test.YtmfciheenemapaaRqU
namespace Go.Proofs.Ytmfciheenemapaa
open Go.RowKit
def rgF (G : List (Int × Int)) (i : Int) : List (Int × Int) := match G.getLast? with
  | none => G ++ [(i, i + 1)]
  | some p => if p.2 = i then G.dropLast ++ [(p.1, i + 1)] else G ++ [(i, i + 1)]
theorem rgF_len (G : List (Int × Int)) (i : Int) : G.length ≤ (rgF G i).length := by
  unfold rgF
  cases h : G.getLast? with
  | none => simp
  | some p =>
    simp only
    split
    · simp; omega
    · simp
theorem rgF_take (G : List (Int × Int)) (i : Int) (h : 5 ≤ G.length) : (rgF G i).take 4 = G.take 4 := by
  unfold rgF
  cases hl : G.getLast? with
  | none => rw [List.getLast?_eq_none_iff] at hl; subst hl; simp at h
  | some p =>
    simp only
    split
    · rw [List.take_append_of_le_length (by simp; omega), List.dropLast_eq_take, List.take_take, Nat.min_eq_left (by omega)]
    · rw [List.take_append_of_le_length (by omega)]
theorem rgF_all (G : List (Int × Int)) (h : 5 ≤ G.length) : ∀ L : List Int, (L.foldl rgF G).take 4 = G.take 4 := by
  intro L
  induction L generalizing G with
  | nil => rfl
  | cons i r ih =>
    rw [List.foldl_cons, ih (rgF G i) (Nat.le_trans h (rgF_len G i)), rgF_take G i h]
theorem rgN_fold : ∀ (L : List Int) (G : List (Int × Int)), G.length ≤ 4 → rgN G L = (L.foldl rgF G).take 4
  | [], G, h => by rw [List.foldl_nil, List.take_of_length_le h]; rfl
  | i :: r, G, h => by
    rw [List.foldl_cons]
    unfold rgN
    cases hl : G.getLast? with
    | none =>
      have e : rgF G i = G ++ [(i, i + 1)] := by unfold rgF; rw [hl]
      have hG := List.getLast?_eq_none_iff.1 hl
      subst hG
      simp only
      rw [e, rgN_fold r _ (by simp)]
    | some p =>
      simp only
      by_cases hp : p.2 = i
      · have e : rgF G i = G.dropLast ++ [(p.1, i + 1)] := by unfold rgF; rw [hl]; simp [hp]
        have hne : G ≠ [] := by rintro rfl; simp at hl
        have hpos := List.length_pos_iff.2 hne
        rw [if_pos hp, e, rgN_fold r _ (by simp; omega)]
      · have e : rgF G i = G ++ [(i, i + 1)] := by unfold rgF; rw [hl]; simp [hp]
        rw [if_neg hp, e]
        by_cases h4 : G.length = 4
        · rw [if_pos h4, rgF_all _ (by simp [h4]), List.take_append_of_le_length (by omega), List.take_of_length_le (by omega)]
        · rw [if_neg h4, rgN_fold r _ (by simp; omega)]
/-- The numbers that have come, from T on. -/
def keysX (S : Nat → Bool) (N T : Nat) : List Int := (((List.range N).drop T).filter S).map (fun k : Nat => (k : Int))
theorem keysX_step (S : Nat → Bool) (N k : Nat) (h : k < N) : keysX S N k = (if S k then [(k : Int)] else []) ++ keysX S N (k + 1) := by
  unfold keysX
  rw [List.drop_eq_getElem_cons (by simpa using h)]
  simp only [List.getElem_range, List.filter_cons]
  cases S k <;> simp
theorem keysX_end (S : Nat → Bool) (N : Nat) : keysX S N N = [] := by
  unfold keysX
  rw [List.drop_of_length_le (by simp)]
  rfl
theorem keysX_held {H : List (Int × Pt)} {nx N : Nat} {S : Nat → Bool} (hup : HUp ((nx : Int) + 1) H) (htop : ∀ p ∈ H, p.1 < N) (hS : ∀ k, k < N → S k = cameB nx H k) : H.map (·.1) = keysX S N nx := by
  have s1 : (H.map (·.1)).Pairwise (fun x y => x < y) := by
    have : ∀ {H : List (Int × Pt)} {lo : Int}, HUp lo H → (H.map (·.1)).Pairwise (fun x y => x < y) := by
      intro H
      induction H with
      | nil => intro lo _; exact List.Pairwise.nil
      | cons y r ih =>
        intro lo h
        rw [List.map_cons, List.pairwise_cons]
        refine ⟨fun z hz => ?_, ih h.2⟩
        obtain ⟨p, hp, rfl⟩ := List.mem_map.1 hz
        have := h.2.mem p hp
        omega
    exact this hup
  have s2 : (keysX S N nx).Pairwise (fun x y => x < y) := by
    unfold keysX
    rw [List.pairwise_map]
    refine ((List.pairwise_lt_range (n := N)).drop.filter _).imp ?_
    intro a b h
    omega
  have hm : ∀ x, x ∈ H.map (·.1) ↔ x ∈ keysX S N nx := by
    intro x
    unfold keysX
    constructor
    · intro hx
      obtain ⟨p, hp, rfl⟩ := List.mem_map.1 hx
      have h1 := hup.mem p hp
      have h2 := htop p hp
      refine List.mem_map.2 ⟨p.1.toNat, List.mem_filter.2 ⟨?_, ?_⟩, by omega⟩
      · rw [List.mem_iff_getElem?]
        refine ⟨p.1.toNat - nx, ?_⟩
        rw [List.getElem?_drop, List.getElem?_range (by omega)]
        congr 1; omega
      · rw [hS _ (by omega)]
        unfold cameB
        have e : ((p.1.toNat : Nat) : Int) = p.1 := by omega
        rw [e, hHas_iff.2 ⟨p.2, hp⟩]
        simp
    · intro hx
      obtain ⟨k, hk, rfl⟩ := List.mem_map.1 hx
      obtain ⟨h1, h2⟩ := List.mem_filter.1 hk
      obtain ⟨j, hj⟩ := List.mem_iff_getElem?.1 h1
      rw [List.getElem?_drop] at hj
      have hj2 := List.getElem?_eq_some_iff.1 hj
      obtain ⟨hl, he⟩ := hj2
      simp at hl he
      rw [hS k (by omega)] at h2
      unfold cameB at h2
      rw [decide_eq_false (by omega), Bool.false_or, hHas_iff] at h2
      obtain ⟨q, hq⟩ := h2
      exact List.mem_map.2 ⟨_, hq, rfl⟩
  have n1 : (H.map (·.1)).Nodup := s1.imp (fun h => by omega)
  have n2 : (keysX S N nx).Nodup := s2.imp (fun h => by omega)
  have hp := (List.perm_ext_iff_of_nodup n1 n2).2 hm
  exact List.Perm.eq_of_pairwise (le := fun a b => a ≤ b) (fun a b _ _ h1 h2 => by omega) (s1.imp (fun h => by omega)) (s2.imp (fun h => by omega)) hp
theorem cntX_held {H : List (Int × Pt)} {nx N : Nat} {S : Nat → Bool} (h : H.map (·.1) = keysX S N nx) : cntX S N nx = H.length := by
  have := congrArg List.length h
  unfold keysX at this
  simp only [List.length_map] at this
  rw [this]
  unfold cntX
  rw [List.countP_eq_length_filter]
end Go.Proofs.Ytmfciheenemapaa
