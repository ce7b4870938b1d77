/- Joined: Iy Iz Ja Jb Jc. -/
import Derived.Test.YtloagniacjfkfaaGreatDoorQK
/- The machine's items keep what holds of its states, and take bits. -/
namespace Go.Proofs.YtloagniacjfkfaaGreatDoor
open Go.RowKit
theorem inv_head {s : St} (h : s.now = 0 ∨ s.now = 1 ∨ s.now = 3 ∨ s.now = 11) : Inv s :=
  ⟨by omega, by omega, by omega, by omega, by omega, by omega, by omega, by omega, by omega, by omega⟩
theorem inv_sym {s : St} (h : s.now = 7) (hc : ∃ n1 n2, s.la = some n1 ∧ s.da = some n2) : Inv s :=
  ⟨by omega, by omega, by omega, by omega, by omega, by omega, fun _ => hc, by omega, by omega, by omega⟩
theorem endB_inv {s s' : St} {l : List Int} {k n : Nat} (h : endB s l k = .ok s' n) : Inv s' ∧ k ≤ n ∧ (k ≤ l.length → n ≤ l.length) ∧ s'.now ≠ 8 ∧ s'.now ≠ 10 := by
  unfold endB at h
  split at h <;> simp only [Rs.ok.injEq] at h <;> obtain ⟨rfl, rfl⟩ := h
  · exact ⟨inv_head (by simp), by omega, fun _ => by omega, by simp, by simp⟩
  · exact ⟨inv_head (by simp), by omega, fun h => h, by simp, by simp⟩
theorem lengL_inv {s s' : St} {v t k n : Nat} (h : lengL s v t k = .ok s' n) (hi : s.now = 5) (hv : v ≤ 15) (hlc : ∃ ns, s.lc = some ns ∧ ns.length = 19) (hl : 257 ≤ s.lits ∧ s.lits ≤ 286 ∧ s.lits < s.all ∧ s.all ≤ s.lits + 30 ∧ s.row.length < s.all ∧ ∀ x ∈ s.row, x ≤ 15) : Inv s' ∧ n = k ∧ s'.now ≠ 8 ∧ s'.now ≠ 10 := by
  unfold lengL at h
  split at h
  · cases h
  · split at h
    · rename_i h1
      simp only [Rs.ok.injEq] at h
      obtain ⟨rfl, rfl⟩ := h
      obtain ⟨l1, l2, l3, l4, l5, l6⟩ := hl
      refine ⟨⟨by simp only; omega, by simp only; omega, by simp only; omega, fun _ => ⟨l1, l2, l3, l4, ?_, ?_⟩, fun _ => hlc, by simp only; omega, by simp only; omega, by simp only; omega, by simp only; omega, by simp only; omega⟩, rfl, by simp only; omega, by simp only; omega⟩
      · simp only
        rw [List.length_append, List.length_replicate]; exact h1
      · intro x hx
        rcases List.mem_append.1 hx with h | h
        · exact l6 x h
        · rw [List.mem_replicate] at h; rw [h.2]; exact hv
    · unfold endL at h
      split at h
      · cases h
      · simp only [Rs.ok.injEq] at h
        obtain ⟨rfl, rfl⟩ := h
        exact ⟨inv_sym rfl ⟨_, _, rfl, rfl⟩, rfl, by simp, by simp⟩
end Go.Proofs.YtloagniacjfkfaaGreatDoor
/- Each item of the machine: what it keeps, how many bits it takes. -/
namespace Go.Proofs.YtloagniacjfkfaaGreatDoor
open Go.RowKit
theorem nxL_pos (ns : List Nat) (l : List Int) (h : (nxL ns l).2.1 = 0) : 1 ≤ (nxL ns l).2.2 := by
  unfold nxL at h ⊢
  have : ∀ f k, (nxt ns (fun i => (l[i]?.getD 0).toNat) l.length f k).2.1 = 0 → 1 ≤ (nxt ns (fun i => (l[i]?.getD 0).toNat) l.length f k).2.2 := by
    intro f
    induction f with
    | zero => intro k h; exact absurd h (by simp [nxt])
    | succ f ih =>
      intro k
      rw [nxt]
      split
      · intro h; exact absurd h (by decide)
      · split
        · exact ih _
        · cases hx : wdF ns ns.length (k + 1) (pv (fun i => (l[i]?.getD 0).toNat) (k + 1)) with
          | none => intro h; exact absurd h (by simp)
          | some t => intro _; simp only; omega
  exact this 15 0 h
theorem nxL_nonneg (ns : List Nat) (l : List Int) : 0 ≤ (nxL ns l).1 := nxt_nonneg ns _ _ 15 0
def rk (s : St) : Nat := if s.now = 8 ∨ s.now = 10 then 1 else 0
def Kept (s s' : St) (l : List Int) (n : Nat) : Prop := Inv s' ∧ n ≤ l.length ∧ 2 * (l.length - n) + rk s' < 2 * l.length + rk s
theorem Kept.of {s s' : St} {l : List Int} {n : Nat} (h : Inv s') (hn : n ≤ l.length) (h1 : 1 ≤ n) : Kept s s' l n := by
  refine ⟨h, hn, ?_⟩
  have : rk s' ≤ 1 := by unfold rk; split <;> omega
  omega
theorem kept_head {s s' : St} {l : List Int} {n : Nat} (h : itHead s l = .ok s' n) : Kept s s' l n := by
  unfold itHead at h
  split at h
  · cases h
  · split at h
    · simp only [Rs.ok.injEq] at h; obtain ⟨rfl, rfl⟩ := h
      exact Kept.of (inv_head (by simp)) (by omega) (by omega)
    · split at h
      · simp only [Rs.ok.injEq] at h; obtain ⟨rfl, rfl⟩ := h
        exact Kept.of (inv_sym rfl ⟨_, _, rfl, rfl⟩) (by omega) (by omega)
      · split at h
        · simp only [Rs.ok.injEq] at h; obtain ⟨rfl, rfl⟩ := h
          exact Kept.of (inv_head (by simp)) (by omega) (by omega)
        · cases h
theorem kept_size {s s' : St} {l : List Int} {n : Nat} (hb : Bit l) (h : itSize s l = .ok s' n) : Kept s s' l n := by
  unfold itSize at h
  split at h
  · cases h
  · split at h
    · cases h
    · split at h
      · obtain ⟨h1, h2, h3, _⟩ := endB_inv h
        exact Kept.of h1 (h3 (by omega)) (by omega)
      · rename_i h0
        simp only [Rs.ok.injEq] at h; obtain ⟨rfl, rfl⟩ := h
        have := bV_small hb 0 16
        refine Kept.of ⟨by simp, fun _ => ?_, by simp, by simp, by simp, by simp, by simp, by simp, by simp, by simp⟩ (by omega) (by omega)
        simp only
        omega
theorem kept_stored {s s' : St} {lim : Nat} {l : List Int} {n : Nat} (hi : Inv s) (h2 : s.now = 2) (h : itStored lim s l = .ok s' n) : Kept s s' l n := by
  obtain ⟨a1, a2⟩ := hi.left h2
  unfold itStored at h
  split at h
  · cases h
  · split at h
    · cases h
    · split at h
      · obtain ⟨h1, h2, h3, _⟩ := endB_inv h
        exact Kept.of h1 (h3 (by omega)) (by omega)
      · rename_i h0
        simp only [Rs.ok.injEq] at h; obtain ⟨rfl, rfl⟩ := h
        refine Kept.of ⟨by simp only; omega, fun _ => ?_, by simp only; omega, by simp only; omega, by simp only; omega, by simp only; omega, by simp only; omega, by simp only; omega, by simp only; omega, by simp only; omega⟩ (by omega) (by omega)
        simp only
        omega
theorem kept_counts {s s' : St} {l : List Int} {n : Nat} (hb : Bit l) (h : itCounts s l = .ok s' n) : Kept s s' l n := by
  unfold itCounts at h
  split at h
  · cases h
  · split at h
    · cases h
    · rename_i h0
      simp only [Rs.ok.injEq] at h; obtain ⟨rfl, rfl⟩ := h
      have := bV_small hb 10 4
      refine Kept.of ⟨by simp, by simp, fun _ => ?_, fun _ => ⟨?_, ?_, ?_, ?_, ?_, ?_⟩, by simp, by simp, by simp, by simp, by simp, by simp⟩ (by omega) (by omega)
      · simp only; omega
      · simp only; omega
      · simp only; omega
      · simp only; omega
      · simp only; omega
      · simp [clr]; omega
      · intro x hx; simp [clr] at hx
theorem kept_code {s s' : St} {l : List Int} {n : Nat} (hi : Inv s) (h4 : s.now = 4) (h : itCode s l = .ok s' n) : Kept s s' l n := by
  have hl := hi.lens (by omega)
  have hc := (hi.cl h4).1
  unfold itCode at h
  split at h
  · cases h
  · split at h
    · cases h
    · simp only [Rs.ok.injEq] at h; obtain ⟨rfl, rfl⟩ := h
      exact Kept.of ⟨by simp, by simp, by simp, fun _ => hl, fun _ => ⟨_, rfl, clL_len _ _⟩, by simp, by simp, by simp, by simp, by simp⟩ (by omega) (by omega)
theorem kept_length {s s' : St} {l : List Int} {n : Nat} (hb : Bit l) (hi : Inv s) (h8 : s.now = 8) (h : itLength s l = .ok s' n) : Kept s s' l n := by
  obtain ⟨a1, a2⟩ := hi.length h8
  have hc := hi.codes (by omega)
  unfold itLength at h
  split at h
  · cases h
  · simp only [Rs.ok.injEq] at h; obtain ⟨rfl, rfl⟩ := h
    have h1 := bV_small hb 0 s.nb
    have h2 : (2 : Nat) ^ s.nb ≤ 2 ^ 5 := Nat.pow_le_pow_right (by omega) a1
    refine ⟨⟨by simp, by simp, by simp, by simp, by simp, by simp, fun _ => hc, by simp, fun _ => ?_, by simp⟩, by omega, ?_⟩
    · simp only; omega
    · unfold rk
      simp only
      rw [if_neg (by omega), if_pos (.inl h8)]
      omega
theorem kept_again {s s' : St} {l : List Int} {n : Nat} (hi : Inv s) (h6 : s.now = 6) (h : itAgain s l = .ok s' n) : Kept s s' l n := by
  have hl := hi.lens (by omega)
  have hlc := hi.lc (by omega)
  obtain ⟨a0, a1, a2, a3, a4⟩ := hi.again h6
  unfold itAgain at h
  split at h
  · cases h
  · obtain ⟨k1, rfl, _⟩ := lengL_inv h rfl a4 hlc hl
    exact Kept.of k1 (by omega) (by omega)
theorem kept_lens {s s' : St} {l : List Int} {n : Nat} (hi : Inv s) (h5 : s.now = 5) (h : itLens s l = .ok s' n) : Kept s s' l n := by
  have hl := hi.lens (by omega)
  obtain ⟨ns, c1, c2⟩ := hi.lc (by omega)
  have hlast : s.row[s.row.length - 1]?.getD 0 ≤ 15 := by
    by_cases hr : s.row.length - 1 < s.row.length
    · rw [List.getElem?_eq_getElem hr]; exact hl.2.2.2.2.2 _ (List.getElem_mem hr)
    · rw [List.getElem?_eq_none (by omega)]; exact Nat.zero_le _
  unfold itLens at h
  rw [c1] at h
  simp only [Option.getD_some] at h
  have hn := nxL_nonneg ns l
  have hs := nxL_sym ns l
  have hp := nxL_pos ns l
  have hle := nxL_len ns l
  generalize nxL ns l = X at *
  obtain ⟨sym, er, m⟩ := X
  simp only at h hn hs hp hle
  split at h
  · cases h
  · split at h
    · cases h
    · rename_i h0
      have h0 : er = 0 := by simpa using h0
      have hp := hp h0
      have hs := hs h0
      split at h
      · split at h
        · cases h
        · simp only [Rs.ok.injEq] at h; obtain ⟨rfl, rfl⟩ := h
          exact Kept.of ⟨by simp, by simp, by simp, fun _ => hl, fun _ => ⟨ns, rfl, c2⟩, fun _ => ⟨by simp, by simp, by simp, by simp, hlast⟩, by simp, by simp, by simp, by simp⟩ hle hp
      · split at h
        · simp only [Rs.ok.injEq] at h; obtain ⟨rfl, rfl⟩ := h
          exact Kept.of ⟨by simp, by simp, by simp, fun _ => hl, fun _ => ⟨ns, rfl, c2⟩, fun _ => ⟨by simp, by simp, by simp, by simp, by simp⟩, by simp, by simp, by simp, by simp⟩ hle hp
        · split at h
          · simp only [Rs.ok.injEq] at h; obtain ⟨rfl, rfl⟩ := h
            exact Kept.of ⟨by simp, by simp, by simp, fun _ => hl, fun _ => ⟨ns, rfl, c2⟩, fun _ => ⟨by simp, by simp, by simp, by simp, by simp⟩, by simp, by simp, by simp, by simp⟩ hle hp
          · obtain ⟨k1, rfl, _⟩ := lengL_inv h rfl (by omega) ⟨ns, rfl, c2⟩ hl
            exact Kept.of k1 hle hp
theorem kept_symbol {s s' : St} {lim : Nat} {l : List Int} {n : Nat} (hi : Inv s) (h7 : s.now = 7) (h : itSymbol lim s l = .ok s' n) : Kept s s' l n := by
  obtain ⟨n1, n2, c1, c2⟩ := hi.codes (by omega)
  unfold itSymbol at h
  simp only at h
  have hn := nxL_nonneg (s.la.getD []) l
  have hp := nxL_pos (s.la.getD []) l
  have hle := nxL_len (s.la.getD []) l
  generalize nxL (s.la.getD []) l = X at *
  obtain ⟨sym, er, m⟩ := X
  simp only at h hn hp hle
  split at h
  · cases h
  · split at h
    · cases h
    · rename_i h0
      have h0 : er = 0 := by simpa using h0
      have hp := hp h0
      split at h
      · split at h
        · cases h
        · simp only [Rs.ok.injEq] at h; obtain ⟨rfl, rfl⟩ := h
          exact Kept.of (inv_sym h7 ⟨n1, n2, c1, c2⟩) hle hp
      · split at h
        · obtain ⟨k1, k2, k3, _⟩ := endB_inv h
          exact Kept.of k1 (k3 hle) (by omega)
        · split at h
          · cases h
          · rename_i g1 g2 g3
            simp only [Rs.ok.injEq] at h; obtain ⟨rfl, rfl⟩ := h
            have hb := cLen_bound sym.toNat (by omega) (by omega)
            exact Kept.of ⟨by simp, by simp, by simp, by simp, by simp, by simp, fun _ => ⟨n1, n2, c1, c2⟩, fun _ => ⟨hb.2, hb.1⟩, by simp, by simp⟩ hle hp
theorem kept_dist {s s' : St} {l : List Int} {n : Nat} (hi : Inv s) (h9 : s.now = 9) (h : itDist s l = .ok s' n) : Kept s s' l n := by
  obtain ⟨n1, n2, c1, c2⟩ := hi.codes (by omega)
  have hlen := hi.len (by omega)
  unfold itDist at h
  simp only at h
  have hn := nxL_nonneg (s.da.getD []) l
  have hp := nxL_pos (s.da.getD []) l
  have hle := nxL_len (s.da.getD []) l
  generalize nxL (s.da.getD []) l = X at *
  obtain ⟨sym, er, m⟩ := X
  simp only at h hn hp hle
  split at h
  · cases h
  · split at h
    · cases h
    · rename_i h0
      have h0 : er = 0 := by simpa using h0
      have hp := hp h0
      split at h
      · cases h
      · rename_i g1
        simp only [Rs.ok.injEq] at h; obtain ⟨rfl, rfl⟩ := h
        have hb := sprd_bound sym.toNat (by omega)
        refine Kept.of ⟨by simp, by simp, by simp, by simp, by simp, by simp, fun _ => ⟨n1, n2, c1, c2⟩, by simp, fun _ => hlen, fun _ => ⟨hb.2.1, ?_, ?_⟩⟩ hle hp
        · simp only; omega
        · simp only; omega
theorem kept_far {s s' : St} {lim : Nat} {l : List Int} {n : Nat} (hi : Inv s) (h10 : s.now = 10) (h : itFar lim s l = .ok s' n) : Kept s s' l n := by
  have hc := hi.codes (by omega)
  unfold itFar at h
  split at h
  · cases h
  · split at h
    · cases h
    · split at h
      · simp only [Rs.ok.injEq] at h; obtain ⟨rfl, rfl⟩ := h
        refine ⟨inv_sym rfl hc, by omega, ?_⟩
        unfold rk
        simp only
        rw [if_neg (by omega), if_pos (.inr h10)]
        omega
      · cases h
theorem item_kept {s s' : St} {lim : Nat} {l : List Int} {n : Nat} (hb : Bit l) (hi : Inv s) (h10 : s.now ≤ 10) (h : item lim s l = .ok s' n) : Kept s s' l n := by
  unfold item at h
  rcases (show s.now = 0 ∨ s.now = 1 ∨ s.now = 2 ∨ s.now = 3 ∨ s.now = 4 ∨ s.now = 5 ∨ s.now = 6 ∨ s.now = 7 ∨ s.now = 8 ∨ s.now = 9 ∨ s.now = 10 by omega) with e | e | e | e | e | e | e | e | e | e | e
  · rw [e] at h; exact kept_head h
  · rw [e] at h; exact kept_size hb h
  · rw [e] at h; exact kept_stored hi e h
  · rw [e] at h; exact kept_counts hb h
  · rw [e] at h; exact kept_code hi e h
  · rw [e] at h; exact kept_lens hi e h
  · rw [e] at h; exact kept_again hi e h
  · rw [e] at h; exact kept_symbol hi e h
  · rw [e] at h; exact kept_length hb hi e h
  · rw [e] at h; exact kept_dist hi e h
  · rw [e] at h; exact kept_far hi e h
end Go.Proofs.YtloagniacjfkfaaGreatDoor
/- More bits behind: the same items. -/
namespace Go.Proofs.YtloagniacjfkfaaGreatDoor
open Go.RowKit
theorem nxt_more (ns : List Nat) {nb nb' : Nat → Nat} {N N' : Nat} (h : ∀ i, i < N → nb i = nb' i) (hN : N ≤ N') : ∀ f k, (nxt ns nb N f k).2.1 ≠ 2 → nxt ns nb' N' f k = nxt ns nb N f k
  | 0, _ => fun _ => rfl
  | f + 1, k => by
    have hp : ∀ j, j ≤ N → pv nb j = pv nb' j := by
      intro j
      induction j with
      | zero => intro _; rfl
      | succ j ih => intro hj; rw [pv, pv, ih (by omega), h j (by omega)]
    rw [nxt, nxt]
    by_cases hk : N ≤ k
    · rw [if_pos hk]; intro h; exact absurd rfl h
    · have hk' : ¬ N' ≤ k := by omega
      rw [if_neg hk, if_neg hk', ← hp (k + 1) (by omega)]
      by_cases hst : stB (fin ns) ns.length (k + 1) (pv nb (k + 1)) = true
      · rw [if_pos hst, if_pos hst]
        exact nxt_more ns h hN f (k + 1)
      · rw [if_neg hst, if_neg hst]
        intro _; rfl
theorem nxL_more (ns : List Nat) (l x : List Int) (h : (nxL ns l).2.1 ≠ 2) : nxL ns (l ++ x) = nxL ns l := by
  unfold nxL at h ⊢
  exact nxt_more ns (fun i hi => by rw [List.getElem?_append_left hi]) (by rw [List.length_append]; omega) 15 0 h
theorem bV_more (l x : List Int) (k n : Nat) (h : k + n ≤ l.length) : bV (l ++ x) k n = bV l k n := by
  unfold bV
  rw [List.drop_append_of_le_length (by omega), List.take_append_of_le_length (by rw [List.length_drop]; omega)]
theorem endB_more (s : St) (l x : List Int) (k : Nat) (h : k ≤ l.length) (hx : x.length % 8 = 0) : endB s (l ++ x) k = endB s l k := by
  unfold endB
  rw [List.length_append, show (l.length + x.length - k) % 8 = (l.length - k) % 8 by omega]
theorem clL_more (l x : List Int) : ∀ i, 3 * i ≤ l.length → clL (l ++ x) i = clL l i
  | 0, _ => rfl
  | i + 1, h => by rw [clL, clL, clL_more l x i (by omega), bV_more _ _ _ _ (by omega)]
section
variable {lim : Nat} {s : St} {l x : List Int}
theorem more_head (hx : x.length % 8 = 0) (h : itHead s l ≠ .short) : itHead s (l ++ x) = itHead s l := by
  unfold itHead at h ⊢
  by_cases hl : l.length < 3
  · rw [if_pos hl] at h; exact absurd rfl h
  · rw [if_neg hl, if_neg (by rw [List.length_append]; omega), bV_more _ _ _ _ (by omega), bV_more _ _ _ _ (by omega), List.length_append, show (l.length + x.length - 3) % 8 = (l.length - 3) % 8 by omega]
theorem more_size (hx : x.length % 8 = 0) (h : itSize s l ≠ .short) : itSize s (l ++ x) = itSize s l := by
  unfold itSize at h ⊢
  by_cases hl : l.length < 32
  · rw [if_pos hl] at h; exact absurd rfl h
  · rw [if_neg hl, if_neg (by rw [List.length_append]; omega), bV_more _ _ _ _ (by omega), bV_more _ _ _ _ (by omega), endB_more _ _ _ _ (by omega) hx]
theorem more_stored (hx : x.length % 8 = 0) (h : itStored lim s l ≠ .short) : itStored lim s (l ++ x) = itStored lim s l := by
  unfold itStored at h ⊢
  by_cases hl : l.length < 8
  · rw [if_pos hl] at h; exact absurd rfl h
  · rw [if_neg hl, if_neg (by rw [List.length_append]; omega), bV_more _ _ _ _ (by omega), endB_more _ _ _ _ (by omega) hx]
theorem more_counts (h : itCounts s l ≠ .short) : itCounts s (l ++ x) = itCounts s l := by
  unfold itCounts at h ⊢
  by_cases hl : l.length < 14
  · rw [if_pos hl] at h; exact absurd rfl h
  · rw [if_neg hl, if_neg (by rw [List.length_append]; omega), bV_more _ _ _ _ (by omega), bV_more _ _ _ _ (by omega), bV_more _ _ _ _ (by omega)]
theorem more_code (h : itCode s l ≠ .short) : itCode s (l ++ x) = itCode s l := by
  unfold itCode at h ⊢
  by_cases hl : l.length < 3 * s.cl
  · rw [if_pos hl] at h; exact absurd rfl h
  · rw [if_neg hl, if_neg (by rw [List.length_append]; omega), clL_more _ _ _ (by omega)]
theorem more_again (h : itAgain s l ≠ .short) : itAgain s (l ++ x) = itAgain s l := by
  unfold itAgain at h ⊢
  by_cases hl : l.length < s.nb
  · rw [if_pos hl] at h; exact absurd rfl h
  · rw [if_neg hl, if_neg (by rw [List.length_append]; omega), bV_more _ _ _ _ (by omega)]
theorem more_length (h : itLength s l ≠ .short) : itLength s (l ++ x) = itLength s l := by
  unfold itLength at h ⊢
  by_cases hl : l.length < s.nb
  · rw [if_pos hl] at h; exact absurd rfl h
  · rw [if_neg hl, if_neg (by rw [List.length_append]; omega), bV_more _ _ _ _ (by omega)]
theorem more_far (h : itFar lim s l ≠ .short) : itFar lim s (l ++ x) = itFar lim s l := by
  unfold itFar at h ⊢
  by_cases hl : l.length < s.nb
  · rw [if_pos hl] at h; exact absurd rfl h
  · rw [if_neg hl, if_neg (by rw [List.length_append]; omega), bV_more _ _ _ _ (by omega)]
theorem more_lens (h : itLens s l ≠ .short) : itLens s (l ++ x) = itLens s l := by
  unfold itLens at h ⊢
  by_cases hl : (nxL (s.lc.getD []) l).2.1 = 2
  · simp only [hl, if_true] at h; exact absurd rfl h
  · rw [nxL_more _ _ _ hl]
theorem more_dist (h : itDist s l ≠ .short) : itDist s (l ++ x) = itDist s l := by
  unfold itDist at h ⊢
  by_cases hl : (nxL (s.da.getD []) l).2.1 = 2
  · simp only [hl, if_true] at h; exact absurd rfl h
  · rw [nxL_more _ _ _ hl]
theorem more_symbol (hx : x.length % 8 = 0) (h : itSymbol lim s l ≠ .short) : itSymbol lim s (l ++ x) = itSymbol lim s l := by
  unfold itSymbol at h ⊢
  by_cases hl : (nxL (s.la.getD []) l).2.1 = 2
  · simp only [hl, if_true] at h; exact absurd rfl h
  · rw [nxL_more _ _ _ hl]
    simp only
    rw [endB_more _ _ _ _ (nxL_len _ _) hx]
/-- Whole bytes behind: an item that was there is the same. -/
theorem item_more (hx : x.length % 8 = 0) (h10 : s.now ≤ 10) (h : item lim s l ≠ .short) : item lim s (l ++ x) = item lim s l := by
  unfold item at h ⊢
  rcases (show s.now = 0 ∨ s.now = 1 ∨ s.now = 2 ∨ s.now = 3 ∨ s.now = 4 ∨ s.now = 5 ∨ s.now = 6 ∨ s.now = 7 ∨ s.now = 8 ∨ s.now = 9 ∨ s.now = 10 by omega) with e | e | e | e | e | e | e | e | e | e | e
  · rw [e] at h ⊢; exact more_head hx h
  · rw [e] at h ⊢; exact more_size hx h
  · rw [e] at h ⊢; exact more_stored hx h
  · rw [e] at h ⊢; exact more_counts h
  · rw [e] at h ⊢; exact more_code h
  · rw [e] at h ⊢; exact more_lens h
  · rw [e] at h ⊢; exact more_again h
  · rw [e] at h ⊢; exact more_symbol hx h
  · rw [e] at h ⊢; exact more_length h
  · rw [e] at h ⊢; exact more_dist h
  · rw [e] at h ⊢; exact more_far h
end
end Go.Proofs.YtloagniacjfkfaaGreatDoor
/- The machine from item to item, and more bytes behind. -/
namespace Go.Proofs.YtloagniacjfkfaaGreatDoor
open Go.RowKit
/-- How a run ends: it stands at a state with bits left (ended, if the state is 11), or it has failed. -/
inductive Og where
  | stop : St → List Int → Og
  | fail : Int → List Int → Og
inductive Runs (lim : Nat) : St → List Int → Og → Prop
  | fin {s : St} {l : List Int} : s.now = 11 → Runs lim s l (.stop s l)
  | short {s : St} {l : List Int} : s.now ≤ 10 → item lim s l = .short → Runs lim s l (.stop s l)
  | bad {s : St} {l : List Int} {er : Int} {out : List Int} : s.now ≤ 10 → item lim s l = .bad er out → Runs lim s l (.fail er out)
  | ok {s : St} {l : List Int} {s' : St} {n : Nat} {r : Og} : s.now ≤ 10 → item lim s l = .ok s' n → Runs lim s' (l.drop n) r → Runs lim s l r
theorem Runs.det {lim : Nat} {s : St} {l : List Int} {r r' : Og} (h : Runs lim s l r) : Runs lim s l r' → r = r' := by
  induction h with
  | fin h1 => intro k; cases k with
    | fin _ => rfl
    | short h2 _ => omega
    | bad h2 _ => omega
    | ok h2 _ _ => omega
  | short h1 h2 => intro k; cases k with
    | fin _ => omega
    | short _ _ => rfl
    | bad _ h3 => rw [h2] at h3; cases h3
    | ok _ h3 _ => rw [h2] at h3; cases h3
  | bad h1 h2 => intro k; cases k with
    | fin _ => omega
    | short _ h3 => rw [h2] at h3; cases h3
    | bad _ h3 => rw [h2] at h3; cases h3; rfl
    | ok _ h3 _ => rw [h2] at h3; cases h3
  | ok h1 h2 _ ih => intro k; cases k with
    | fin _ => omega
    | short _ h3 => rw [h2] at h3; cases h3
    | bad _ h3 => rw [h2] at h3; cases h3
    | ok _ h3 h4 => rw [h2] at h3; cases h3; exact ih h4
theorem Runs.kept {lim : Nat} {s : St} {l : List Int} {r : Og} (h : Runs lim s l r) : Bit l → Inv s → (∀ s' l', r = .stop s' l' → Inv s' ∧ ∃ n, n ≤ l.length ∧ l' = l.drop n) := by
  induction h with
  | fin h1 => intro _ hi s' l' e; cases e; exact ⟨hi, 0, by omega, by simp⟩
  | short h1 h2 => intro _ hi s' l' e; cases e; exact ⟨hi, 0, by omega, by simp⟩
  | bad h1 h2 => intro _ _ s' l' e; cases e
  | ok h1 h2 _ ih =>
    rename_i s l s1 n r hr
    intro hb hi s' l' e
    have hk := item_kept hb hi h1 h2
    obtain ⟨i1, m, hm, e2⟩ := ih (hb.drop n) hk.1 s' l' e
    refine ⟨i1, n + m, ?_, ?_⟩
    · rw [List.length_drop] at hm; have := hk.2.1; omega
    · rw [e2, List.drop_drop]
theorem Runs.total {lim : Nat} : ∀ (m : Nat) (s : St) (l : List Int), 2 * l.length + rk s < m → Bit l → Inv s → ∃ r, Runs lim s l r
  | 0, _, _, h, _, _ => by omega
  | m + 1, s, l, h, hb, hi => by
    by_cases h11 : s.now = 11
    · exact ⟨_, .fin h11⟩
    · have h10 : s.now ≤ 10 := by have := hi.now; omega
      cases hx : item lim s l with
      | short => exact ⟨_, .short h10 hx⟩
      | bad er out => exact ⟨_, .bad h10 hx⟩
      | ok s' n =>
        have hk := item_kept hb hi h10 hx
        obtain ⟨r, hr⟩ := Runs.total m s' (l.drop n) (by rw [List.length_drop]; have := hk.2.2; omega) (hb.drop n) hk.1
        exact ⟨r, .ok h10 hx hr⟩
section
variable {lim : Nat} {s : St} {l x : List Int} {r : Og}
theorem Runs.more (hx : x.length % 8 = 0) (h : Runs lim s l r) : Bit l → Inv s → (∀ s' l', r = .stop s' l' → ∀ r', Runs lim s' (l' ++ x) r' → Runs lim s (l ++ x) r') ∧ (∀ er out, r = .fail er out → Runs lim s (l ++ x) r) := by
  induction h with
  | fin h1 => intro _ _; exact ⟨fun s' l' e r' h => by cases e; exact h, fun er out e => by cases e⟩
  | short h1 h2 => intro _ _; exact ⟨fun s' l' e r' h => by cases e; exact h, fun er out e => by cases e⟩
  | bad h1 h2 =>
    intro _ _
    refine ⟨(fun s' l' e => by cases e), fun er out e => ?_⟩
    exact .bad h1 (by rw [item_more hx h1 (by rw [h2]; intro e; cases e)]; exact h2)
  | ok h1 h2 _ ih =>
    rename_i s l s1 n r hr
    intro hb hi
    have hk := item_kept hb hi h1 h2
    have e1 : item lim s (l ++ x) = .ok s1 n := by rw [item_more hx h1 (by rw [h2]; intro e; cases e)]; exact h2
    have e2 : (l ++ x).drop n = l.drop n ++ x := by rw [List.drop_append_of_le_length hk.2.1]
    obtain ⟨i1, i2⟩ := ih (hb.drop n) hk.1
    refine ⟨fun s' l' e r' h => .ok h1 e1 ?_, fun er out e => .ok h1 e1 ?_⟩
    · rw [e2]; exact i1 s' l' e r' h
    · rw [e2]; exact i2 er out e
theorem Runs.more_stop {s' : St} {l' : List Int} {r' : Og} (h : Runs lim s l (.stop s' l')) (hx : x.length % 8 = 0) (hb : Bit l) (hi : Inv s) (h2 : Runs lim s' (l' ++ x) r') : Runs lim s (l ++ x) r' := (h.more hx hb hi).1 _ _ rfl _ h2
theorem Runs.more_end {s' : St} {l' : List Int} (h : Runs lim s l (.stop s' l')) (hx : x.length % 8 = 0) (hb : Bit l) (hi : Inv s) (h2 : s'.now = 11) : Runs lim s (l ++ x) (.stop s' (l' ++ x)) := h.more_stop hx hb hi (.fin h2)
theorem Runs.more_fail {er : Int} {out : List Int} (h : Runs lim s l (.fail er out)) (hx : x.length % 8 = 0) (hb : Bit l) (hi : Inv s) : Runs lim s (l ++ x) (.fail er out) := (h.more hx hb hi).2 _ _ rfl
end
def Og.out : Og → List Int
  | .stop s _ => s.out
  | .fail _ out => out
def Og.err : Og → Int
  | .stop _ _ => 0
  | .fail er _ => er
theorem cpy_pre (lim dist : Nat) : ∀ n out, out <+: (cpy lim dist n out).1
  | 0, out => List.prefix_refl _
  | n + 1, out => by
    rw [cpy]
    split
    · exact List.prefix_refl _
    · exact (List.prefix_append _ _).trans (cpy_pre lim dist n _)
/-- What is told is told: an item only adds to it. -/
def Rs.pre (out : List Int) : Rs → Prop
  | .short => True
  | .bad _ o => out <+: o
  | .ok s _ => out <+: s.out
theorem endB_pre {s : St} {l : List Int} {n : Nat} {out : List Int} (h : out <+: s.out) : (endB s l n).pre out := by
  unfold endB
  split <;> exact h
theorem lengL_pre {s : St} {v t n : Nat} {out : List Int} (h : out <+: s.out) : (lengL s v t n).pre out := by
  unfold lengL endL
  split
  · exact h
  · split
    · exact h
    · split <;> exact h
theorem item_pre (lim : Nat) (s : St) (l : List Int) : (item lim s l).pre s.out := by
  have hr : s.out <+: s.out := List.prefix_refl _
  have ha : ∀ x : List Int, s.out <+: s.out ++ x := fun x => List.prefix_append _ _
  unfold item
  split
  · unfold itHead; repeat' split
    all_goals first | trivial | exact hr
  · unfold itSize
    split
    · trivial
    · split
      · exact hr
      · split
        · exact endB_pre hr
        · exact hr
  · unfold itStored
    split
    · trivial
    · split
      · exact hr
      · split
        · exact endB_pre (ha _)
        · exact ha _
  · unfold itCounts; repeat' split
    all_goals first | trivial | exact hr
  · unfold itCode; repeat' split
    all_goals first | trivial | exact hr
  · unfold itLens
    simp only
    repeat' split
    all_goals first | trivial | exact hr | exact lengL_pre hr
  · unfold itAgain
    split
    · trivial
    · exact lengL_pre hr
  · unfold itSymbol
    simp only
    repeat' split
    all_goals first | trivial | exact hr | exact ha _ | exact endB_pre hr
  · unfold itLength; repeat' split
    all_goals first | trivial | exact hr
  · unfold itDist
    simp only
    repeat' split
    all_goals first | trivial | exact hr
  · unfold itFar
    repeat' split
    all_goals first | trivial | exact hr | exact cpy_pre _ _ _ _
theorem Runs.pre {lim : Nat} {s : St} {l : List Int} {r : Og} (h : Runs lim s l r) : s.out <+: r.out := by
  induction h with
  | fin _ => exact List.prefix_refl _
  | short _ _ => exact List.prefix_refl _
  | bad h1 h2 =>
    rename_i s l er out
    have := item_pre lim s l
    rw [h2] at this; exact this
  | ok h1 h2 _ ih =>
    rename_i s l s1 n r hr
    have := item_pre lim s l
    rw [h2] at this; exact List.IsPrefix.trans this ih
end Go.Proofs.YtloagniacjfkfaaGreatDoor
/- What stands between the items of a decoder that reads. -/
namespace Go.Proofs.YtloagniacjfkfaaGreatDoor
open Go.RowKit
section
variable {w : World} {d lim n0 : Nat} {s : St} {L : List Int} {a : Nat} {o : Ow} {V : Vs}
theorem AtS.dk (h : AtS w d lim n0 s L a o V) : ∃ g zs gone rv, Dk w d g zs gone { mkT s lim V with rest := rv } := by
  unfold AtS at h
  split at h
  · obtain ⟨rv, zs, hd, _⟩ := h; exact ⟨_, _, _, _, hd⟩
  · unfold LiveA at h
    split at h
    · obtain ⟨a0, _, ⟨zs, gone, hd, _⟩, _⟩ := h; exact ⟨_, _, _, (mkT s lim V).rest, hd⟩
    · obtain ⟨⟨zs, gone, hd, _⟩, _⟩ := h; exact ⟨_, _, _, (mkT s lim V).rest, hd⟩
theorem AtS.bits (h : AtS w d lim n0 s L a o V) : Bit L ∧ a ≤ L.length ∧ L.length % 8 = 0 ∧ L.length ≤ 1125899906842624 := by
  unfold AtS at h
  split at h
  · obtain ⟨rv, zs, _, _, hr, _, hl⟩ := h; exact ⟨hr.bit, hr.le, hr.m8, hl⟩
  · unfold LiveA at h
    split at h
    · obtain ⟨a0, ha, ⟨zs, gone, _, hr⟩, _, hl⟩ := h; exact ⟨hr.bit, by have := hr.le; omega, hr.m8, hl⟩
    · obtain ⟨⟨zs, gone, _, hr⟩, _, hl⟩ := h; exact ⟨hr.bit, hr.le, hr.m8, hl⟩
theorem AtS.hold (h : AtS w d lim n0 s L a o V) : Hold w s lim n0 V o := by
  unfold AtS at h
  split at h
  · obtain ⟨rv, zs, _, _, hr, hh, hl⟩ := h; exact hh
  · unfold LiveA at h
    split at h
    · obtain ⟨a0, ha, _, hh, hl⟩ := h; exact hh
    · exact h.2.1
theorem AtS.lt (h : AtS w d lim n0 s L a o V) : d < w.heap.size := by obtain ⟨g, zs, gone, rv, hd⟩ := h.dk; exact hd.lt
theorem AtS.old {w' : World} (h : AtS w d lim n0 s L a o V) (hb : Below w.heap.size w w') : AtS w' d lim n0 s L a o V := by
  unfold AtS at h ⊢
  by_cases h11 : s.now = 11
  · rw [if_pos h11] at h ⊢
    obtain ⟨rv, zs, hd, hs, hr, hh, hll⟩ := h
    refine ⟨rv, zs, hd.same (hb.block _ hd.lt) (fun k hk => by cases hk), hs.same fun k hk => hb.block k (hs.lt hk), hr, ?_, hll⟩
    exact hh.keep ⟨hb.size, fun k hk => .inl (hb.block k hk)⟩ (fun k hk => hb.block k (hh.told.lt hk)) (fun k hk => hb.block k (hh.row.lt hk))
  · rw [if_neg h11] at h ⊢
    unfold LiveA at h ⊢
    by_cases h1 : s.now = 1
    · rw [if_pos h1] at h ⊢
      obtain ⟨a0, e, h⟩ := h
      exact ⟨a0, e, h.old hb⟩
    · rw [if_neg h1] at h ⊢
      exact h.old hb
theorem Ord.pos {w : World} (h : Ord w) : 3 ≤ w.heap.size := cell_lt (h 0 (by omega))
theorem Ord.below {w w' : World} {base : Nat} (h : Ord w) (hb : Below base w w') (h1 : 3 ≤ base) : Ord w' := fun i hi => (World.cell?_of_block (a := ⟨2, i, none⟩) (hb.block 2 (by omega))).trans (h i hi)
/-- Between two items: from here the machine says what it says from the beginning. -/
def RdRel (w : World) (d lim n0 : Nat) (s : St) (L : List Int) (a : Nat) (o : Ow) (wr : World) (s1 : St) (a1 : Nat) (o1 : Ow) (V1 : Vs) : Prop :=
  AtS wr d lim n0 s1 L a1 o1 V1 ∧ Inv s1 ∧ Ord wr ∧ Own1 d o1 ∧ Step w wr d o o1 ∧ ∀ r, Runs lim s1 (L.drop a1) r → Runs lim s (L.drop a) r
/-- How a decoder stands behind a run. -/
def Stand (w : World) (d lim n0 : Nat) (L : List Int) (o : Ow) : Og → Prop
  | .stop s' l' => ∃ a' V', l' = L.drop a' ∧ AtS w d lim n0 s' L a' o V' ∧ Inv s'
  | .fail er out => Failed w d n0 out er o.t ∧ er ≠ 0 ∧ o.g = none ∧ o.q = none
def RdDone (w : World) (d lim n0 : Nat) (s : St) (L : List Int) (a : Nat) (o : Ow) (e : Ending) (w' : World) : Prop :=
  e = .returned (.tuple #[]) ∧ ∃ r o', Runs lim s (L.drop a) r ∧ Stand w' d lim n0 L o' r ∧ Step w w' d o o'
def msr (L : List Int) (a : Nat) (s : St) : Nat := 2 * (L.length - a) + rk s
variable {wr : World} {s1 : St} {a1 : Nat} {o1 : Ow} {V1 : Vs}
theorem RdRel.now (h : RdRel w d lim n0 s L a o wr s1 a1 o1 V1) : wr.cell? ⟨d, 2, none⟩ = some (.int .i64 s1.now) := by
  obtain ⟨g, zs, gone, rv, hd⟩ := h.1.dk; exact hd.k2
theorem RdRel.old {wr' : World} (h : RdRel w d lim n0 s L a o wr s1 a1 o1 V1) (hb : Below wr.heap.size wr wr') : RdRel w d lim n0 s L a o wr' s1 a1 o1 V1 := by
  obtain ⟨h1, h2, h3, h4, h5, h6⟩ := h
  exact ⟨h1.old hb, h2, h3.below hb h3.pos, h4, h5.trans (Below.step hb), h6⟩
theorem RdRel.drewN (h : RdRel w d lim n0 s L a o wr s1 a1 o1 V1) (n : Nat) : RdRel w d lim n0 s L a o (wr.drewN n) s1 a1 o1 V1 := h.old ⟨rfl, rfl, rfl, Nat.le_refl _, fun _ _ => rfl⟩
theorem RdRel.fin (h : RdRel w d lim n0 s L a o wr s1 a1 o1 V1) (h11 : s1.now = 11) : RdDone w d lim n0 s L a o (.returned (.tuple #[])) wr := by
  obtain ⟨h1, h2, h3, h4, h5, h6⟩ := h
  exact ⟨rfl, .stop s1 (L.drop a1), o1, h6 _ (.fin h11), ⟨a1, V1, rfl, h1, h2⟩, h5⟩
theorem RdRel.item (h : RdRel w d lim n0 s L a o wr s1 a1 o1 V1) (h10 : s1.now ≤ 10) (hlim : lim ≤ 1000000) :
    Calls Tryz.prog (rdF s1.now) #[.pointer (some ⟨d, 0, none⟩)] wr fun e w' => ItPost wr d lim n0 s1 L a1 o1 (item lim s1 (L.drop a1)) e w' := by
  obtain ⟨h1, h2, h3, h4, h5, h6⟩ := h
  refine item_any (V := V1) ?_ h2 h10 hlim h3 h4
  unfold AtS at h1
  rwa [if_neg (by omega)] at h1
theorem RdRel.short (h : RdRel w d lim n0 s L a o wr s1 a1 o1 V1) (h10 : s1.now ≤ 10) (hs : Go.Proofs.YtloagniacjfkfaaGreatDoor.item lim s1 (L.drop a1) = .short) {w' : World} {o' : Ow} {V' : Vs} (hl : LiveA w' d lim n0 s1 L a1 o' V') (hst : Step wr w' d o1 o') : RdDone w d lim n0 s L a o (.returned (.tuple #[])) w' := by
  obtain ⟨h1, h2, h3, h4, h5, h6⟩ := h
  refine ⟨rfl, .stop s1 (L.drop a1), o', h6 _ (.short h10 hs), ⟨a1, V', rfl, ?_, h2⟩, h5.trans hst⟩
  unfold AtS
  rwa [if_neg (by omega)]
theorem RdRel.bad (h : RdRel w d lim n0 s L a o wr s1 a1 o1 V1) (h10 : s1.now ≤ 10) {er : Int} {out : List Int} (hs : Go.Proofs.YtloagniacjfkfaaGreatDoor.item lim s1 (L.drop a1) = .bad er out) (he : er ≠ 0) {w' w'' : World} {o' : Ow} (hst : Step wr w' d o1 o') (hf : FailPost w' d n0 out er o' (.returned (.tuple #[])) w'') : RdDone w d lim n0 s L a o (.returned (.tuple #[])) w'' := by
  obtain ⟨h1, h2, h3, h4, h5, h6⟩ := h
  obtain ⟨_, f1, f2⟩ := hf
  exact ⟨rfl, .fail er out, { o' with g := none, q := none }, h6 _ (.bad h10 hs), ⟨f1, he, rfl, rfl⟩, (h5.trans hst).trans f2⟩
theorem RdRel.next (h : RdRel w d lim n0 s L a o wr s1 a1 o1 V1) (h10 : s1.now ≤ 10) {s2 : St} {n : Nat} (hs : Go.Proofs.YtloagniacjfkfaaGreatDoor.item lim s1 (L.drop a1) = .ok s2 n) {w' : World} {o2 : Ow} {V2 : Vs} (hl : AtS w' d lim n0 s2 L (a1 + n) o2 V2) (hst : Step wr w' d o1 o2) : RdRel w d lim n0 s L a o w' s2 (a1 + n) o2 V2 ∧ msr L (a1 + n) s2 < msr L a1 s1 := by
  obtain ⟨h1, h2, h3, h4, h5, h6⟩ := h
  obtain ⟨b1, b2, b3, b4⟩ := h1.bits
  have hk := item_kept (b1.drop a1) h2 h10 hs
  refine ⟨⟨hl, hk.1, h3.step h4 hst h1.lt, h4.step hst h1.lt, h5.trans hst, fun r hr => h6 r (.ok h10 hs ?_)⟩, ?_⟩
  · rw [List.drop_drop]; exact hr
  · have := hk.2.2
    rw [List.length_drop] at this
    unfold msr
    omega
end
end Go.Proofs.YtloagniacjfkfaaGreatDoor
