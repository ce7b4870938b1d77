/- LZW: the codes' machine, as plain functions. -/
import Derived.Test.YtcbmlioeeoghkaaBitM
namespace Go.Proofs.Ytcbmlioeeoghkaa
open Go.RowKit
def fcN (L : Nat) : Nat := 2 ^ L + 2
def widF : Nat → Nat → Nat → Nat
  | 0, w, _ => w
  | k + 1, w, n => if w < 12 ∧ 2 ^ w ≤ n then widF k (w + 1) n else w
def widG (w n : Nat) : Nat := widF (12 - w) w n
theorem widG_eq (w n : Nat) : widG w n = if w < 12 ∧ 2 ^ w ≤ n then widG (w + 1) n else w := by
  unfold widG
  by_cases h : w < 12
  · obtain ⟨k, hk⟩ : ∃ k, 12 - w = k + 1 := ⟨11 - w, by omega⟩
    rw [hk, show 12 - (w + 1) = k by omega]
    rfl
  · rw [show 12 - w = 0 by omega, if_neg (fun e => h e.1)]
    rfl
def widN (L n : Nat) : Nat := widG (L + 1) n
theorem widG_le (w n : Nat) (h : w ≤ 12) : w ≤ widG w n ∧ widG w n ≤ 12 := by
  obtain ⟨k, hk⟩ : ∃ k, 12 - w = k := ⟨_, rfl⟩
  induction k generalizing w with
  | zero => rw [widG_eq, if_neg (by omega)]; omega
  | succ k ih =>
    rw [widG_eq]
    split
    · have := ih (w + 1) (by omega) (by omega); omega
    · omega
theorem widN_le (L n : Nat) (h : L ≤ 8) : L + 1 ≤ widN L n ∧ widN L n ≤ 12 := widG_le _ _ (by omega)
/-- A text of the table: the code ahead, and a byte behind it. -/
abbrev Tx := Nat × Int
def nxC (L : Nat) (fs : List Tx) (c : Nat) : Nat := ((fs[c - fcN L]?).getD (0, 0)).1
def lsC (L : Nat) (fs : List Tx) (c : Nat) : Int := ((fs[c - fcN L]?).getD (0, 0)).2
def fsF (L : Nat) (fs : List Tx) : Nat → Nat → Nat
  | 0, c => c
  | k + 1, c => if fcN L ≤ c ∧ nxC L fs c < c then fsF L fs k (nxC L fs c) else c
theorem fsF_any (L : Nat) (fs : List Tx) : ∀ k j c, c ≤ k → c ≤ j → fsF L fs k c = fsF L fs j c := by
  intro k
  induction k with
  | zero =>
    intro j c h _
    obtain rfl : c = 0 := by omega
    cases j with
    | zero => rfl
    | succ j => show 0 = (if _ then _ else _); rw [if_neg (by omega)]
  | succ k ih =>
    intro j c h1 h2
    cases j with
    | zero =>
      obtain rfl : c = 0 := by omega
      show (if _ then _ else _) = 0
      rw [if_neg (by omega)]
    | succ j =>
      show (if _ then _ else _) = (if _ then _ else _)
      by_cases hc : fcN L ≤ c ∧ nxC L fs c < c
      · rw [if_pos hc, if_pos hc]; exact ih j _ (by omega) (by omega)
      · rw [if_neg hc, if_neg hc]
def fsC (L : Nat) (fs : List Tx) (c : Nat) : Nat := fsF L fs c c
theorem fsC_eq (L : Nat) (fs : List Tx) (c : Nat) : fsC L fs c = if fcN L ≤ c ∧ nxC L fs c < c then fsC L fs (nxC L fs c) else c := by
  unfold fsC
  cases c with
  | zero => rw [if_neg (by omega)]; rfl
  | succ c =>
    show (if _ then _ else _) = (if _ then _ else _)
    by_cases hc : fcN L ≤ c + 1 ∧ nxC L fs (c + 1) < c + 1
    · rw [if_pos hc, if_pos hc]; exact fsF_any L fs _ _ _ (by omega) (Nat.le_refl _)
    · rw [if_neg hc, if_neg hc]
def txF (L : Nat) (fs : List Tx) : Nat → Nat → List Int
  | 0, c => [(c : Int) % 256]
  | k + 1, c => if fcN L ≤ c ∧ nxC L fs c < c then txF L fs k (nxC L fs c) ++ [lsC L fs c] else [(c : Int) % 256]
theorem txF_any (L : Nat) (fs : List Tx) : ∀ k j c, c ≤ k → c ≤ j → txF L fs k c = txF L fs j c := by
  intro k
  induction k with
  | zero =>
    intro j c h _
    obtain rfl : c = 0 := by omega
    cases j with
    | zero => rfl
    | succ j => show _ = (if _ then _ else _); rw [if_neg (by omega)]; rfl
  | succ k ih =>
    intro j c h1 h2
    cases j with
    | zero =>
      obtain rfl : c = 0 := by omega
      show (if _ then _ else _) = _
      rw [if_neg (by omega)]
      rfl
    | succ j =>
      show (if _ then _ else _) = (if _ then _ else _)
      by_cases hc : fcN L ≤ c ∧ nxC L fs c < c
      · rw [if_pos hc, if_pos hc, ih j _ (by omega) (by omega)]
      · rw [if_neg hc, if_neg hc]
def txC (L : Nat) (fs : List Tx) (c : Nat) : List Int := txF L fs c c
theorem txC_eq (L : Nat) (fs : List Tx) (c : Nat) : txC L fs c = if fcN L ≤ c ∧ nxC L fs c < c then txC L fs (nxC L fs c) ++ [lsC L fs c] else [(c : Int) % 256] := by
  unfold txC
  cases c with
  | zero => rw [if_neg (by omega)]; rfl
  | succ c =>
    show (if _ then _ else _) = (if _ then _ else _)
    by_cases hc : fcN L ≤ c + 1 ∧ nxC L fs (c + 1) < c + 1
    · rw [if_pos hc, if_pos hc, txF_any L fs _ _ _ (by omega) (Nat.le_refl _)]
    · rw [if_neg hc, if_neg hc]
/-- Each text's code ahead is there ahead of it. -/
def WfT (L : Nat) (fs : List Tx) : Prop := ∀ i p, fs[i]? = some p → p.1 < fcN L + i ∧ 0 ≤ p.2 ∧ p.2 < 256
theorem WfT.nil (L : Nat) : WfT L [] := fun i p h => by simp at h
theorem WfT.at {L : Nat} {fs : List Tx} (h : WfT L fs) {c : Nat} (h1 : fcN L ≤ c) (h2 : c < fcN L + fs.length) : nxC L fs c < c ∧ 0 ≤ lsC L fs c ∧ lsC L fs c < 256 ∧ fs[c - fcN L]? = some (nxC L fs c, lsC L fs c) := by
  have hi : c - fcN L < fs.length := by omega
  have e : fs[c - fcN L]? = some fs[c - fcN L] := List.getElem?_eq_getElem hi
  have := h _ _ e
  unfold nxC lsC
  rw [e]
  simp only [Option.getD_some]
  exact ⟨by omega, this.2.1, this.2.2, trivial⟩
theorem WfT.push {L : Nat} {fs : List Tx} (h : WfT L fs) {p : Tx} (h1 : p.1 < fcN L + fs.length) (h2 : 0 ≤ p.2 ∧ p.2 < 256) : WfT L (fs ++ [p]) := by
  intro i q hq
  by_cases hi : i < fs.length
  · rw [List.getElem?_append_left hi] at hq; exact h i q hq
  · rw [List.getElem?_append_right (by omega)] at hq
    have : i - fs.length = 0 := by
      rcases Nat.eq_zero_or_pos (i - fs.length) with h | h
      · exact h
      · rw [List.getElem?_eq_none (by simp; omega)] at hq; cases hq
    rw [this] at hq
    simp at hq
    subst hq
    exact ⟨by omega, h2⟩
theorem fsC_step {L : Nat} {fs : List Tx} (h : WfT L fs) {c : Nat} (h1 : fcN L ≤ c) (h2 : c < fcN L + fs.length) : fsC L fs c = fsC L fs (nxC L fs c) := by
  rw [fsC_eq, if_pos ⟨h1, (h.at h1 h2).1⟩]
theorem fsC_root {L : Nat} {fs : List Tx} {c : Nat} (h1 : c < fcN L) : fsC L fs c = c := by
  rw [fsC_eq, if_neg (fun h => by omega)]
theorem txC_step {L : Nat} {fs : List Tx} (h : WfT L fs) {c : Nat} (h1 : fcN L ≤ c) (h2 : c < fcN L + fs.length) : txC L fs c = txC L fs (nxC L fs c) ++ [lsC L fs c] := by
  rw [txC_eq, if_pos ⟨h1, (h.at h1 h2).1⟩]
theorem txC_root {L : Nat} {fs : List Tx} {c : Nat} (h1 : c < fcN L) : txC L fs c = [(c : Int) % 256] := by
  rw [txC_eq, if_neg (fun h => by omega)]
theorem txC_len {L : Nat} {fs : List Tx} (h : WfT L fs) (c : Nat) (hc : c < fcN L + fs.length) (n : Nat) (hn : c + 1 ≤ fcN L + n) : (txC L fs c).length ≤ n + 1 := by
  induction c using Nat.strongRecOn generalizing n with
  | ind c ih =>
  by_cases h1 : fcN L ≤ c
  · have ha := h.at h1 hc
    rw [txC_step h h1 hc]
    have := ih (nxC L fs c) ha.1 (by omega) (n - 1) (by omega)
    simp; omega
  · rw [txC_root (by omega)]; simp
theorem txC_bytes {L : Nat} {fs : List Tx} (h : WfT L fs) (c : Nat) (hc : c < fcN L + fs.length) : Bytes (txC L fs c) ∧ 1 ≤ (txC L fs c).length := by
  induction c using Nat.strongRecOn with
  | ind c ih =>
  by_cases h1 : fcN L ≤ c
  · have ha := h.at h1 hc
    have ih := ih (nxC L fs c) ha.1 (by omega)
    rw [txC_step h h1 hc]
    refine ⟨?_, by simp⟩
    intro x hx
    rcases List.mem_append.1 hx with hx | hx
    · exact ih.1 x hx
    · simp at hx; subst hx; exact ⟨ha.2.1, ha.2.2.1⟩
  · rw [txC_root (by omega)]
    exact ⟨fun x hx => by simp at hx; omega, by simp⟩
def lrnN (L : Nat) (fs : List Tx) (ah : Nat) (b : Int) : List Tx := if fcN L + fs.length < 4096 then fs ++ [(ah, b)] else fs
/-- May a code come next, and the table then. -/
def flwN (L : Nat) (fs : List Tx) (ah : Int) (c : Nat) : Option (List Tx) :=
  if ah = -1 then (if 2 ^ L ≤ c then none else some fs)
  else if c < fcN L + fs.length then some (lrnN L fs ah.toNat ((fsC L fs c : Int) % 256))
  else if c = fcN L + fs.length then some (lrnN L fs ah.toNat ((fsC L fs ah.toNat : Int) % 256))
  else none
/-- A decoder: k is 0 while codes are read, 1 behind the end, 2 behind an error. -/
structure Lz where
  k : Nat
  left : Nat
  fs : List Tx
  ah : Int
  zs : List Int
  gone : Nat
  er : Int
  out : List Int
  rest : List Int
def Lz.fed (s : Lz) (m : List Int) : Lz := if s.k = 0 then { s with zs := s.zs ++ m } else if s.k = 1 then { s with rest := s.rest ++ m } else s
def lzF (s : Lz) (e : Int) : Lz := { s with k := 2, er := e, fs := [], ah := 0, zs := [], gone := 0 }
/-- A text is told, as far as there is room. -/
def lzT (s : Lz) (fs' : List Tx) (c : Nat) (T : List Int) : Lz :=
  if T.length ≤ s.left then { s with fs := fs', ah := c, out := s.out ++ T, left := s.left - T.length }
  else lzF { s with out := s.out ++ T.take s.left, left := 0 } 9
/-- What a code does. -/
def lzC (L : Nat) (s : Lz) (c : Nat) : Lz :=
  if c = 2 ^ L then { s with fs := [], ah := -1 }
  else if c = 2 ^ L + 1 then { s with k := 1, fs := [], ah := 0, rest := if s.gone = 0 then s.zs else s.zs.drop 1, zs := [], gone := 0 }
  else match flwN L s.fs s.ah c with
    | none => lzF s 6
    | some fs' => lzT s fs' c (txC L fs' c)
def lzW (L : Nat) (s : Lz) : Nat := widN L (fcN L + s.fs.length)
def lzP (s : Lz) (W : Nat) : Lz := { s with zs := s.zs.drop ((s.gone + W) / 8), gone := (s.gone + W) % 8 }
def lzV (s : Lz) (W : Nat) : Nat := (bitV s.zs s.gone % 2 ^ W).toNat
def lzS (L : Nat) (s : Lz) : Option Lz := if 8 * s.zs.length < s.gone + lzW L s then none else some (lzC L (lzP s (lzW L s)) (lzV s (lzW L s)))
def lzR (L : Nat) : Nat → Lz → Lz
  | 0, s => s
  | n + 1, s => if s.k = 0 then match lzS L s with | none => s | some t => lzR L n t else s
/-- All that can be read. -/
def lzG (L : Nat) (s : Lz) : Lz := lzR L (8 * s.zs.length + 1) s
end Go.Proofs.Ytcbmlioeeoghkaa
