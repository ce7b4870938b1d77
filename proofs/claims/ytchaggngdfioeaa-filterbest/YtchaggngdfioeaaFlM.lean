/- PNG's five filters, as numbers: no program in it. -/
import Derived.Test.YtchaggngdfioeaaNum
namespace Go.Proofs.Ytchaggngdfioeaa
open Go.RowKit

def atN (zs : List Int) (i : Int) : Int := if 0 ≤ i then zs[i.toNat]?.getD 0 else 0
def szN (n : Int) : Int := if n < 0 then -n else n
def nearN (l u c : Int) : Int :=
  if szN (l + u - c - l) ≤ szN (l + u - c - u) ∧ szN (l + u - c - l) ≤ szN (l + u - c - c) then l else if szN (l + u - c - u) ≤ szN (l + u - c - c) then u else c
def gsOf (k l u c : Int) : Int := if k = 1 then l else if k = 2 then u else if k = 3 then (l + u) / 2 else if k = 4 then nearN l u c else 0
def gsN (k : Int) (row above : List Int) (i s : Int) : Int := gsOf k (atN row (i - s)) (atN above i) (atN above (i - s))
def doAt (k : Int) (row above : List Int) (s : Int) (i : Nat) : Int := (row[i]?.getD 0 - gsN k row above i s) % 256
def doN (k : Int) (row above : List Int) (s : Int) : List Int := (List.range row.length).map (doAt k row above s)
def unP (k : Int) (row above : List Int) (s : Int) : Nat → List Int
  | 0 => []
  | n + 1 => unP k row above s n ++ [(row[n]?.getD 0 + gsN k (unP k row above s n) above n s) % 256]
def unN (k : Int) (row above : List Int) (s : Int) : List Int := unP k row above s row.length
def ckN (k s : Int) : Int := if s < 1 ∨ 8 < s then 1 else if k < 0 ∨ 4 < k then 13 else 0

theorem atN_byte {zs : List Int} (h : Bytes zs) (i : Int) : 0 ≤ atN zs i ∧ atN zs i < 256 := by
  unfold atN; split
  · exact h.at _
  · omega
theorem nearN_cases (l u c : Int) : nearN l u c = l ∨ nearN l u c = u ∨ nearN l u c = c := by
  unfold nearN; split
  · exact .inl rfl
  · split
    · exact .inr (.inl rfl)
    · exact .inr (.inr rfl)
theorem gsOf_byte (k : Int) {l u c : Int} (hl : 0 ≤ l ∧ l < 256) (hu : 0 ≤ u ∧ u < 256) (hc : 0 ≤ c ∧ c < 256) : 0 ≤ gsOf k l u c ∧ gsOf k l u c < 256 := by
  unfold gsOf
  split; · exact hl
  split; · exact hu
  split; · omega
  split
  · rcases nearN_cases l u c with h | h | h <;> rw [h] <;> assumption
  · omega
theorem gsN_byte (k : Int) {row above : List Int} (hr : Bytes row) (ha : Bytes above) (i s : Int) : 0 ≤ gsN k row above i s ∧ gsN k row above i s < 256 :=
  gsOf_byte k (atN_byte hr _) (atN_byte ha _) (atN_byte ha _)
theorem doN_len (k : Int) (row above : List Int) (s : Int) : (doN k row above s).length = row.length := by simp [doN]
theorem doN_at (k : Int) (row above : List Int) (s : Int) (i : Nat) (hi : i < row.length) : (doN k row above s)[i]?.getD 0 = doAt k row above s i := by simp [doN, hi]
theorem doN_bytes (k : Int) (row above : List Int) (s : Int) : Bytes (doN k row above s) := by
  intro z hz
  simp only [doN, List.mem_map] at hz
  obtain ⟨i, _, rfl⟩ := hz
  unfold doAt; omega
theorem unP_len (k : Int) (row above : List Int) (s : Int) (n : Nat) : (unP k row above s n).length = n := by
  induction n with
  | zero => rfl
  | succ n ih => simp [unP, ih]
theorem unP_bytes (k : Int) (row above : List Int) (s : Int) (n : Nat) : Bytes (unP k row above s n) := by
  induction n with
  | zero => exact Bytes.nil
  | succ n ih => exact ih.append (fun z hz => by simp at hz; subst hz; omega)
theorem unN_len (k : Int) (row above : List Int) (s : Int) : (unN k row above s).length = row.length := unP_len ..
theorem unN_bytes (k : Int) (row above : List Int) (s : Int) : Bytes (unN k row above s) := unP_bytes k row above s _
/-- The guess reads a row ahead of its place alone. -/
theorem atN_of_take {x y : List Int} {i : Int} {n : Nat} (h : x.take n = y.take n) (hi : i < n) : atN x i = atN y i := by
  unfold atN
  split
  · have e : ∀ z : List Int, z[i.toNat]? = (z.take n)[i.toNat]? := fun z => by rw [List.getElem?_take, if_pos (by omega)]
    rw [e x, e y, h]
  · rfl
theorem gsN_of_take (k : Int) {x y : List Int} (above : List Int) {n : Nat} {s : Int} (hs : 1 ≤ s) (h : x.take n = y.take n) : gsN k x above n s = gsN k y above n s := by
  unfold gsN; rw [atN_of_take h (by omega)]
theorem unP_take (k : Int) (row above : List Int) (s : Int) (n m : Nat) (h : n ≤ m) : (unP k row above s m).take n = unP k row above s n := by
  induction m with
  | zero => obtain rfl : n = 0 := (by omega); rfl
  | succ m ih =>
    by_cases hn : n = m + 1
    · subst hn; rw [List.take_of_length_le (by rw [unP_len]; omega)]
    · rw [unP, List.take_append_of_le_length (by rw [unP_len]; omega), ih (by omega)]
theorem unP_at (k : Int) (row above : List Int) (s : Int) (n m : Nat) (h : n < m) : (unP k row above s m)[n]?.getD 0 = (row[n]?.getD 0 + gsN k (unP k row above s n) above n s) % 256 := by
  have e : (unP k row above s m)[n]? = (unP k row above s (n + 1))[n]? := by rw [← unP_take k row above s (n + 1) m (by omega), List.getElem?_take, if_pos (by omega)]
  rw [e, unP, List.getElem?_append_right (by rw [unP_len]; omega), unP_len]; simp
theorem back_un (k : Int) {row : List Int} (above : List Int) {s : Int} (hs : 1 ≤ s) (hb : Bytes row) : unN k (doN k row above s) above s = row := by
  have key : ∀ n, n ≤ row.length → unP k (doN k row above s) above s n = row.take n := by
    intro n
    induction n with
    | zero => intro _; rfl
    | succ n ih =>
      intro hn
      rw [unP, ih (by omega), take_snoc row n (by omega), doN_at _ _ _ _ _ (by omega), doAt, gsN_of_take k (x := row.take n) (y := row) (n := n) above hs (by rw [List.take_take, Nat.min_self])]
      have := hb.at n
      congr 2
      omega
  rw [unN, doN_len, key _ (Nat.le_refl _), List.take_of_length_le (Nat.le_refl _)]
theorem back_do (k : Int) {row : List Int} (above : List Int) {s : Int} (hs : 1 ≤ s) (hb : Bytes row) : doN k (unN k row above s) above s = row := by
  apply List.ext_getElem?
  intro i
  by_cases hi : i < row.length
  · have h1 : i < (doN k (unN k row above s) above s).length := by rw [doN_len, unN_len]; exact hi
    have h2 := doN_at k (unN k row above s) above s i (by rw [unN_len]; exact hi)
    rw [List.getElem?_eq_getElem h1] at h2 ⊢
    have h3 := hb.at i
    rw [List.getElem?_eq_getElem hi] at h3 ⊢
    simp only [Option.getD_some] at h2 h3
    rw [h2, doAt]
    have h4 : (unN k row above s)[i]?.getD 0 = (row[i]?.getD 0 + gsN k (unP k row above s i) above i s) % 256 := unP_at k row above s i row.length hi
    rw [h4, gsN_of_take k (x := unN k row above s) (y := unP k row above s i) above hs (by unfold unN; rw [unP_take k row above s i row.length (by omega), List.take_of_length_le (by rw [unP_len]; exact Nat.le_refl _)]), List.getElem?_eq_getElem hi]
    simp only [Option.getD_some]
    congr 1
    omega
  · rw [List.getElem?_eq_none (by rw [doN_len, unN_len]; omega), List.getElem?_eq_none (by omega)]

/-- How great bytes are together. -/
def wt1 (z : Int) : Int := min z (256 - z)
def wtN (zs : List Int) : Int := (zs.map wt1).sum
theorem wtN_snoc (l : List Int) (x : Int) : wtN (l ++ [x]) = wtN l + wt1 x := by simp [wtN]
theorem wtN_bd {l : List Int} (h : Bytes l) : 0 ≤ wtN l ∧ wtN l ≤ 128 * l.length := by
  induction l with
  | nil => simp [wtN]
  | cons x r ih =>
    have := ih (fun z hz => h z (by simp [hz]))
    have hx := h x (by simp)
    simp only [wtN, List.map_cons, List.sum_cons, List.length_cons] at this ⊢
    unfold wt1 at *
    omega
/-- The first of the least among the first n. -/
def bstN (W : Nat → Int) : Nat → Nat
  | 0 => 0
  | n + 1 => if n = 0 ∨ W n < W (bstN W n) then n else bstN W n
theorem bstN_least (W : Nat → Int) (n j : Nat) (hj : j < n) : W (bstN W n) ≤ W j := by
  induction n with
  | zero => omega
  | succ n ih =>
    rw [bstN]
    by_cases h : n = 0 ∨ W n < W (bstN W n)
    · rw [if_pos h]
      by_cases hjn : j = n
      · subst hjn; omega
      · have := ih (by omega); omega
    · rw [if_neg h]
      by_cases hjn : j = n
      · subst hjn; omega
      · exact ih (by omega)
theorem bstN_lt (W : Nat → Int) (n : Nat) (h : 0 < n) : bstN W n < n := by
  induction n with
  | zero => omega
  | succ n ih =>
    rw [bstN]
    split
    · omega
    · rename_i hn; have := ih (by omega); omega
end Go.Proofs.Ytchaggngdfioeaa
