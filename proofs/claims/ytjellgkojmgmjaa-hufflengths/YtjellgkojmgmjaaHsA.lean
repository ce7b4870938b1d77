/- The library's stable sort as numbers and rows (ranges and blocks changed over, merging in place); its change-over of ranges and of blocks, walked. -/
import Derived.Test.YtjellgkojmgmjaaHgB
namespace Go.Proofs.Ytjellgkojmgmjaa
open Go.RowKit

/-- Rising weights between two places. -/
def StR (d : Array Pv) (a b : Nat) : Prop := ∀ i j, a ≤ i → i < j → j < b → d[i]!.wt ≤ d[j]!.wt
theorem stR_le {d : Array Pv} {a b : Nat} (h : StR d a b) (i j : Nat) (hi : a ≤ i) (hij : i ≤ j) (hj : j < b) : d[i]!.wt ≤ d[j]!.wt := by
  rcases Nat.lt_or_eq_of_le hij with h1 | rfl
  · exact h i j hi h1 hj
  · exact Int.le_refl _
theorem stR_sorted {d : Array Pv} {a b : Nat} : Sort.SortedIn (ltOf cmpW) a b d ↔ StR d a b := by
  unfold Sort.SortedIn StR
  refine ⟨fun h i j h1 h2 h3 => ?_, fun h i j h1 h2 h3 => ?_⟩
  · have := h i j h1 h2 h3
    rw [ltW] at this
    simpa using this
  · have := h i j h1 h2 h3
    rw [ltW]
    simpa using this
/-- Two ranges of n changed over. -/
def swR (d : Array Pv) (a b : Nat) : Nat → Array Pv
  | 0 => d
  | n + 1 => Sort.swp (swR d a b n) (a + n) (b + n)
theorem swR_size (d : Array Pv) (a b n : Nat) : (swR d a b n).size = d.size := by
  induction n with
  | zero => rfl
  | succ n ih => rw [swR, Sort.size_swp, ih]
theorem swR_get (d : Array Pv) (a b n : Nat) (hab : a + n ≤ b) (hb : b + n ≤ d.size) (t : Nat) : (swR d a b n)[t]! = if a ≤ t ∧ t < a + n then d[t - a + b]! else if b ≤ t ∧ t < b + n then d[t - b + a]! else d[t]! := by
  induction n generalizing t with
  | zero => rw [swR, if_neg (by omega), if_neg (by omega)]
  | succ n ih =>
    have ih' := fun t => ih (by omega) (by omega) t
    have ea : (swR d a b n)[a + n]! = d[a + n]! := by rw [ih', if_neg (by omega), if_neg (by omega)]
    have eb : (swR d a b n)[b + n]! = d[b + n]! := by rw [ih', if_neg (by omega), if_neg (by omega)]
    rw [swR, Sort.swp_get _ (by rw [swR_size]; omega) (by rw [swR_size]; omega), ea, eb, ih']
    by_cases h1 : t = b + n
    · rw [if_pos h1, if_neg (by omega), if_pos (by omega)]; congr 1; omega
    · rw [if_neg h1]
      by_cases h2 : t = a + n
      · rw [if_pos h2, if_pos (by omega)]; congr 1; omega
      · rw [if_neg h2]
        by_cases h3 : a ≤ t ∧ t < a + n
        · rw [if_pos h3, if_pos (by omega)]
        · rw [if_neg h3]
          by_cases h4 : b ≤ t ∧ t < b + n
          · rw [if_pos h4, if_neg (by omega), if_pos (by omega)]
          · rw [if_neg h4, if_neg (by omega), if_neg (by omega)]
theorem swR_perm (d : Array Pv) (lo hi a b n : Nat) (h1 : lo ≤ a) (hab : a + n ≤ b) (h2 : b + n ≤ hi) (hh : hi ≤ d.size) : Sort.PermIn lo hi d (swR d a b n) := by
  induction n with
  | zero => exact Sort.permIn_refl _ _ _
  | succ n ih => exact Sort.permIn_trans _ _ _ _ _ (ih (by omega) (by omega)) (Sort.swp_permIn _ _ _ _ _ (by omega) (by omega) (by omega) (by omega) (by rw [swR_size]; exact hh))
/-- What lies at t when the blocks a..m and m..b are changed over. -/
def rotAt (d : Array Pv) (a m b t : Nat) : Pv := if a ≤ t ∧ t < a + (b - m) then d[t - a + m]! else if a + (b - m) ≤ t ∧ t < b then d[t - (b - m)]! else d[t]!
theorem rotAt_first (d : Array Pv) {a m b t : Nat} (h : a ≤ t ∧ t < a + (b - m)) : rotAt d a m b t = d[t - a + m]! := by unfold rotAt; rw [if_pos h]
theorem rotAt_second (d : Array Pv) {a m b t : Nat} (h : a + (b - m) ≤ t ∧ t < b) : rotAt d a m b t = d[t - (b - m)]! := by unfold rotAt; rw [if_neg (by omega), if_pos h]
theorem rotAt_else (d : Array Pv) {a m b t : Nat} (h : t < a ∨ b ≤ t) (hm : a ≤ m) (hb : m ≤ b) : rotAt d a m b t = d[t]! := by unfold rotAt; rw [if_neg (by omega), if_neg (by omega)]
theorem rotAt_none (d : Array Pv) {a m b : Nat} (h : a = m ∨ m = b) (hm : a ≤ m) (hb : m ≤ b) (t : Nat) : rotAt d a m b t = d[t]! := by
  by_cases h1 : a ≤ t ∧ t < a + (b - m)
  · rw [rotAt_first d h1]; congr 1; omega
  · by_cases h2 : a + (b - m) ≤ t ∧ t < b
    · rw [rotAt_second d h2]; congr 1; omega
    · rw [rotAt_else d (by omega) hm hb]
theorem rot_last (d : Array Pv) (m i : Nat) (hi : i ≤ m) (hz : m + i ≤ d.size) (t : Nat) : (swR d (m - i) m i)[t]! = rotAt d (m - i) m (m + i) t := by
  rw [swR_get d _ _ _ (by omega) hz]
  by_cases h1 : m - i ≤ t ∧ t < m - i + i
  · rw [if_pos h1, rotAt_first d (by omega)]
  · rw [if_neg h1]
    by_cases h2 : m ≤ t ∧ t < m + i
    · rw [if_pos h2, rotAt_second d (by omega)]; congr 1; omega
    · rw [if_neg h2, rotAt_else d (by omega) (by omega) (by omega)]
theorem rot_left (d : Array Pv) (m i j : Nat) (hi : i ≤ m) (hij : j < i) (hz : m + j ≤ d.size) (t : Nat) : rotAt (swR d (m - i) m j) (m - (i - j)) m (m + j) t = rotAt d (m - i) m (m + j) t := by
  have G := swR_get d (m - i) m j (by omega) hz
  by_cases h1 : m - (i - j) ≤ t ∧ t < m - (i - j) + (m + j - m)
  · rw [rotAt_first _ h1, G, if_neg (by omega), if_pos (by omega)]
    by_cases h2 : t < m - i + j
    · omega
    · rw [rotAt_second d (by omega)]; congr 1; omega
  · by_cases h2 : m - (i - j) + (m + j - m) ≤ t ∧ t < m + j
    · rw [rotAt_second _ h2, rotAt_second d (by omega), G, if_neg (by omega), if_neg (by omega)]
    · rw [rotAt_else _ (by omega) (by omega) (by omega), G]
      by_cases h3 : m - i ≤ t ∧ t < m - i + j
      · rw [if_pos h3, rotAt_first d (by omega)]
      · rw [if_neg h3, if_neg (by omega), rotAt_else d (by omega) (by omega) (by omega)]
theorem rot_right (d : Array Pv) (m i j : Nat) (hi : i ≤ m) (hij : i < j) (hz : m + j ≤ d.size) (t : Nat) : rotAt (swR d (m - i) (m + j - i) i) (m - i) m (m + (j - i)) t = rotAt d (m - i) m (m + j) t := by
  have G := swR_get d (m - i) (m + j - i) i (by omega) (by omega)
  by_cases h1 : m - i ≤ t ∧ t < m - i + (m + (j - i) - m)
  · rw [rotAt_first _ h1, rotAt_first d (by omega), G, if_neg (by omega), if_neg (by omega)]
  · by_cases h2 : m - i + (m + (j - i) - m) ≤ t ∧ t < m + (j - i)
    · rw [rotAt_second _ h2, G, if_pos (by omega), rotAt_first d (by omega)]; congr 1; omega
    · rw [rotAt_else _ (by omega) (by omega) (by omega), G, if_neg (by omega)]
      by_cases h3 : m + j - i ≤ t ∧ t < m + j - i + i
      · rw [if_pos h3, rotAt_second d (by omega)]; congr 1; omega
      · rw [if_neg h3, rotAt_else d (by omega) (by omega) (by omega)]
/-- One step of carrying an element to the right. -/
theorem rot_up (d : Array Pv) (a k : Nat) (hk : a ≤ k) (e : Array Pv) (he : ∀ t, e[t]! = rotAt d a (a + 1) (k + 1) t) (hs : e.size = d.size) (hz : k + 1 < d.size) (t : Nat) : (Sort.swp e k (k + 1))[t]! = rotAt d a (a + 1) (k + 1 + 1) t := by
  rw [Sort.swp_get _ (by omega) (by omega), he, he, he]
  by_cases h1 : t = k + 1
  · rw [if_pos h1, rotAt_second d (by omega), rotAt_second d (by omega)]; congr 1; omega
  · rw [if_neg h1]
    by_cases h2 : t = k
    · rw [if_pos h2, rotAt_else d (by omega) (by omega) (by omega), rotAt_first d (by omega)]; congr 1; omega
    · rw [if_neg h2]
      by_cases h3 : a ≤ t ∧ t < k
      · rw [rotAt_first d (by omega), rotAt_first d (by omega)]
      · rw [rotAt_else d (by omega) (by omega) (by omega), rotAt_else d (by omega) (by omega) (by omega)]
/-- One step of carrying an element to the left. -/
theorem rot_down (d : Array Pv) (m k : Nat) (hk : k < m) (e : Array Pv) (he : ∀ t, e[t]! = rotAt d (k + 1) m (m + 1) t) (hs : e.size = d.size) (hz : m < d.size) (t : Nat) : (Sort.swp e (k + 1) k)[t]! = rotAt d k m (m + 1) t := by
  rw [Sort.swp_get _ (by omega) (by omega), he, he, he]
  by_cases h1 : t = k
  · rw [if_pos h1, rotAt_first d (by omega), rotAt_first d (by omega)]; congr 1; omega
  · rw [if_neg h1]
    by_cases h2 : t = k + 1
    · rw [if_pos h2, rotAt_else d (by omega) (by omega) (by omega), rotAt_second d (by omega)]; congr 1; omega
    · rw [if_neg h2]
      by_cases h3 : k + 1 ≤ t ∧ t < m + 1
      · rw [rotAt_second d (by omega), rotAt_second d (by omega)]
      · rw [rotAt_else d (by omega) (by omega) (by omega), rotAt_else d (by omega) (by omega) (by omega)]
/-- One element, put where it belongs among those behind it. -/
theorem ins_left (d e : Array Pv) (a b i : Nat) (hi : a + 1 ≤ i) (hib : i ≤ b) (hR : StR d (a + 1) b) (hlo : ∀ t, a + 1 ≤ t → t < i → d[t]!.wt ≤ d[a]!.wt) (hhi : ∀ t, i ≤ t → t < b → d[a]!.wt ≤ d[t]!.wt) (he : ∀ t, e[t]! = rotAt d a (a + 1) i t) : StR e a b := by
  intro x y hx hxy hy
  rw [he, he]
  by_cases h1 : y < i - 1
  · rw [rotAt_first d (by omega), rotAt_first d (by omega)]; exact hR _ _ (by omega) (by omega) (by omega)
  · by_cases h2 : y = i - 1
    · rw [rotAt_first d (by omega), rotAt_second d (by omega), show y - (i - (a + 1)) = a by omega]; exact hlo _ (by omega) (by omega)
    · rw [rotAt_else d (t := y) (by omega) (by omega) (by omega)]
      by_cases h3 : x < i - 1
      · rw [rotAt_first d (by omega)]; exact hR _ _ (by omega) (by omega) hy
      · by_cases h4 : x = i - 1
        · rw [rotAt_second d (by omega), show x - (i - (a + 1)) = a by omega]; exact hhi _ (by omega) hy
        · rw [rotAt_else d (by omega) (by omega) (by omega)]; exact hR _ _ (by omega) hxy hy
/-- The same from behind. -/
theorem ins_right (d e : Array Pv) (a m i : Nat) (hi : a ≤ i) (him : i ≤ m) (hR : StR d a m) (hlo : ∀ t, a ≤ t → t < i → d[t]!.wt ≤ d[m]!.wt) (hhi : ∀ t, i ≤ t → t < m → d[m]!.wt ≤ d[t]!.wt) (he : ∀ t, e[t]! = rotAt d i m (m + 1) t) : StR e a (m + 1) := by
  intro x y hx hxy hy
  rw [he, he]
  by_cases h1 : x < i
  · rw [rotAt_else d (t := x) (by omega) (by omega) (by omega)]
    by_cases h2 : y < i
    · rw [rotAt_else d (by omega) (by omega) (by omega)]; exact hR _ _ hx hxy (by omega)
    · by_cases h3 : y = i
      · rw [rotAt_first d (by omega), show y - i + m = m by omega]; exact hlo _ hx h1
      · rw [rotAt_second d (by omega)]; exact hR _ _ hx (by omega) (by omega)
  · rw [rotAt_second d (t := y) (by omega)]
    by_cases h3 : x = i
    · rw [rotAt_first d (by omega), show x - i + m = m by omega]; exact hhi _ (by omega) (by omega)
    · rw [rotAt_second d (by omega)]; exact hR _ _ (by omega) (by omega) (by omega)
/-- Where the symmetric search ends: a place between s0 and r0. -/
structure Sym (d : Array Pv) (a m b mid s : Nat) : Prop where
  h1 : a ≤ s
  h2 : s ≤ m
  h3 : s ≤ mid
  h4 : mid + m - s ≤ b
  lo : s = a ∨ mid + m - s = b ∨ d[s - 1]!.wt ≤ d[mid + m - s]!.wt
  hi : s = m ∨ s = mid ∨ d[mid + m - s - 1]!.wt ≤ d[s]!.wt
theorem sym_halves {d e : Array Pv} {a m b mid s : Nat} (h : Sym d a m b mid s) (hm : a < m) (hb : m < b) (hmid : mid < b) (hR1 : StR d a m) (hR2 : StR d m b) (he : ∀ t, e[t]! = rotAt d s m (mid + m - s) t) :
    StR e a s ∧ StR e s mid ∧ StR e mid (mid + m - s) ∧ StR e (mid + m - s) b ∧ ∀ x y, a ≤ x → x < mid → mid ≤ y → y < b → e[x]!.wt ≤ e[y]!.wt := by
  obtain ⟨h1, h2, h3, h4, lo, hi⟩ := h
  have E1 : ∀ t, t < s → e[t]! = d[t]! := fun t ht => by rw [he, rotAt_else d (by omega) (by omega) (by omega)]
  have E2 : ∀ t, s ≤ t → t < mid → e[t]! = d[t - s + m]! := fun t ht ht' => by rw [he, rotAt_first d (by omega)]
  have E3 : ∀ t, mid ≤ t → t < mid + m - s → e[t]! = d[t - (mid - s)]! := fun t ht ht' => by rw [he, rotAt_second d (by omega)]; congr 1; omega
  have E4 : ∀ t, mid + m - s ≤ t → e[t]! = d[t]! := fun t ht => by rw [he, rotAt_else d (by omega) (by omega) (by omega)]
  refine ⟨fun i j g1 g2 g3 => ?_, fun i j g1 g2 g3 => ?_, fun i j g1 g2 g3 => ?_, fun i j g1 g2 g3 => ?_, fun x y g1 g2 g3 g4 => ?_⟩
  · rw [E1 _ (by omega), E1 _ g3]; exact hR1 _ _ g1 g2 (by omega)
  · rw [E2 _ g1 (by omega), E2 _ (by omega) g3]; exact hR2 _ _ (by omega) (by omega) (by omega)
  · rw [E3 _ g1 (by omega), E3 _ (by omega) g3]; exact hR1 _ _ (by omega) (by omega) (by omega)
  · rw [E4 _ g1, E4 _ (by omega)]; exact hR2 _ _ (by omega) g2 g3
  · by_cases hx : x < s
    · rw [E1 _ hx]
      by_cases hy : y < mid + m - s
      · rw [E3 _ g3 hy]; exact stR_le hR1 _ _ g1 (by omega) (by omega)
      · rw [E4 _ (by omega)]
        have l : d[s - 1]!.wt ≤ d[mid + m - s]!.wt := by omega
        have l1 := stR_le hR1 x (s - 1) g1 (by omega) (by omega)
        have l2 := stR_le hR2 (mid + m - s) y (by omega) (by omega) g4
        omega
    · rw [E2 _ (by omega) g2]
      by_cases hy : y < mid + m - s
      · rw [E3 _ g3 hy]
        have l : d[mid + m - s - 1]!.wt ≤ d[s]!.wt := by omega
        have l1 := stR_le hR2 (x - s + m) (mid + m - s - 1) (by omega) (by omega) (by omega)
        have l2 := stR_le hR1 s (y - (mid - s)) (by omega) (by omega) (by omega)
        omega
      · rw [E4 _ (by omega)]; exact stR_le hR2 _ _ (by omega) (by omega) g4
/-- What a merge of the blocks a..m and m..b leaves. -/
def Mrg (d e : Array Pv) (a b : Nat) : Prop := Sort.PermIn a b d e ∧ StR e a b
theorem stR_congr {d e : Array Pv} {a b : Nat} (h : StR d a b) (he : ∀ t, a ≤ t → t < b → e[t]! = d[t]!) : StR e a b := by
  intro i j h1 h2 h3
  rw [he _ h1 (by omega), he _ (by omega) h3]
  exact h i j h1 h2 h3
/-- Both halves put in order, the first holding nothing greater than the second. -/
theorem mrg_halves {d e f : Array Pv} {a mid b : Nat} (h1 : a ≤ mid) (h2 : mid ≤ b) (hz : b ≤ d.size) (hx : ∀ x y, a ≤ x → x < mid → mid ≤ y → y < b → d[x]!.wt ≤ d[y]!.wt) (M1 : Mrg d e a mid) (M2 : Mrg e f mid b) : Mrg d f a b := by
  obtain ⟨p1, r1⟩ := M1
  obtain ⟨p2, r2⟩ := M2
  have hz1 : e.size = d.size := p1.1
  refine ⟨Sort.permIn_trans _ _ _ _ _ (Sort.permIn_mono _ _ _ _ _ _ (Nat.le_refl _) h2 hz p1) (Sort.permIn_mono _ _ _ _ _ _ h1 (Nat.le_refl _) (by omega) p2), ?_⟩
  -- the first half's elements against the second's
  have q1 : ∀ y, mid ≤ y → y < b → ∀ x, a ≤ x → x < mid → e[x]!.wt ≤ d[y]!.wt := fun y hy hy' =>
    Sort.permIn_all d e a mid (fun v => v.wt ≤ d[y]!.wt) (by omega) p1 fun x hx1 hx2 => hx x y hx1 hx2 hy hy'
  have q2 : ∀ x, a ≤ x → x < mid → ∀ y, mid ≤ y → y < b → e[x]!.wt ≤ f[y]!.wt := fun x hx1 hx2 =>
    Sort.permIn_all e f mid b (fun v => e[x]!.wt ≤ v.wt) (by omega) p2 fun y hy1 hy2 => by rw [p1.2.1 y (Or.inr hy1)]; exact q1 y hy1 hy2 x hx1 hx2
  intro i j g1 g2 g3
  by_cases hj : j < mid
  · rw [p2.2.1 i (Or.inl (by omega)), p2.2.1 j (Or.inl hj)]; exact r1 i j g1 g2 hj
  · by_cases hi : i < mid
    · rw [p2.2.1 i (Or.inl hi)]; exact q2 i g1 hi j (by omega) g3
    · exact r2 i j (by omega) g2 g3
/-- Every block of bs from 0 on rises, as far as it lies between lo and hi. -/
def Bk (bs : Nat) (d : Array Pv) (lo hi : Nat) : Prop := ∀ k i j, k * bs ≤ i → i < j → j < k * bs + bs → lo ≤ i → j < hi → d[i]!.wt ≤ d[j]!.wt
theorem bk_block {bs : Nat} {d : Array Pv} {lo hi : Nat} (h : Bk bs d lo hi) (k : Nat) : StR d (max lo (k * bs)) (min hi (k * bs + bs)) := fun i j h1 h2 h3 => h k i j (by omega) h2 (by omega) (by omega) (by omega)
theorem bk_more {bs : Nat} {d : Array Pv} (A hi : Nat) (hd : Bk bs d 0 (A * bs)) (hR : StR d (A * bs) hi) : Bk bs d 0 hi := by
  intro k i j h1 h2 h3 h4 h5
  by_cases hj : j < A * bs
  · exact hd k i j h1 h2 h3 h4 hj
  · have hk : A ≤ k := by
      rcases Nat.lt_or_ge k A with hk | hk
      · exfalso
        have := Nat.mul_le_mul_right bs (show k + 1 ≤ A from hk)
        rw [Nat.add_mul, Nat.one_mul] at this
        omega
      · exact hk
    have := Nat.mul_le_mul_right bs hk
    exact hR i j (by omega) h2 h5
theorem bk_congr {bs : Nat} {d e : Array Pv} {lo hi : Nat} (h : Bk bs d lo hi) (he : ∀ t, lo ≤ t → t < hi → e[t]! = d[t]!) : Bk bs e lo hi := by
  intro k i j h1 h2 h3 h4 h5
  rw [he _ h4 (by omega), he _ (by omega) h5]
  exact h k i j h1 h2 h3 h4 h5
theorem bk_one {bs : Nat} {d : Array Pv} {hi : Nat} (h : Bk bs d 0 hi) (hb : hi ≤ bs) : StR d 0 hi := fun i j _ h2 h3 => h 0 i j (by omega) h2 (by omega) (Nat.zero_le _) h3
theorem bk_nil (bs : Nat) (d : Array Pv) : Bk bs d 0 0 := fun _ _ _ _ _ _ _ h => absurd h (Nat.not_lt_zero _)
theorem pv_cells {W : World} {blk : Nat} {dk : Array Pv} (h : Sort.HoldsK Pv.enc 2 W blk 0 dk) (i : Nat) (hi : i < dk.size) :
    W.cell? ⟨blk, i * 2, none⟩ = some (.int .i64 dk[i]!.wt) ∧ W.frozen? ⟨blk, i * 2, none⟩ = false ∧ W.cell? ⟨blk, i * 2 + 1, none⟩ = some (.slice (some ⟨dk[i]!.b, 0, none⟩) dk[i]!.n dk[i]!.c) ∧ W.frozen? ⟨blk, i * 2 + 1, none⟩ = false := by
  have hz : (Sort.flatK Pv.enc 2 dk).size = dk.size * 2 := by simp
  have h0 := h (i * 2) (by rw [hz]; omega)
  have h1 := h (i * 2 + 1) (by rw [hz]; omega)
  rw [Sort.get_flatK _ _ _ _ (by omega), Nat.zero_add, show i * 2 / 2 = i by omega, show i * 2 % 2 = 0 by omega] at h0
  rw [Sort.get_flatK _ _ _ _ (by omega), Nat.zero_add, show (i * 2 + 1) / 2 = i by omega, show (i * 2 + 1) % 2 = 1 by omega] at h1
  exact ⟨h0.1, h0.2, h1.1, h1.2⟩
set_option maxHeartbeats 4000000 in
theorem swapRange_any (blk cap a b n : Nat) (d0 d : Array Pv) (w0 w : World) (R : RowK Pv.enc 2 w0 blk 0 d0) (hs : d0.size = d.size) (S : SWK Pv.enc 2 w0 blk 0 d w) (ha : a + n ≤ d.size) (hb : b + n ≤ d.size) (hab : a < b) (hsz : d.size ≤ 1000000) :
    Calls Try.prog 57 #[.slice (some ⟨blk, 0, none⟩) d.size cap, .int .i64 a, .int .i64 b, .int .i64 n, .func (.func 48) #[] #[]] w fun e w' =>
      e = .returned (.tuple #[]) ∧ SWK Pv.enc 2 w0 blk 0 (swR d a b n) w' := by
  have mixed : Try.prog.follows .mixedOrders = true := by kernel_rfl
  have S0 : Aside (SWK Pv.enc 2 w0 blk 0 d w) := S
  have HR : Aside (RowK Pv.enc 2 w0 blk 0 d0) := R
  clear S R
  go_enter Try.func57, Try.ntmps57
  go_wp2
  go_loopw [10] (fun i wr => ∃ k : Nat, k ≤ n ∧ i = .int .i64 k ∧ Aside (SWK Pv.enc 2 w0 blk 0 (swR d a b k) wr)) (fun i _ => n - (intOf i).toNat)
  case atStart => exact ⟨0, Nat.zero_le _, rfl, S0⟩
  case round =>
    clear S0
    obtain ⟨k, hk, rfl, SK⟩ := hrel
    by_cases hkn : k < n
    · have hz : (swR d a b k).size = d.size := swR_size d a b k
      have S1 : Aside _ := SK.out.swapped HR.out (a + k) (b + k) (by omega) (by omega)
      have hH := SK.out.holds HR.out.hblk HR.out.hH (by omega)
      obtain ⟨c1, f1, c2, f2⟩ := pv_cells hH (a + k) (by omega)
      obtain ⟨c3, f3, c4, f4⟩ := pv_cells hH (b + k) (by omega)
      unfold Pv.enc at S1
      clear hH SK
      have S2 : Aside (SWK Pv.enc 2 w0 blk 0 (swR d a b (k + 1)) _) := S1
      clear S1
      generalize (swR d a b k)[a + k]! = x at S2 c1 c2
      generalize (swR d a b k)[b + k]! = y at S2 c3 c4
      obtain ⟨xw, xb, xn, xc⟩ := x
      obtain ⟨yw, yb, yn, yc⟩ := y
      have e1 : ((a : Int) + (k : Int)).toNat = a + k := by omega
      have e2 : (0 : Int) ≤ (a : Int) + (k : Int) := by omega
      have e3 : (a : Int) + (k : Int) < (d.size : Int) := by omega
      have e4 : IntKind.i64.wrap ((a : Int) + (k : Int)) = (a : Int) + (k : Int) := by rw [IntKind.wrap_i64]; omega
      have e5 : ((b : Int) + (k : Int)).toNat = b + k := by omega
      have e6 : (0 : Int) ≤ (b : Int) + (k : Int) := by omega
      have e7 : (b : Int) + (k : Int) < (d.size : Int) := by omega
      have e8 : IntKind.i64.wrap ((b : Int) + (k : Int)) = (b : Int) + (k : Int) := by rw [IntKind.wrap_i64]; omega
      have n1 : (b + k) * 2 ≠ (a + k) * 2 := by omega
      have n2 : (b + k) * 2 ≠ (a + k) * 2 + 1 := by omega
      have n3 : (b + k) * 2 + 1 ≠ (a + k) * 2 := by omega
      have n4 : (b + k) * 2 + 1 ≠ (a + k) * 2 + 1 := by omega
      simp only [Nat.zero_add] at S2
      go_wp2
      go_big_region_o
      go_wp2
      go_roundw
      case rel =>
        refine ⟨k + 1, by omega, by go_num, ?_⟩
        exact S2
      case measure => simp [intOf]; omega
    · obtain rfl : k = n := by omega
      go_wp2
      go_end0
      exact ⟨rfl, SK.out⟩
set_option maxHeartbeats 4000000 in
theorem rotate_any (blk cap a m b : Nat) (d0 d : Array Pv) (w0 w : World) (R : RowK Pv.enc 2 w0 blk 0 d0) (hs : d0.size = d.size) (S : SWK Pv.enc 2 w0 blk 0 d w) (ha : a < m) (hb : m < b) (hz : b ≤ d.size) (hsz : d.size ≤ 1000000) :
    Calls Try.prog 56 #[.slice (some ⟨blk, 0, none⟩) d.size cap, .int .i64 a, .int .i64 m, .int .i64 b, .func (.func 48) #[] #[]] w fun e w' =>
      e = .returned (.tuple #[]) ∧ ∃ e', Sort.PermIn a b d e' ∧ (∀ t, e'[t]! = rotAt d a m b t) ∧ SWK Pv.enc 2 w0 blk 0 e' w' := by
  have S0 : Aside (SWK Pv.enc 2 w0 blk 0 d w) := S
  have HR : Aside (RowK Pv.enc 2 w0 blk 0 d0) := R
  clear S R
  have q1 : (m : Int) - (a : Int) = ((m - a : Nat) : Int) := by omega
  have q2 : (b : Int) - (m : Int) = ((b - m : Nat) : Int) := by omega
  go_enter Try.func56, Try.ntmps56
  go_wp2
  go_loopw [10, 11] (fun vi vj wr => ∃ i j : Nat, ∃ dk : Array Pv, vi = .int .i64 i ∧ vj = .int .i64 j ∧ 1 ≤ i ∧ 1 ≤ j ∧ a + i ≤ m ∧ m + j ≤ b ∧ dk.size = d.size ∧ Aside (SWK Pv.enc 2 w0 blk 0 dk wr) ∧ Hid (Sort.PermIn a b d dk) ∧ Hid (∀ t, rotAt dk (m - i) m (m + j) t = rotAt d a m b t)) (fun vi vj _ => (intOf vi).toNat + (intOf vj).toNat)
  case atStart =>
    refine ⟨m - a, b - m, d, ?_, ?_, by omega, by omega, by omega, by omega, rfl, S0, Sort.permIn_refl _ _ _, ?_⟩
    · go_num
    · go_num
    · intro t; rw [show m - (m - a) = a by omega, show m + (b - m) = b by omega]
  case round =>
    clear S0 q1 q2
    obtain ⟨i, j, dk, rfl, rfl, hi, hj, hai, hjb, hds, SK, HP, HT⟩ := hrel
    obtain ⟨x, hx⟩ : ∃ x : Nat, x = m - i := ⟨_, rfl⟩
    have ex : (m : Int) - (i : Int) = (x : Int) := by omega
    have hx1 : x + i = m := by omega
    have HX : Hid (x = m - i) := hx
    clear hx
    by_cases hij : i = j
    · subst hij
      have C := swapRange_any blk cap x m i d0 dk w0 wr HR.out (by omega) SK.out (by omega) (by omega) (by omega) (by omega)
      rw [hds] at C
      go_wp2_with (go_at_call 57; refine C.mono ?_; rintro e w' ⟨rfl, hS⟩)
      go_end0
      refine ⟨rfl, _, ?_, ?_, hS⟩
      · exact Sort.permIn_trans _ _ _ _ _ HP.out (swR_perm dk a b x m i (by omega) (by omega) (by omega) (by omega))
      · intro t; rw [← HT.out t, HX.out]; exact rot_last dk m i (by omega) (by omega) t
    · by_cases hlt : j < i
      · have C := swapRange_any blk cap x m j d0 dk w0 wr HR.out (by omega) SK.out (by omega) (by omega) (by omega) (by omega)
        rw [hds] at C
        have n1 : ¬ (i : Int) = (j : Int) := by omega
        have n2 : (j : Int) < (i : Int) := by omega
        go_wp2_with (go_at_call 57; refine C.mono ?_; rintro e w' ⟨rfl, hS⟩)
        go_roundw
        case rel =>
          refine ⟨i - j, j, swR dk x m j, by go_num, rfl, by omega, hj, by omega, hjb, by rw [swR_size, hds], hS, ?_, ?_⟩
          · exact Sort.permIn_trans _ _ _ _ _ HP.out (swR_perm dk a b x m j (by omega) (by omega) (by omega) (by omega))
          · intro t; rw [← HT.out t, HX.out]; exact rot_left dk m i j (by omega) hlt (by omega) t
        case measure => simp [intOf]; omega
      · obtain ⟨y, hy⟩ : ∃ y : Nat, y = m + j - i := ⟨_, rfl⟩
        have ey : (m : Int) + (j : Int) - (i : Int) = (y : Int) := by omega
        have hy1 : y + i = m + j := by omega
        have HY : Hid (y = m + j - i) := hy
        clear hy
        have C := swapRange_any blk cap x y i d0 dk w0 wr HR.out (by omega) SK.out (by omega) (by omega) (by omega) (by omega)
        rw [hds] at C
        have n1 : ¬ (i : Int) = (j : Int) := by omega
        have n2 : ¬ (j : Int) < (i : Int) := by omega
        go_wp2_with (go_at_call 57; refine C.mono ?_; rintro e w' ⟨rfl, hS⟩)
        go_roundw
        case rel =>
          refine ⟨i, j - i, swR dk x y i, rfl, by go_num, hi, by omega, hai, by omega, by rw [swR_size, hds], hS, ?_, ?_⟩
          · exact Sort.permIn_trans _ _ _ _ _ HP.out (swR_perm dk a b x y i (by omega) (by omega) (by omega) (by omega))
          · intro t; rw [← HT.out t, HX.out, HY.out]; exact rot_right dk m i j (by omega) (by omega) (by omega) t
        case measure => simp [intOf]; omega
end Go.Proofs.Ytjellgkojmgmjaa
