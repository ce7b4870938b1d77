/- Each place stands in just one line, once: no program in it. -/
import Derived.Test.YtjkhldnjciakkaaAmU
namespace Go.Proofs.Ytjkhldnjciakkaa
open Go.RowKit
/-- In which pass a place stands. -/
structure Cls (L : List Stp) (cl : Nat → Nat → Nat) : Prop where
  ok : ∀ p ∈ L, p.ok
  lt : ∀ X Y, cl X Y < L.length
  pl : ∀ X Y : Nat, ∃ a r : Nat, (X : Int) = (stAt L (cl X Y)).x + (a : Int) * (stAt L (cl X Y)).dx ∧ (Y : Int) = (stAt L (cl X Y)).y + (r : Int) * (stAt L (cl X Y)).dy
  one : ∀ (i a r X Y : Nat), i < L.length → (X : Int) = (stAt L i).x + (a : Int) * (stAt L i).dx → (Y : Int) = (stAt L i).y + (r : Int) * (stAt L i).dy → cl X Y = i
def clOne (_ _ : Nat) : Nat := 0
def clGif (_ Y : Nat) : Nat := if Y % 2 = 1 then 3 else if Y % 4 = 2 then 2 else if Y % 8 = 4 then 1 else 0
def clPng (X Y : Nat) : Nat := if Y % 2 = 1 then 6 else if X % 2 = 1 then 5 else if Y % 4 = 2 then 4 else if X % 4 = 2 then 3 else if Y % 8 = 4 then 2 else if X % 8 = 4 then 1 else 0
theorem cls_one : Cls oneL clOne := by
  refine ⟨pngOf_ok false, fun _ _ => Nat.zero_lt_one, fun X Y => ⟨X, Y, by simp [clOne, stAt, oneL], by simp [clOne, stAt, oneL]⟩, fun i a r X Y hi _ _ => ?_⟩
  simp [oneL] at hi
  rw [hi]; rfl
theorem cls_gif : Cls gifL clGif := by
  refine ⟨gifOf_ok true, fun X Y => ?_, fun X Y => ?_, fun i a r X Y hi h1 h2 => ?_⟩
  · unfold clGif; simp only [gifL, List.length_cons, List.length_nil]; split; omega; split; omega; split <;> omega
  · unfold clGif
    split
    · exact ⟨X, Y / 2, by simp [stAt, gifL], by simp [stAt, gifL]; omega⟩
    split
    · exact ⟨X, Y / 4, by simp [stAt, gifL], by simp [stAt, gifL]; omega⟩
    split
    · exact ⟨X, Y / 8, by simp [stAt, gifL], by simp [stAt, gifL]; omega⟩
    · exact ⟨X, Y / 8, by simp [stAt, gifL], by simp [stAt, gifL]; omega⟩
  · simp only [gifL, List.length_cons, List.length_nil] at hi
    match i, hi with
    | 0, _ => simp [stAt, gifL] at h1 h2; unfold clGif; rw [if_neg (by omega), if_neg (by omega), if_neg (by omega)]
    | 1, _ => simp [stAt, gifL] at h1 h2; unfold clGif; rw [if_neg (by omega), if_neg (by omega), if_pos (by omega)]
    | 2, _ => simp [stAt, gifL] at h1 h2; unfold clGif; rw [if_neg (by omega), if_pos (by omega)]
    | 3, _ => simp [stAt, gifL] at h1 h2; unfold clGif; rw [if_pos (by omega)]
theorem cls_png : Cls pngL clPng := by
  refine ⟨pngOf_ok true, fun X Y => ?_, fun X Y => ?_, fun i a r X Y hi h1 h2 => ?_⟩
  · unfold clPng; simp only [pngL, List.length_cons, List.length_nil]; split; omega; split; omega; split; omega; split; omega; split; omega; split <;> omega
  · unfold clPng
    split
    · exact ⟨X, Y / 2, by simp [stAt, pngL], by simp [stAt, pngL]; omega⟩
    split
    · exact ⟨X / 2, Y / 2, by simp [stAt, pngL]; omega, by simp [stAt, pngL]; omega⟩
    split
    · exact ⟨X / 2, Y / 4, by simp [stAt, pngL]; omega, by simp [stAt, pngL]; omega⟩
    split
    · exact ⟨X / 4, Y / 4, by simp [stAt, pngL]; omega, by simp [stAt, pngL]; omega⟩
    split
    · exact ⟨X / 4, Y / 8, by simp [stAt, pngL]; omega, by simp [stAt, pngL]; omega⟩
    split
    · exact ⟨X / 8, Y / 8, by simp [stAt, pngL]; omega, by simp [stAt, pngL]; omega⟩
    · exact ⟨X / 8, Y / 8, by simp [stAt, pngL]; omega, by simp [stAt, pngL]; omega⟩
  · simp only [pngL, List.length_cons, List.length_nil] at hi
    match i, hi with
    | 0, _ => simp [stAt, pngL] at h1 h2; unfold clPng; rw [if_neg (by omega), if_neg (by omega), if_neg (by omega), if_neg (by omega), if_neg (by omega), if_neg (by omega)]
    | 1, _ => simp [stAt, pngL] at h1 h2; unfold clPng; rw [if_neg (by omega), if_neg (by omega), if_neg (by omega), if_neg (by omega), if_neg (by omega), if_pos (by omega)]
    | 2, _ => simp [stAt, pngL] at h1 h2; unfold clPng; rw [if_neg (by omega), if_neg (by omega), if_neg (by omega), if_neg (by omega), if_pos (by omega)]
    | 3, _ => simp [stAt, pngL] at h1 h2; unfold clPng; rw [if_neg (by omega), if_neg (by omega), if_neg (by omega), if_pos (by omega)]
    | 4, _ => simp [stAt, pngL] at h1 h2; unfold clPng; rw [if_neg (by omega), if_neg (by omega), if_pos (by omega)]
    | 5, _ => simp [stAt, pngL] at h1 h2; unfold clPng; rw [if_neg (by omega), if_pos (by omega)]
    | 6, _ => simp [stAt, pngL] at h1 h2; unfold clPng; rw [if_pos (by omega)]
theorem mul_inj {a b : Nat} {d : Int} (hd : 1 ≤ d) (h : (a : Int) * d = (b : Int) * d) : a = b := by
  have := Int.eq_of_mul_eq_mul_right (by omega) h
  omega
/-- A place stands in line k, at a. -/
def InLn (L : List Stp) (W H : Int) (X Y k a : Nat) : Prop := ∃ i r : Nat, i < L.length ∧ r < hNt L W H i ∧ k = bsN (hNt L W H) i + r ∧ (X : Int) = (stAt L i).x + (a : Int) * (stAt L i).dx ∧ (Y : Int) = (stAt L i).y + (r : Int) * (stAt L i).dy
theorem bsN_inj (f : Nat → Nat) {i r j s : Nat} (hr : r < f i) (hs : s < f j) (h : bsN f i + r = bsN f j + s) : i = j ∧ r = s := by
  rcases Nat.lt_trichotomy i j with e | e | e
  · have := bsN_lt f e hr; have := bsN_le f (Nat.le_refl j); omega
  · subst e; exact ⟨rfl, by omega⟩
  · have := bsN_lt f e hs; omega
theorem InLn.det {L : List Stp} {cl : Nat → Nat → Nat} (hc : Cls L cl) {W H : Int} {X Y k a k' a' : Nat} (h : InLn L W H X Y k a) (h' : InLn L W H X Y k' a') : k = k' ∧ a = a' := by
  obtain ⟨i, r, h1, h2, h3, h4, h5⟩ := h
  obtain ⟨j, s, g1, g2, g3, g4, g5⟩ := h'
  have e1 := hc.one i a r X Y h1 h4 h5
  have e2 := hc.one j a' s X Y g1 g4 g5
  obtain rfl : i = j := e1.symm.trans e2
  have hok := stAt_ok hc.ok i
  have er : r = s := mul_inj hok.2.2.2.2.2.2.1 (by omega)
  have ea : a = a' := mul_inj hok.2.2.2.2.1 (by omega)
  exact ⟨by rw [h3, g3, er], ea⟩
theorem InLn.inj {L : List Stp} {W H : Int} {X Y X' Y' k a : Nat} (h : InLn L W H X Y k a) (h' : InLn L W H X' Y' k a) : X = X' ∧ Y = Y' := by
  obtain ⟨i, r, h1, h2, h3, h4, h5⟩ := h
  obtain ⟨j, s, g1, g2, g3, g4, g5⟩ := h'
  obtain ⟨rfl, rfl⟩ := bsN_inj _ h2 g2 (h3.symm.trans g3)
  exact ⟨by omega, by omega⟩
theorem InLn.all {L : List Stp} {cl : Nat → Nat → Nat} (hc : Cls L cl) {W H : Nat} (hW : W ≤ 2048) (hH : H ≤ 2048) {X Y : Nat} (hX : X < W) (hY : Y < H) : ∃ i r a, i < L.length ∧ r < hNt L W H i ∧ InLn L W H X Y (bsN (hNt L W H) i + r) a ∧ a < wNt L W H i := by
  obtain ⟨a, r, h1, h2⟩ := hc.pl X Y
  have hok := stAt_ok hc.ok (cl X Y)
  have hr : r < hNt L W H (cl X Y) := by
    rw [hN_iff hc.ok (by omega) (by omega)]
    refine ⟨by omega, ?_⟩
    have : 0 ≤ (a : Int) * (stAt L (cl X Y)).dx := Int.mul_nonneg (by omega) (by have := hok.2.2.2.2.1; omega)
    omega
  refine ⟨cl X Y, r, a, hc.lt X Y, hr, ⟨cl X Y, r, hc.lt X Y, hr, rfl, h1, h2⟩, ?_⟩
  rw [wNt_eq hr]
  have := (plc_iff (f := (stAt L (cl X Y)).x) (s := (stAt L (cl X Y)).dx) (e := (W : Int)) hok.2.2.2.2.1 a).1 (by omega)
  omega
theorem bsN_split (f : Nat → Nat) : ∀ (n k : Nat), k < bsN f n → ∃ i r, i < n ∧ r < f i ∧ k = bsN f i + r
  | 0, k, h => by simp [bsN] at h
  | n + 1, k, h => by
    by_cases hk : k < bsN f n
    · obtain ⟨i, r, h1, h2, h3⟩ := bsN_split f n k hk
      exact ⟨i, r, by omega, h2, h3⟩
    · exact ⟨n, k - bsN f n, by omega, by rw [bsN] at h; omega, by omega⟩
open Classical in
/-- Which places were told ahead of line k, place a. -/
noncomputable def toldB (L : List Stp) (W H : Nat) (k a p : Nat) : Bool := decide (∃ k' a', InLn L W H (p % W) (p / W) k' a' ∧ (k' < k ∨ (k' = k ∧ a' < a)))
theorem told_iff (L : List Stp) (W H k a p : Nat) : toldB L W H k a p = true ↔ ∃ k' a', InLn L W H (p % W) (p / W) k' a' ∧ (k' < k ∨ (k' = k ∧ a' < a)) := by
  unfold toldB; exact @decide_eq_true_iff _ (Classical.propDecidable _)
theorem told_false {L : List Stp} {W H k a p : Nat} (h : ¬ ∃ k' a', InLn L W H (p % W) (p / W) k' a' ∧ (k' < k ∨ (k' = k ∧ a' < a))) : toldB L W H k a p = false := by
  cases e : toldB L W H k a p with
  | false => rfl
  | true => exact absurd ((told_iff ..).1 e) h
theorem told_eq {L : List Stp} {W H k a p k2 a2 : Nat} (h : (∃ k' a', InLn L W H (p % W) (p / W) k' a' ∧ (k' < k ∨ (k' = k ∧ a' < a))) ↔ ∃ k' a', InLn L W H (p % W) (p / W) k' a' ∧ (k' < k2 ∨ (k' = k2 ∧ a' < a2))) : toldB L W H k a p = toldB L W H k2 a2 p := by
  rw [Bool.eq_iff_iff, told_iff, told_iff]; exact h
noncomputable def seenL (L : List Stp) (W H : Nat) (k a : Nat) : List Bool := (List.range (W * H)).map (toldB L W H k a)
theorem seenL_len (L : List Stp) (W H k a : Nat) : (seenL L W H k a).length = W * H := by simp [seenL]
theorem seenL_at (L : List Stp) (W H k a p : Nat) (h : p < W * H) : (seenL L W H k a)[p]? = some (toldB L W H k a p) := by simp [seenL, h]
def cntB (l : List Bool) : Nat := (l.filter id).length
theorem cntB_set : ∀ (l : List Bool) (p : Nat), l[p]? = some false → cntB (l.set p true) = cntB l + 1
  | [], p, h => by simp at h
  | b :: l, 0, h => by simp at h; subst h; simp [cntB]
  | b :: l, p + 1, h => by
    have := cntB_set l p (by simpa using h)
    unfold cntB at *
    cases b <;> simp_all
theorem cntB_le (l : List Bool) : cntB l ≤ l.length := List.length_filter_le _ _
theorem cntB_all (n : Nat) : cntB (List.replicate n true) = n := by simp [cntB]
theorem pos_split {W X Y : Nat} (hX : X < W) : (Y * W + X) % W = X ∧ (Y * W + X) / W = Y := by
  constructor
  · rw [Nat.add_comm, Nat.add_mul_mod_self_right, Nat.mod_eq_of_lt hX]
  · rw [Nat.add_comm, Nat.add_mul_div_right _ _ (by omega), Nat.div_eq_of_lt hX, Nat.zero_add]
theorem pos_lt {W H X Y : Nat} (hX : X < W) (hY : Y < H) : Y * W + X < W * H := by
  have : (Y + 1) * W ≤ H * W := Nat.mul_le_mul_right W hY
  rw [Nat.mul_comm W H, Nat.add_mul] at *
  omega
theorem told_not {L : List Stp} {cl : Nat → Nat → Nat} (hc : Cls L cl) {W H X Y k a : Nat} (hX : X < W) (h : InLn L W H X Y k a) : toldB L W H k a (Y * W + X) = false := by
  apply told_false
  rintro ⟨k', a', h1, h2⟩
  rw [(pos_split hX).1, (pos_split hX).2] at h1
  have := h.det hc h1
  omega
theorem seen_step {L : List Stp} {W H X Y k a : Nat} (hX : X < W) (h : InLn L W H X Y k a) : (seenL L W H k a).set (Y * W + X) true = seenL L W H k (a + 1) := by
  apply List.ext_getElem?
  intro p
  by_cases hp : p < W * H
  · rw [List.getElem?_set, seenL_at _ _ _ _ _ _ hp, seenL_at _ _ _ _ _ _ hp, seenL_len]
    by_cases e : Y * W + X = p
    · rw [if_pos e, if_pos (by omega)]
      subst e
      congr 1
      symm
      rw [told_iff]
      refine ⟨k, a, ?_, .inr ⟨rfl, by omega⟩⟩
      rw [(pos_split hX).1, (pos_split hX).2]; exact h
    · rw [if_neg e]
      congr 1
      apply told_eq
      constructor
      · rintro ⟨k', a', h1, h2⟩
        exact ⟨k', a', h1, by omega⟩
      · rintro ⟨k', a', h1, h2⟩
        refine ⟨k', a', h1, ?_⟩
        rcases h2 with h2 | ⟨rfl, h2⟩
        · exact .inl h2
        · by_cases ea : a' = a
          · subst ea
            have := h.inj h1
            exfalso
            apply e
            have hd := Nat.div_add_mod p W
            rw [← this.1, ← this.2] at hd
            rw [Nat.mul_comm] at hd; exact hd
          · exact .inr ⟨rfl, by omega⟩
  · rw [List.getElem?_eq_none (by rw [List.length_set, seenL_len]; omega), List.getElem?_eq_none (by rw [seenL_len]; omega)]
theorem seen_next {L : List Stp} {cl : Nat → Nat → Nat} (hc : Cls L cl) {W H i r : Nat} (hW : W ≤ 2048) (hH : H ≤ 2048) (hr : r < hNt L W H i) : seenL L W H (bsN (hNt L W H) i + r) (wNt L W H i) = seenL L W H (bsN (hNt L W H) i + r + 1) 0 := by
  unfold seenL
  apply List.map_congr_left
  intro p hp
  rw [List.mem_range] at hp
  have hW0 : 0 < W := by rcases Nat.eq_zero_or_pos W with e | e; subst e; omega; exact e
  have hX : p % W < W := Nat.mod_lt _ hW0
  have hY : p / W < H := by rw [Nat.div_lt_iff_lt_mul hW0, Nat.mul_comm]; exact hp
  apply told_eq
  constructor
  · rintro ⟨k', a', h1, h2⟩
    exact ⟨k', a', h1, by omega⟩
  · rintro ⟨k', a', h1, h2⟩
    refine ⟨k', a', h1, ?_⟩
    rcases h2 with h2 | ⟨_, h2⟩
    · by_cases e : k' = bsN (hNt L W H) i + r
      · right
        refine ⟨e, ?_⟩
        obtain ⟨j, s, a, g1, g2, g3, g4⟩ := InLn.all hc hW hH hX hY
        have hd := h1.det hc g3
        obtain ⟨rfl, -⟩ := bsN_inj _ hr g2 (e.symm.trans hd.1)
        omega
      · left; omega
    · omega
theorem seen_none {L : List Stp} (W H : Nat) : cntB (seenL L W H 0 0) = 0 ∧ seenL L W H 0 0 = List.replicate (W * H) false := by
  have e : seenL L W H 0 0 = List.replicate (seenL L W H 0 0).length false := by
    apply List.eq_replicate_of_mem
    intro b hb
    obtain ⟨p, _, rfl⟩ := List.mem_map.1 hb
    apply told_false
    rintro ⟨k', a', h1, h2⟩
    omega
  rw [seenL_len] at e
  exact ⟨by rw [e]; simp [cntB], e⟩
theorem seen_all {L : List Stp} {cl : Nat → Nat → Nat} (hc : Cls L cl) {W H : Nat} (hW : W ≤ 2048) (hH : H ≤ 2048) : cntB (seenL L W H (bsN (hNt L W H) L.length) 0) = W * H := by
  have e : seenL L W H (bsN (hNt L W H) L.length) 0 = List.replicate (seenL L W H (bsN (hNt L W H) L.length) 0).length true := by
    apply List.eq_replicate_of_mem
    intro b hb
    obtain ⟨p, hp, rfl⟩ := List.mem_map.1 hb
    rw [List.mem_range] at hp
    have hW0 : 0 < W := by rcases Nat.eq_zero_or_pos W with e | e; subst e; omega; exact e
    have hX : p % W < W := Nat.mod_lt _ hW0
    have hY : p / W < H := by rw [Nat.div_lt_iff_lt_mul hW0, Nat.mul_comm]; exact hp
    obtain ⟨j, s, a, g1, g2, g3, g4⟩ := InLn.all hc hW hH hX hY
    rw [told_iff]
    exact ⟨_, _, g3, .inl (bsN_lt _ g1 g2)⟩
  rw [seenL_len] at e
  rw [e, cntB_all]
end Go.Proofs.Ytjkhldnjciakkaa
