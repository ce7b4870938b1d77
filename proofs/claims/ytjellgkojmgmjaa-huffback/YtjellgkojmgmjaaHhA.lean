/- The rows of parcels, level by level: their lengths, weights and symbols; how often a symbol stands in a row. -/
import Derived.Test.YtjellgkojmgmjaaHgG
namespace Go.Proofs.Ytjellgkojmgmjaa
open Go.RowKit

def rowN (ps : List Pc) : Nat → List Pc
  | 0 => ps
  | k + 1 => mrg Prod.fst ps (prs (rowN ps k))
theorem mem_mrg {α : Type} (f : α → Int) {l m : List α} {x : α} (h : x ∈ mrg f l m) : x ∈ l ∨ x ∈ m := by
  induction l generalizing m with
  | nil => exact .inr h
  | cons s ss ih =>
    rw [mrg] at h
    rcases List.mem_append.1 h with h | h
    · exact .inr (List.takeWhile_sublist _ |>.subset h)
    · rcases List.mem_cons.1 h with h | h
      · exact .inl (by rw [h]; simp)
      · rcases ih h with h | h
        · exact .inl (by simp [h])
        · exact .inr (List.dropWhile_sublist _ |>.subset h)
theorem mem_prs : ∀ {l : List Pc} {x : Pc}, x ∈ prs l → ∃ a ∈ l, ∃ b ∈ l, x = (a.1 + b.1, a.2 ++ b.2)
  | [], x, h => by simp [prs] at h
  | [a], x, h => by simp [prs] at h
  | a :: b :: r, x, h => by
    rw [prs] at h
    rcases List.mem_cons.1 h with h | h
    · exact ⟨a, by simp, b, by simp, h⟩
    · obtain ⟨c, hc, d, hd, e⟩ := mem_prs h
      exact ⟨c, by simp [hc], d, by simp [hd], e⟩
/-- Weights and symbols within bounds. -/
def Bd (len k : Nat) (ps : List Pc) : Prop := ∀ p ∈ ps, 0 < p.1 ∧ p.1 ≤ 2147483648 * 2 ^ k ∧ p.2.length ≤ 2 ^ k ∧ ∀ s ∈ p.2, 0 ≤ s ∧ s < (len : Int)
theorem Bd.mono {len k : Nat} {ps : List Pc} (h : Bd len k ps) : Bd len (k + 1) ps := fun p hp => by
  obtain ⟨h1, h2, h3, h4⟩ := h p hp
  have e : (2 : Int) ^ (k + 1) = 2 ^ k * 2 := Int.pow_succ 2 k
  have e2 : (2 : Nat) ^ (k + 1) = 2 ^ k * 2 := Nat.pow_succ _ _
  refine ⟨h1, by omega, by omega, h4⟩
theorem Bd.zero {len k : Nat} {ps : List Pc} (h : Bd len 0 ps) : Bd len k ps := by
  induction k with
  | zero => exact h
  | succ k ih => exact ih.mono
theorem Bd.prs {len k : Nat} {ps : List Pc} (h : Bd len k ps) : Bd len (k + 1) (prs ps) := fun p hp => by
  obtain ⟨a, ha, b, hb, rfl⟩ := mem_prs hp
  obtain ⟨h1, h2, h3, h4⟩ := h a ha
  obtain ⟨k1, k2, k3, k4⟩ := h b hb
  have e : (2 : Int) ^ (k + 1) = 2 ^ k * 2 := Int.pow_succ 2 k
  have e2 : (2 : Nat) ^ (k + 1) = 2 ^ k * 2 := Nat.pow_succ _ _
  refine ⟨by simp only; omega, by simp only; omega, by rw [List.length_append]; omega, fun s hs => ?_⟩
  rcases List.mem_append.1 hs with hs | hs
  · exact h4 s hs
  · exact k4 s hs
theorem Bd.row {len : Nat} {ps : List Pc} (h : Bd len 0 ps) (k : Nat) : Bd len k (rowN ps k) := by
  induction k with
  | zero => exact h
  | succ k ih =>
    intro p hp
    rcases mem_mrg _ hp with hp | hp
    · exact (Bd.zero h : Bd len (k + 1) ps) p hp
    · exact ih.prs p hp
theorem rowN_len (ps : List Pc) (h : 1 ≤ ps.length) (k : Nat) : (rowN ps k).length + (ps.length - 1) / 2 ^ k = 2 * ps.length - 1 := by
  induction k with
  | zero => simp [rowN]; omega
  | succ k ih =>
    rw [rowN, mrg_len, prs_len, Nat.pow_succ, ← Nat.div_div_eq_div_mul]
    omega
theorem rowN_ge (ps : List Pc) (most : Nat) (h1 : 1 ≤ most) (h : ps.length ≤ 2 ^ most) : 2 * ps.length - 2 ≤ (rowN ps (most - 1)).length := by
  by_cases h0 : ps.length = 0
  · omega
  have := rowN_len ps (by omega) (most - 1)
  have h2 : (ps.length - 1) / 2 ^ (most - 1) < 2 := by
    rw [Nat.div_lt_iff_lt_mul (Nat.two_pow_pos _), ← Nat.pow_succ', Nat.succ_eq_add_one, Nat.sub_add_cancel h1]
    omega
  omega
theorem rowN_le (ps : List Pc) (k : Nat) : (rowN ps k).length ≤ 2 * ps.length := by
  induction k with
  | zero => simp [rowN]; omega
  | succ k ih => rw [rowN, mrg_len, prs_len]; omega
/-- How often each symbol stands in T. -/
def cnt (len : Nat) (T : List Int) : List Int := (List.range len).map fun (i : Nat) => ((T.count (i : Int) : Nat) : Int)
theorem cnt_len (len : Nat) (T : List Int) : (cnt len T).length = len := by simp [cnt]
theorem cnt_nil (len : Nat) : cnt len [] = List.replicate len 0 := by
  apply List.ext_getElem?
  intro i
  unfold cnt
  by_cases h : i < len
  · simp [h]
  · simp [h]
theorem cnt_at (len : Nat) (T : List Int) (i : Nat) (h : i < len) : (cnt len T)[i]?.getD 0 = ((T.count (i : Int) : Nat) : Int) := by simp [cnt, h]
theorem cnt_set (len : Nat) (T : List Int) (s : Nat) (h : s < len) : (cnt len T).set s ((T.count (s : Int) : Nat) + 1 : Int) = cnt len (T ++ [(s : Int)]) := by
  apply List.ext_getElem?
  intro i
  by_cases hi : i < len
  · by_cases e : i = s
    · subst e
      rw [List.getElem?_set_self (by rw [cnt_len]; exact h)]
      unfold cnt
      rw [List.getElem?_map, List.getElem?_range hi]
      simp [List.count_append]
    · rw [List.getElem?_set_ne (fun h => e h.symm)]
      unfold cnt
      rw [List.getElem?_map, List.getElem?_map, List.getElem?_range hi]
      have : ¬ (s : Int) = (i : Int) := by omega
      simp [List.count_append, List.count_cons, this]
  · rw [List.getElem?_eq_none (by rw [List.length_set, cnt_len]; omega), List.getElem?_eq_none (by rw [cnt_len]; omega)]

/-- Numbers of the call's own, in block g. -/
def LRow (w : World) (g : Nat) (ls : List Int) : Prop := w.heap[g]? = some (.cells (ivals ls).toArray 3 (0, 0))
theorem LRow.cell {w : World} {g : Nat} {ls : List Int} (h : LRow w g ls) (i : Nat) (hi : i < ls.length) : w.cell? ⟨g, i, none⟩ = some (.int .i64 (ls[i]?.getD 0)) ∧ w.frozen? ⟨g, i, none⟩ = false := by
  unfold LRow at h
  constructor
  · simp [World.cell?, h, ivals, hi]
  · simp [World.frozen?, h]
theorem LRow.set {w : World} {g : Nat} {ls : List Int} (h : LRow w g ls) (i : Nat) (v : Int) : LRow (w.setCell ⟨g, i, none⟩ (.int .i64 v)) g (ls.set i v) := by
  have := heap_setCell_same w g i _ 3 (.int .i64 v) h
  unfold LRow
  rw [this]
  simp [ivals]
theorem LRow.same {w w' : World} {g : Nat} {ls : List Int} (h : LRow w g ls) (hs : w'.heap[g]? = w.heap[g]?) : LRow w' g ls := hs.trans h
theorem LRow.made {w : World} {base B len n : Nat} (h : w.ownsRow base 3 1 (.slice (some ⟨B, 0, none⟩) len len) n (madeCells (Value.int .i64 0).cells (len * 1)).toList) : LRow w B (List.replicate len 0) := by
  obtain ⟨hl, h⟩ := h
  rw [Array.length_toList, size_madeCells] at hl
  obtain rfl : len = n := by omega
  rcases h with ⟨h, _⟩ | ⟨g, cap, cur, h, _, hh, h1, h2, h3, h4⟩
  · cases h
  · simp only [Value.slice.injEq, Option.some.injEq, Addr.mk.injEq] at h
    obtain ⟨⟨rfl, _, _⟩, _, rfl⟩ := h
    rw [List.take_of_length_le (by rw [Array.length_toList, h3]; exact Nat.le_refl _)] at h4
    have h5 : cur = madeCells (Value.int .i64 0).cells (len * 1) := Array.toList_inj.1 h4
    unfold LRow
    rw [hh, h5]
    congr 2
    apply Array.ext_getElem?
    intro i
    unfold madeCells ivals
    have e1 : (Value.int .i64 0).cells = #[Value.int .i64 0] := rfl
    by_cases hi : i < len
    · simp [hi, e1, Nat.mod_one]
    · simp [hi]
theorem LRow.irow {w : World} {g : Nat} {ls : List Int} (h : LRow w g ls) : IRow w (some ⟨g, 0, none⟩) ls := by
  refine .inr ⟨g, 0, rfl, fun i hi => ?_⟩
  rw [Nat.zero_add]
  exact (h.cell i hi).1
theorem PRow.lower {w : World} {base base' : Nat} {v : Value} {xs : List Pv} (h : PRow w base v xs) (hb : base' ≤ base) : PRow w base' v xs := by
  obtain ⟨h1, h⟩ := h
  refine ⟨h1, ?_⟩
  rcases h with h | ⟨g, cap, cur, h, hb', r⟩
  · exact .inl h
  · exact .inr ⟨g, cap, cur, h, Nat.le_trans hb hb', r⟩
end Go.Proofs.Ytjellgkojmgmjaa
