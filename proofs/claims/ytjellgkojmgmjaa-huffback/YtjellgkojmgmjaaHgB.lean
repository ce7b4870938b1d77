/- Rows of parcels in memory; what the library's stable sort leaves of a short row. -/
import Derived.Test.YtjellgkojmgmjaaHgA
namespace Go.Proofs.Ytjellgkojmgmjaa
open Go.RowKit

def flat (xs : List Pv) : List Value := xs.flatMap Pv.enc
theorem flat_nil : flat [] = [] := rfl
theorem flat_cons (x : Pv) (r : List Pv) : flat (x :: r) = x.enc ++ flat r := by simp [flat]
theorem flat_append (l m : List Pv) : flat (l ++ m) = flat l ++ flat m := by simp [flat]
theorem flat_len (xs : List Pv) : (flat xs).length = xs.length * 2 := by
  induction xs with
  | nil => rfl
  | cons x r ih => rw [flat_cons, List.length_append, ih, enc_len, List.length_cons]; omega
theorem flat_at (xs : List Pv) (i : Nat) (hi : i < xs.length) : (flat xs)[i * 2]? = some (.int .i64 (xs[i]?.getD default).wt) ∧ (flat xs)[i * 2 + 1]? = some (.slice (some ⟨(xs[i]?.getD default).b, 0, none⟩) (xs[i]?.getD default).n (xs[i]?.getD default).c) := by
  induction xs generalizing i with
  | nil => simp at hi
  | cons x r ih =>
    rw [flat_cons]
    cases i with
    | zero => exact ⟨rfl, rfl⟩
    | succ i =>
      have hi' : i < r.length := by simpa using hi
      rw [List.getElem?_append_right (by rw [enc_len]; omega), List.getElem?_append_right (by rw [enc_len]; omega), enc_len, show (i + 1) * 2 - 2 = i * 2 by omega, show (i + 1) * 2 + 1 - 2 = i * 2 + 1 by omega, List.getElem?_cons_succ]
      exact ih i hi'
theorem flat_one (xs : List Pv) : ∀ u ∈ flat xs, u.oneCell' = true := by
  intro u hu
  simp only [flat, List.mem_flatMap] at hu
  obtain ⟨x, _, hu⟩ := hu
  exact enc_one x u hu
theorem flatK_flat (xs : List Pv) : (Sort.flatK Pv.enc 2 xs.toArray).toList = flat xs := by
  apply List.ext_getElem?
  intro t
  by_cases ht : t < xs.length * 2
  · have h1 : (Sort.flatK Pv.enc 2 xs.toArray)[t]! = (Pv.enc xs.toArray[t / 2]!)[t % 2]! := Sort.get_flatK _ _ _ _ (by simpa using ht)
    have hi : t / 2 < xs.length := by omega
    obtain ⟨q0, q1⟩ := flat_at xs (t / 2) hi
    have hsz : t < (Sort.flatK Pv.enc 2 xs.toArray).size := by simpa using ht
    rw [Array.getElem?_toList, Array.getElem?_eq_getElem hsz]
    rw [getElem!_pos (Sort.flatK Pv.enc 2 xs.toArray) t hsz] at h1
    rw [h1]
    have e : xs.toArray[t / 2]! = xs[t / 2]?.getD default := by
      rw [getElem!_pos xs.toArray (t / 2) (by simpa using hi), List.getElem_toArray, List.getElem?_eq_getElem hi]; rfl
    rw [e]
    rcases Nat.mod_two_eq_zero_or_one t with h2 | h2
    · rw [h2, show t = t / 2 * 2 by omega, q0, show t / 2 * 2 / 2 = t / 2 by omega]; rfl
    · rw [h2]
      conv => rhs; rw [show t = t / 2 * 2 + 1 by omega, q1]
      rfl
  · rw [List.getElem?_eq_none (by simpa using (by omega : xs.length * 2 ≤ t)), List.getElem?_eq_none (by rw [flat_len]; omega)]
theorem flatK_eq (xs : List Pv) : Sort.flatK Pv.enc 2 xs.toArray = (flat xs).toArray := by
  rw [← flatK_flat]
/-- v is a slice of parcels in the call's own memory, from block base on. -/
def PRow (w : World) (base : Nat) (v : Value) (xs : List Pv) : Prop := w.ownsRow base 86 2 v xs.length (flat xs)
theorem holds_block {w : World} {g : Nat} {cur : Array Value} {e : TypeId} {l : List Value} (hb : w.heap[g]? = some (.cells cur e (0, 0))) (ht : cur.toList.take l.length = l) : Sort.Holds id w g 0 l.toArray := by
  intro j hj
  have hj' : j < l.length := by simpa using hj
  refine ⟨?_, by simp [World.frozen?, hb]⟩
  have h1 : (cur.toList.take l.length)[j]? = l[j]? := by rw [ht]
  rw [List.getElem?_take_of_lt hj'] at h1
  simp only [World.cell?, hb]
  have h2 : cur[j]? = some l[j] := by rw [← List.getElem?_eq_getElem hj', ← h1]; simp
  rw [getElem!_pos l.toArray j hj]
  simpa using h2
theorem PRow.cases {w : World} {base : Nat} {v : Value} {xs : List Pv} (h : PRow w base v xs) : (v = .slice none 0 0 ∧ xs = []) ∨ ∃ g cap, v = .slice (some ⟨g, 0, none⟩) xs.length cap ∧ base ≤ g ∧ g < w.heap.size ∧ xs.length ≤ cap ∧ cap ≤ maxLen ∧ Sort.HoldsK Pv.enc 2 w g 0 xs.toArray := by
  rcases h.2 with ⟨h, h0⟩ | ⟨g, cap, cur, h, hb, hh, h1, h2, h3, h4⟩
  · exact .inl ⟨h, List.length_eq_zero_iff.1 h0⟩
  · refine .inr ⟨g, cap, h, hb, lt_of_block hh, h1, h2, ?_⟩
    unfold Sort.HoldsK
    rw [flatK_eq]
    exact holds_block hh (by rw [flat_len]; exact h4)
theorem putCells_take (cur : Array Value) (l : List Value) (h : l.length ≤ cur.size) : (Sort.putCells id 0 l.toArray cur).toList.take l.length = l := by
  apply List.ext_getElem?
  intro j
  by_cases hj : j < l.length
  · rw [List.getElem?_take_of_lt hj, Array.getElem?_toList]
    unfold Sort.putCells
    rw [Array.getElem?_mapIdx, Array.getElem?_eq_getElem (by omega)]
    simp only [Option.map_some, Nat.zero_add, Nat.zero_le, true_and, List.size_toArray, hj, if_true, Nat.sub_zero, id]
    rw [List.getElem?_eq_getElem hj, getElem!_pos l.toArray j (by simpa using hj)]
    simp
  · rw [List.getElem?_eq_none (by simp; omega), List.getElem?_eq_none (by omega)]
theorem swk_heap {w w' : World} {g : Nat} {d : Array Pv} (h : SWK Pv.enc 2 w g 0 d w') : w.grownBy w' (some g) ∧ ∀ cur e fr, w.heap[g]? = some (.cells cur e fr) → w'.heap[g]? = some (.cells (Sort.putCells id 0 (Sort.flatK Pv.enc 2 d) cur) e fr) := by
  obtain ⟨n, os, rfl⟩ := h
  unfold sortWorldK Sort.putRowK Sort.putRow Sort.mapBlock
  refine ⟨⟨rfl, rfl, rfl, by simp [Sort.ahead], fun k hk hne => ?_⟩, fun cur e fr hh => ?_⟩
  · rw [Sort.heap_grow_old _ _ (by simpa [Sort.ahead] using hk)]
    have : g ≠ k := fun e => hne (by rw [e])
    simp [Array.getElem?_modify, this, Sort.ahead]
  · have hk := lt_of_block hh
    rw [Sort.heap_grow_old _ _ (by simpa [Sort.ahead] using hk)]
    simp [Array.getElem?_modify, Sort.ahead, hh, Sort.onCells]
theorem PRow.sorted {w w' : World} {base g n cap : Nat} {xs ys : List Pv} (h : PRow w base (.slice (some ⟨g, 0, none⟩) n cap) xs) (hw : SWK Pv.enc 2 w g 0 ys.toArray w') (hl : ys.length = xs.length) : PRow w' base (.slice (some ⟨g, 0, none⟩) n cap) ys := by
  rcases h.2 with ⟨h, _⟩ | ⟨g', cap', cur, h, hb, hh, h1, h2, h3, h4⟩
  · cases h
  · simp only [Value.slice.injEq, Option.some.injEq, Addr.mk.injEq] at h
    obtain ⟨⟨rfl, _, _⟩, rfl, rfl⟩ := h
    refine ⟨flat_len ys, .inr ⟨g, cap, _, by rw [hl], hb, (swk_heap hw).2 _ _ _ hh, by rw [hl]; exact h1, h2, by simp [Sort.putCells, h3], ?_⟩⟩
    rw [flatK_eq]
    have := putCells_take cur (flat ys) (by rw [flat_len, hl, h3]; omega)
    rw [flat_len] at this
    exact this

theorem swoW : Sort.SWO (ltOf cmpW) := by
  have e : ∀ x y : Pv, ltOf cmpW x y = decide (x.wt < y.wt) := fun x y => by
    unfold ltOf cmpW
    by_cases h1 : x.wt < y.wt
    · simp [h1]
    · by_cases h2 : y.wt < x.wt <;> simp [h1, h2]
  refine ⟨fun x => ?_, fun x y z => ?_, fun x y z => ?_⟩
  · rw [e]; simp
  · rw [e, e, e]; simp only [decide_eq_true_eq]; omega
  · rw [e, e, e]; simp only [decide_eq_false_iff_not]; omega
theorem ltW (x y : Pv) : ltOf cmpW x y = decide (x.wt < y.wt) := by
  unfold ltOf cmpW
  by_cases h1 : x.wt < y.wt
  · simp [h1]
  · by_cases h2 : y.wt < x.wt <;> simp [h1, h2]
/-- Rising weights. -/
def Rising (xs : List Pv) : Prop := xs.Pairwise fun a b => a.wt ≤ b.wt
theorem rising_of {xs : List Pv} (h : Sort.SortedIn (ltOf cmpW) 0 xs.length xs.toArray) : Rising xs := by
  unfold Rising
  rw [List.pairwise_iff_getElem]
  intro i j hi hj hij
  have := h i j (Nat.zero_le _) hij hj
  rw [ltW, getElem!_pos xs.toArray j (by simpa using hj), getElem!_pos xs.toArray i (by simpa using hi)] at this
  simpa using this
def SortPost (w : World) (base : Nat) (v : Value) (xs : List Pv) (e : Ending) (w' : World) : Prop :=
  e = .returned (.tuple #[]) ∧ ∃ ys, ys.Perm xs ∧ Rising ys ∧ PRow w' base v ys ∧ w.grownBy w' v.ownBlock
/-- The library's stable sort, of whatever row. -/
def Sorts (w : World) (base : Nat) (v : Value) (xs : List Pv) : Prop :=
  PRow w base v xs → Calls Try.prog 47 #[v, .func (.func 48) #[] #[]] w fun e w' => SortPost w base v xs e w'
theorem insertion_nil (w : World) : Calls Try.prog 54 #[.slice none 0 0, .int .i64 0, .int .i64 0, .func (.func 48) #[] #[]] w fun e w' => e = .returned (.tuple #[]) ∧ w' = w := by
  go_enter Try.func54, Try.ntmps54
  go_wp2
  refine wp_loop_rounds 1 ?_
  rw [rounds_succ]
  go_wp2
  go_end0
  exact ⟨rfl, rfl⟩
set_option maxHeartbeats 800000 in
theorem stable_short (a : Option Addr) (n cap : Nat) (w : World) (P : World → Prop) (hn : n < 20)
    (C : Calls Try.prog 54 #[.slice a n cap, .int .i64 0, .int .i64 n, .func (.func 48) #[] #[]] w fun e w' => e = .returned (.tuple #[]) ∧ P w') :
    Calls Try.prog 51 #[.slice a n cap, .int .i64 n, .func (.func 48) #[] #[]] w fun e w' => e = .returned (.tuple #[]) ∧ P w' := by
  have h1 : ¬ (20 : Int) ≤ (n : Int) := by omega
  have h2 : ¬ (20 : Int) < (n : Int) := by omega
  go_enter Try.func51, Try.ntmps51
  go_wp2
  refine wp_loop_rounds 1 ?_
  rw [rounds_succ]
  go_wp2_with (go_at_call 54; refine C.mono ?_; rintro e w' ⟨rfl, hP⟩)
  refine wp_loop_rounds 1 ?_
  rw [rounds_succ]
  go_wp2
  go_end0
  exact ⟨rfl, hP⟩
set_option maxHeartbeats 800000 in
theorem sortFunc_of (a : Option Addr) (n cap : Nat) (w : World) (P : World → Prop)
    (C : Calls Try.prog 51 #[.slice a n cap, .int .i64 n, .func (.func 48) #[] #[]] w fun e w' => e = .returned (.tuple #[]) ∧ P w') :
    Calls Try.prog 47 #[.slice a n cap, .func (.func 48) #[] #[]] w fun e w' => e = .returned (.tuple #[]) ∧ P w' := by
  go_enter Try.func47, Try.ntmps47
  go_wp2_with (go_at_call 51; refine C.mono ?_; rintro e w' ⟨rfl, hP⟩)
  go_end0
  exact ⟨rfl, hP⟩
theorem perm_of {xs : List Pv} {d : Array Pv} (h : Sort.PermIn 0 xs.length xs.toArray d) : d.toList.Perm xs := by
  obtain ⟨h1, _, h3⟩ := h
  have hz : xs.toArray.size = xs.length := List.size_toArray
  have e1 : d.extract 0 xs.length = d := by rw [← hz, ← h1]; exact Array.extract_size
  have e2 : xs.toArray.extract 0 xs.length = xs.toArray := by simp
  rw [e1, e2] at h3
  exact h3
theorem sorts_small (w : World) (base : Nat) (v : Value) (xs : List Pv) (h20 : xs.length < 20) : Sorts w base v xs := by
  intro h
  rcases h.cases with ⟨rfl, rfl⟩ | ⟨g, cap, rfl, hb, hg, h1, h2, hH⟩
  · refine sortFunc_of none 0 0 w (fun w' => ∃ ys, List.Perm ys [] ∧ Rising ys ∧ PRow w' base (.slice none 0 0) ys ∧ w.grownBy w' none) (stable_short none 0 0 w _ (by omega) ((insertion_nil w).mono ?_))
    rintro e w' ⟨he, rfl⟩
    exact ⟨he, [], List.Perm.refl _, List.Pairwise.nil, h, ⟨rfl, rfl, rfl, Nat.le_refl _, fun _ _ _ => rfl⟩⟩
  · refine sortFunc_of (some ⟨g, 0, none⟩) xs.length cap w (fun w' => ∃ ys, ys.Perm xs ∧ Rising ys ∧ PRow w' base (.slice (some ⟨g, 0, none⟩) xs.length cap) ys ∧ w.grownBy w' (some g)) (stable_short _ _ _ w _ h20 ?_)
    have C := insertion_any g 0 cap 0 xs.length xs.toArray w hH hg (Nat.zero_le _) (by simp) (by simp; omega)
    rw [List.size_toArray] at C
    refine C.mono ?_
    rintro e w' ⟨he, n, os, hw⟩
    have hh := Sort.insertionSort_holds (lt := ltOf cmpW) swoW xs.toArray 0 xs.length (Nat.zero_le _) (by simp)
    have hp := perm_of hh.1
    have hl := hp.length_eq
    have hs : SWK Pv.enc 2 w g 0 (Sort.insertionSort (ltOf cmpW) xs.toArray 0 xs.length).toList.toArray w' := ⟨n, os, by rw [Array.toArray_toList]; exact hw⟩
    refine ⟨he, _, hp, rising_of ?_, h.sorted hs hl, (swk_heap hs).1⟩
    rw [hl, Array.toArray_toList]
    exact hh.2
end Go.Proofs.Ytjellgkojmgmjaa
