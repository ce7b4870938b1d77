/- Blocks: what is packed is told again, byte by byte. -/
import Derived.Test.YtkfokfjmdkondaaBk9
namespace Go.Proofs.Ytkfokfjmdkondaa
open Go.RowKit
theorem bgo_bpk {n : Nat} (hn : 1 ≤ n) : ∀ (f : Nat) (zs : List Int), zs.length ≤ f → ∀ (k : Nat) (r : List Int), bgo ⟨0, false, k, r⟩ (bpk n zs) = (zs, ⟨0, false, k + (bpk n zs).length, r⟩)
  | 0, zs, h, k, r => by
    obtain rfl : zs = [] := List.length_eq_zero_iff.1 (by omega)
    simp [bpk_nil, bgo]
  | f + 1, [], _, k, r => by simp [bpk_nil, bgo]
  | f + 1, x :: xs, h, k, r => by
    have hl : 0 < (x :: xs).length := by simp
    generalize hz : x :: xs = zs at h hl
    have hne : zs ≠ [] := by rw [← hz]; simp
    have ih := bgo_bpk hn f (zs.drop n) (by rw [List.length_drop]; omega)
    obtain ⟨N, hN⟩ : ∃ N, min n zs.length = N := ⟨_, rfl⟩
    have hlt : (zs.take n).length = N := by rw [List.length_take]; exact hN
    rw [bpk_step hn hne, hN, bgo_zero rfl rfl]
    have hd : decide ((N : Int) = 0) = false := by simp; omega
    simp only [hd, Int.toNat_natCast]
    rw [bgo_append, bgo_take (zs.take n) _ rfl (by show (zs.take n).length ≤ N; omega)]
    simp only [hlt, Nat.sub_self]
    rw [ih]
    simp only [List.take_append_drop, List.length_cons, List.length_append, hlt]
    rw [show k + 1 + N + (bpk n (zs.drop n)).length = k + (N + (bpk n (zs.drop n)).length + 1) by omega]
theorem bgo_whole {n : Nat} (hn : 1 ≤ n) (zs : List Int) : bgo bs0 (bpk n zs ++ [0]) = (zs, ⟨0, true, (bpk n zs ++ [0]).length, []⟩) := by
  have h := bgo_bpk hn zs.length zs (Nat.le_refl _) 0 []
  have h' : bgo bs0 (bpk n zs) = (zs, ⟨0, false, 0 + (bpk n zs).length, []⟩) := h
  rw [bgo_append, h']
  simp [bgo]
theorem bgo_stays : ∀ (xs ys : List Int) (s : Bs), (bgo s xs).2.done = true → (bgo s (xs ++ ys)).2.done = true := by
  intro xs ys s h
  rw [bgo_append, bgo_done h]
  exact h
theorem bgo_ahead {n : Nat} (hn : 1 ≤ n) (zs : List Int) (i : Nat) (hi : i < (bpk n zs ++ [0]).length) : (bgo bs0 ((bpk n zs ++ [0]).take i)).2.done = false := by
  have h' : bgo bs0 (bpk n zs) = (zs, ⟨0, false, 0 + (bpk n zs).length, []⟩) := bgo_bpk hn zs.length zs (Nat.le_refl _) 0 []
  rw [List.length_append, List.length_singleton] at hi
  rw [List.take_append_of_le_length (by omega)]
  by_cases h : (bgo bs0 ((bpk n zs).take i)).2.done = true
  · have := bgo_stays _ ((bpk n zs).drop i) bs0 h
    rw [List.take_append_drop, h'] at this
    cases this
  · simpa using h
/-- What holds between two pushes: P's first i bytes were pushed into the reader at block r. -/
structure BbRel (wb : World) (r : Nat) (P : List Int) (i : Nat) (tv : Value) (tg gr : Option Nat) (wr : World) : Prop where
  rd : BR wr r (bgo bs0 (P.take i)).2 gr
  rn : wb.heap.size ≤ r
  grn : ∀ k, gr = some k → wb.heap.size ≤ k
  sl : Sl wr 5 tv tg (vals (bgo bs0 (P.take i)).1)
  tgn : ∀ k, tg = some k → wb.heap.size ≤ k ∧ gr ≠ some k
  be : Below wb.heap.size wb wr
theorem BbRel.next {wb : World} {r : Nat} {P : List Int} {i : Nat} {tv : Value} {tg gr : Option Nat} {wr : World} (h : BbRel wb r P i tv tg gr wr) {ys : List Int} (hys : P.take (i + ys.length) = P.take i ++ ys) {g' : Option Nat} {w2 : World} (hr : BR w2 r (bgo (bgo bs0 (P.take i)).2 ys).2 g') (hg' : g' = gr ∨ ∃ k, g' = some k ∧ wr.heap.size ≤ k) (hf : Fr wr w2 r gr)
    {v7 : Value} {g7 : Option Nat} {w7 : World} (hs7 : Sl w7 5 v7 g7 (vals ((bgo bs0 (P.take i)).1 ++ (bgo (bgo bs0 (P.take i)).2 ys).1))) (hg7 : g7 = tg ∨ ∃ k, g7 = some k ∧ w2.heap.size ≤ k) (hgr : w2.grownBy w7 tg) : BbRel wb r P (i + ys.length) v7 g7 g' w7 := by
  have hw2 : Below wb.heap.size wb w2 := Fr.below h.be hf h.rn h.grn h.be.size
  have hgn : ∀ k, g' = some k → wb.heap.size ≤ k := by
    intro k hk
    rcases hg' with e | ⟨j, e, hj⟩
    · exact h.grn k (by rw [← e, hk])
    · rw [e] at hk; cases hk; have := h.be.size; omega
  have htr : tg ≠ some r := by
    intro e
    obtain ⟨v, hc, _⟩ := h.rd
    exact hc.ne h.sl (by decide) e
  have htg' : ∀ k, tg = some k → g' ≠ some k := by
    intro k hk e
    rcases hg' with e2 | ⟨j, e2, hj⟩
    · exact (h.tgn k hk).2 (by rw [← e2, e])
    · rw [e2] at e; cases e; have := h.sl.lt hk; omega
  have hgo : bgo bs0 (P.take (i + ys.length)) = ((bgo bs0 (P.take i)).1 ++ (bgo (bgo bs0 (P.take i)).2 ys).1, (bgo (bgo bs0 (P.take i)).2 ys).2) := by rw [hys, bgo_append]
  refine ⟨?_, h.rn, hgn, ?_, ?_, hw2.grown hgr hw2.size (fun k hk => (h.tgn k hk).1)⟩
  · rw [hgo]
    exact hr.same (hgr.block r hr.lt (fun e => htr e.symm)) fun k hk => hgr.block k (hr.glt hk) (fun e => htg' k e.symm hk)
  · rw [hgo]; exact hs7
  · intro k hk
    rcases hg7 with e | ⟨j, e, hj⟩
    · exact ⟨(h.tgn k (by rw [← e, hk])).1, htg' k (by rw [← e, hk])⟩
    · rw [e] at hk; cases hk
      refine ⟨by have := hw2.size; omega, fun e2 => ?_⟩
      have := hr.glt e2; omega
end Go.Proofs.Ytkfokfjmdkondaa
