/- An append of one row to a table: what stood ahead stays. -/
import Derived.Test.YtcbmlioeeoghkaaLzOc
import Derived.Laws.IdiomCopy
namespace Go.Proofs.Ytcbmlioeeoghkaa
open Go.RowKit
theorem wpList_push_rowK {w : World} {ops : Array Oper} {rest : List Oper} {o : Oper} {a : Act} {Q : Exit → Act → World → Prop} (hgd : o.guard = none) (s x : Operand)
    (ho : o.op = .call { callee := .builtin .append, args := #[s, x], argTypes := #[59, 59] })
    (tb toff n cp : Nat) (g : Option Nat) (vs : List Value) (hs : a.eval s = .slice (some ⟨tb, toff, none⟩) n cp) (hsl : Sl w 22 (.slice (some ⟨tb, toff, none⟩) n cp) g vs) (b c : Nat) (u : Value) (hx : a.eval x = .slice (some ⟨b, 0, none⟩) 1 c) (hcell : w.cell? ⟨b, 0, none⟩ = some u) (hone : u.oneCell' = true) (hlen : vs.length ≤ 1000000)
    (h : ∀ v' w' g', Sl w' 22 v' g' (vs ++ [u]) → (g' = g ∨ ∃ k, g' = some k ∧ w.heap.size ≤ k) → w.grownBy w' g → (∀ j, j < toff + n → w'.cell? ⟨tb, j, none⟩ = w.cell? ⟨tb, j, none⟩) → wpList Try.prog ops Q rest (a.put o.dst v') w') : wpList Try.prog ops Q (o :: rest) a w := by
  obtain ⟨i0, hi, hz0, hz1, hz2⟩ := info_parts Try.info22
  have hnews : ∀ j y, ([u] : List Value)[j]? = some y → w.cell? ((⟨b, 0, none⟩ : Addr).add j) = some y := by
    intro j y hj
    match j, hj with
    | 0, hj => simp at hj; subst hj; rw [Addr.add_lit]; simpa using hcell
  have h1 : ∀ y ∈ ([u] : List Value), y.oneCell' = true := fun y hy => by simp at hy; subst hy; exact hone
  have hsl0 := hsl
  rcases hsl with ⟨hh, _⟩ | ⟨b', off, cap, cur, hv, rfl, hh, h2, h3, h4, hc⟩
  · cases hh
  · simp only [Value.slice.injEq, Option.some.injEq, Addr.mk.injEq, and_true] at hv
    obtain ⟨⟨rfl, rfl⟩, rfl, rfl⟩ := hv
    have hcl : ∀ j y, vs[j]? = some y → w.cell? ⟨tb, toff + j, none⟩ = some y := by
      intro j y hj
      have hj' : j < vs.length := (List.getElem?_eq_some_iff.1 hj).1
      rw [← hj, ← hc j hj']
      simp [World.cell?, hh]
    refine wpList_append_arg w hgd s x 59 ho 22 i0 (.slice none 0 0) 1 24 Try.underlying59 hi hz0 hz1 hz2 rfl (by decide) tb toff vs.length cp vs hs (by omega) hcl ⟨b, 0, none⟩ 1 c [u] hx (by simp) hnews h1 ?_ (by unfold maxLen; omega) (by omega) ?_ ?_
    · intro hr j hj
      refine ⟨?_, by simp [World.frozen?, hh]⟩
      simp only [World.cell?, hh]
      simp at hj ⊢
      omega
    · intro hr
      refine h _ _ (some tb) ?_ (.inl rfl) (grownBy_setCells tb [u] _ w) (fun j hj => World.cell?_setCells_out tb [u] _ w ⟨tb, j, none⟩ (fun _ _ => .inl (by show j < _; omega)))
      refine .inr ⟨tb, toff, cp, setArr cur (toff + vs.length * 1) [u], by rw [List.length_append]; rfl, rfl, heap_setCells _ _ _ _ hh, by rw [setArr_size]; exact h2, by rw [List.length_append, List.length_singleton]; omega, h4, fun j hj => ?_⟩
      rw [List.length_append, List.length_singleton] at hj
      by_cases hjx : j < vs.length
      · rw [setArr_out _ _ _ _ (by omega), hc j hjx, List.getElem?_append_left hjx]
      · rw [show toff + j = toff + vs.length * 1 + (j - vs.length) by omega, setArr_in _ _ _ (by simp; omega) _ (by simp; omega), List.getElem?_append_right (by omega)]
    · intro hr v' w' hown hgrow
      obtain ⟨g', hsl', hg'⟩ := Sl.of_owns hown
      refine h v' w' g' hsl' ?_ ⟨hgrow.os, hgrow.tape, hgrow.output, hgrow.size, fun k hk _ => hgrow.block k hk (by simp)⟩ (fun j _ => World.cell?_of_block (a := ⟨tb, j, none⟩) (hgrow.block tb (lt_of_block hh) (by simp)))
      rcases hsl' with ⟨_, rfl, hnil⟩ | ⟨b', _, _, _, _, rfl, _⟩
      · simp at hnil
      · exact .inr ⟨b', rfl, hg' b' rfl⟩
theorem step_rowK {w : World} {ops : Array Oper} {o : Oper} {a : Act} {K : Act → World → Prop} {Q : Exit → Act → World → Prop} {E : Prop} (hgd : o.guard = none) (s x : Operand)
    (ho : o.op = .call { callee := .builtin .append, args := #[s, x], argTypes := #[59, 59] })
    (tb toff n cp : Nat) (g : Option Nat) (vs : List Value) (hs : a.eval s = .slice (some ⟨tb, toff, none⟩) n cp) (hsl : Sl w 22 (.slice (some ⟨tb, toff, none⟩) n cp) g vs) (b c : Nat) (u : Value) (hx : a.eval x = .slice (some ⟨b, 0, none⟩) 1 c) (hcell : w.cell? ⟨b, 0, none⟩ = some u) (hone : u.oneCell' = true) (hlen : vs.length ≤ 1000000)
    (h : ∀ v' w' g', Sl w' 22 v' g' (vs ++ [u]) → (g' = g ∨ ∃ k, g' = some k ∧ w.heap.size ≤ k) → w.grownBy w' g → (∀ j, j < toff + n → w'.cell? ⟨tb, j, none⟩ = w.cell? ⟨tb, j, none⟩) → K (a.put o.dst v') w') : if Region.wanted o (yielded ops a.tmps) = true then Oper.wp Try.prog o a w K Q else E :=
  step_of_list hgd (wpList_push_rowK hgd s x ho tb toff n cp g vs hs hsl b c u hx hcell hone hlen fun v' w' g' h1 h2 h3 h4 => ⟨rfl, h v' w' g' h1 h2 h3 h4⟩)
end Go.Proofs.Ytcbmlioeeoghkaa
