/- 'append([]byte{}, x...)'. -/
import Derived.Test.YtaibojmaghmfnaaArgB
namespace Go.Proofs.Ytaibojmaghmfnaa
open Go.RowKit

theorem wpList_append_sl_none {w : World} {ops : Array Oper} {rest : List Oper} {o : Oper} {a : Act} {Q : Exit → Act → World → Prop} (hgd : o.guard = none) (s x : Operand) (t : TypeId)
    (ho : o.op = .call { callee := .builtin .append, args := #[s, x], argTypes := #[t, t] })
    (e : TypeId) (i : TypeInfo) (ht : Try.prog.underlying t = some (.slice e)) (hi : Try.prog.info? e = some i)
    (ad : Option Addr) (n cap : Nat) (hs : a.eval s = .slice ad n cap) (hle : n ≤ cap) (hx : a.eval x = .slice none 0 0)
    (h : wpList Try.prog ops Q rest (a.put o.dst (.slice ad n cap)) w) : wpList Try.prog ops Q (o :: rest) a w := by
  refine wpList_plain hgd fun K hK => ?_
  have hrun : (Builtin.append_ #[t, t] o.type #[.slice ad n cap, .slice none 0 0]).run Try.prog w = .ok (.slice ad n cap) w := by
    cases ad <;> simp [Builtin.append_, run_underlying ht, sizeOf, typeInfo, hi, Builtin.lenOf, Builtin.firstCells, hle, storeCells]
  unfold Oper.wp
  simp [execOp, ho, resolve, invoke, builtin, hs, hx, hrun, Result.andThen]
  exact hK _ _ h

theorem Row.alloc {w : World} {a : Option Addr} {l : List Int} (h : Row w a l) (o : Obj) : Row (w.alloc o) a l := h.old ((Below.refl _ _).alloc (Nat.le_refl _) _)
theorem Sl.empty (w : World) (e : TypeId) : Sl (w.alloc (.cells #[] e)) e (.slice (some ⟨w.heap.size, 0, none⟩) 0 0) (some w.heap.size) [] :=
  .inr ⟨_, 0, 0, #[], rfl, rfl, heap_alloc_new _ _, by simp, by simp, by unfold maxLen; omega, by simp⟩
theorem wpList_copy {wr : World} {ops : Array Oper} {rest : List Oper} {o : Oper} {a : Act} {Q : Exit → Act → World → Prop} (hgd : o.guard = none) (s x : Operand)
    (ho : o.op = .call { callee := .builtin .append, args := #[s, x], argTypes := #[24, 24] })
    (ad : Option Addr) (m c : Nat) (zs : List Int) (hs : a.eval s = .slice (some ⟨wr.heap.size, 0, none⟩) 0 0) (hx : a.eval x = .slice ad m c) (hc : ad = none → c = 0) (hm : zs.length = m) (hr : Row wr ad zs) (hlen : m ≤ 140737488351232)
    (h : ∀ a' c' w' g', Sl w' 5 (.slice a' m c') g' (vals zs) → (∀ k, g' = some k → wr.heap.size ≤ k) → Below wr.heap.size wr w' → wpList Try.prog ops Q rest (a.put o.dst (.slice a' m c')) w') : wpList Try.prog ops Q (o :: rest) a (wr.alloc (.cells #[] 5)) := by
  obtain ⟨i0, hi, hz0, hz1, hz2⟩ := info_parts Try.info5
  have hB : Below wr.heap.size wr (wr.alloc (.cells #[] 5)) := (Below.refl _ _).alloc (Nat.le_refl _) _
  cases ad with
  | none =>
    have hb : zs = [] := by
      rcases hr with h | ⟨b, off, h, _⟩
      · exact h
      · cases h
    have hc0 := hc rfl
    subst hb hc0
    simp at hm
    subst hm
    refine wpList_append_sl_none hgd s x 24 ho 5 i0 Try.underlying24 hi _ 0 0 hs (Nat.le_refl _) hx ?_
    exact h _ 0 _ (some wr.heap.size) (Sl.empty wr 5) (by intro k hk; cases hk; exact Nat.le_refl _) hB
  | some y =>
    refine wpList_append_sl hgd s x 24 ho 5 i0 (.int .u8 0) 1 Try.underlying24 hi hz0 hz1 hz2 rfl _ _ [] hs (Sl.empty wr 5) y m c (vals zs) hx (by rw [vals_len]; exact hm) (news_row (hr.alloc _)) (vals_one zs) (by simp; omega) (by simp; unfold maxLen; omega) ?_
    intro v' w' g' h1 h2 h3
    obtain ⟨a', c', hv, _⟩ := h1.shape
    rw [List.nil_append] at h1 hv
    rw [vals_len, hm] at hv
    subst hv
    refine h a' c' w' g' h1 ?_ ⟨h3.os.trans hB.os, h3.tape.trans hB.tape, h3.output.trans hB.output, Nat.le_trans hB.size h3.size, fun k hk => (h3.block k (by simp; omega) (by simp; omega)).trans (hB.block k hk)⟩
    intro k hk
    rcases h2 with e | ⟨q, e, hq⟩
    · rw [e] at hk; cases hk; exact Nat.le_refl _
    · rw [e] at hk; cases hk; simp at hq; omega
end Go.Proofs.Ytaibojmaghmfnaa
