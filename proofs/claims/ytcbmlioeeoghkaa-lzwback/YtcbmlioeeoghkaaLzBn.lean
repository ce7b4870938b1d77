/- An append of a great row behind a small one, in the call's own memory. -/
import Derived.Test.YtcbmlioeeoghkaaRwC
import Derived.Test.YtcbmlioeeoghkaaCpB
namespace Go.Proofs.Ytcbmlioeeoghkaa
open Go.RowKit
theorem nextcap_quarter {need old : Nat} (h : old < need) : Builtin.nextslicecap need old ≤ need + need / 4 + 600 := by
  unfold Builtin.nextslicecap
  split
  · omega
  · split
    · omega
    · rw [growBy_four]
      repeat' split
      all_goals omega
theorem run_append_big (w : World) (base ty n m c : Nat) (v : Value) (xs news : List Value) (hown : w.ownsRow base 5 1 v n xs) (hn : 1 ≤ n) (a : Addr) (hl : news.length = m) (hnews : ∀ j u, news[j]? = some u → w.cell? (a.add j) = some u) (h1 : ∀ u ∈ news, u.oneCell' = true)
    (hbig : n + m ≤ 200000000000000) (hbase : base ≤ w.heap.size) :
    ∃ v' w', (Builtin.append_ #[22, 22] ty #[v, .slice (some a) m c]).run Try.prog w = .ok v' w' ∧ w'.ownsRow base 5 1 v' (n + m) (xs ++ news) ∧ w.grownBy w' v.ownBlock := by
  obtain ⟨i, hi, hz, hsz, hby⟩ := info_parts Try.info5
  have hl' : news.length = m * i.size := by rw [hsz]; omega
  have hxl : xs.length = n := by have := hown.1; omega
  have hml : n + m ≤ maxLen := by unfold maxLen; omega
  rcases hown.2 with ⟨rfl, rfl⟩ | ⟨g, cap, cur, rfl, hbg, hg, hnc, hcm, hcs, htake⟩
  · omega
  · have hlen : (xs ++ news).length = (n + m) * 1 := by rw [List.length_append]; omega
    by_cases hroom : n + m ≤ cap
    · have hfit : n * i.size + news.length ≤ cur.size := by rw [hsz, hcs]; omega
      have hr := run_append_room (P := Try.prog) w 22 ty 5 i Try.underlying22 hi g n cap cur hg a m c news hl' hnews h1 hroom hfit
      rw [hsz] at hr
      refine ⟨_, _, hr, ⟨hlen, .inr ⟨g, cap, _, rfl, hbg, setRow_heap w g cur _ 5 _ hg, hroom, hcm, ?_, ?_⟩⟩, ⟨rfl, rfl, rfl, by simp, fun k _ hk => setRow_other w g k _ (fun e => hk (by simp [Value.ownBlock, e]))⟩⟩
      · simp only [List.size_toArray, List.length_append, List.length_take, List.length_drop, Array.length_toList]
        omega
      · rw [htake, ← hlen]
        exact List.take_left
    · have holds : ∀ j u, xs[j]? = some u → w.cell? ((⟨g, 0, none⟩ : Addr).add j) = some u := hown.cells (g := g) rfl
      have hq := nextcap_quarter (need := n + m) (old := cap) (by omega)
      have hr := run_append_grow (P := Try.prog) w 22 ty 5 i (.int .u8 0) Try.underlying22 hi hz ⟨g, 0, none⟩ n cap xs (by rw [hsz]; omega) holds a m c news hl' hnews (by omega) (by omega) (by rw [hby]; omega)
      have hge := grownCap_ge w (n + m) cap 5
      refine ⟨_, _, hr, ⟨hlen, .inr ⟨w.heap.size, _, _, rfl, hbase, heap_alloc_new w.drew _, hge, grownCap_le_maxLen w (n + m) cap 5 hml, ?_, ?_⟩⟩, ⟨rfl, rfl, rfl, by simp, fun k hk _ => heap_alloc_old w.drew _ hk⟩⟩
      · simp only [Array.size_append, List.size_toArray, size_zeroCells, Value.cells]
        show xs.length + news.length + (_ - (n + m)) * 1 = _ * 1
        omega
      · simp only [Array.toList_append, List.append_assoc]
        rw [← List.append_assoc, ← hlen]
        exact List.take_left
theorem row_of_owns {w : World} {base n : Nat} {v : Value} {zs : List Int} (h : w.ownsRow base 5 1 v n (vals zs)) : ∃ a c, v = .slice a n c ∧ Row w a zs ∧ zs.length = n ∧ n ≤ c ∧ c ≤ maxLen ∧ (a = none → c = 0) := by
  obtain ⟨g, hs, -⟩ := Sl.of_owns h
  have hl : zs.length = n := by have := h.1; rw [vals_len] at this; omega
  obtain ⟨a, c, hv, h1, h2, h3⟩ := hs.shape
  rw [vals_len] at hv h1
  have hrow := hs.row hv
  rw [hl] at hv h1
  exact ⟨a, c, hv, hrow, hl, h1, h2, h3⟩
/-- 'append([]byte{}, x...)', as an owned row. -/
theorem wpList_copy_own {wr : World} {ops : Array Oper} {rest : List Oper} {o : Oper} {a : Act} {Q : Exit → Act → World → Prop} (hgd : o.guard = none) (s x : Operand)
    (ho : o.op = .call { callee := .builtin .append, args := #[s, x], argTypes := #[22, 22] })
    (ad : Addr) (m c : Nat) (zs : List Int) (hs : a.eval s = .slice (some ⟨wr.heap.size, 0, none⟩) 0 0) (hx : a.eval x = .slice (some ad) m c) (hm : zs.length = m) (hr : Row wr (some ad) zs) (hlen : m ≤ 140737488351232)
    (h : ∀ v' w', w'.ownsRow wr.heap.size 5 1 v' m (vals zs) → Below wr.heap.size wr w' → wpList Try.prog ops Q rest (a.put o.dst v') w') : wpList Try.prog ops Q (o :: rest) a (wr.alloc (.cells #[] 5)) := by
  obtain ⟨i0, hi, hz0, hz1, hz2⟩ := info_parts Try.info5
  have hB : Below wr.heap.size wr (wr.alloc (.cells #[] 5)) := (Below.refl _ _).alloc (Nat.le_refl _) _
  have hown : (wr.alloc (.cells #[] 5)).ownsRow wr.heap.size 5 1 (.slice (some ⟨wr.heap.size, 0, none⟩) 0 0) 0 [] := ⟨by simp, .inr ⟨wr.heap.size, 0, #[], rfl, Nat.le_refl _, heap_alloc_new _ _, Nat.le_refl _, by unfold maxLen; omega, by simp, by simp⟩⟩
  refine wpList_append_own _ hgd s x 22 ho wr.heap.size 5 i0 (.int .u8 0) 1 1 Try.underlying22 hi hz0 hz1 hz2 rfl (by decide) _ 0 [] hs hown ad m c (vals zs) hx (by rw [vals_len]; omega) (news_row (hr.alloc _)) (vals_one zs) (by unfold maxLen; omega) (by omega) (by simp) ?_
  intro v' w' h1 h2 _
  rw [Nat.zero_add, List.nil_append] at h1
  exact h v' w' h1 ⟨h2.os.trans hB.os, h2.tape.trans hB.tape, h2.output.trans hB.output, Nat.le_trans hB.size h2.size, fun k hk => (h2.block k (by simp; omega) (by simp [Value.ownBlock]; omega)).trans (hB.block k hk)⟩
/-- 'append(p, x...)' of a great x. -/
theorem wpList_more_big {w : World} {ops : Array Oper} {rest : List Oper} {o : Oper} {a : Act} {Q : Exit → Act → World → Prop} (hgd : o.guard = none) (s x : Operand)
    (ho : o.op = .call { callee := .builtin .append, args := #[s, x], argTypes := #[22, 22] })
    (base n : Nat) (v : Value) (zs : List Int) (hs : a.eval s = v) (hown : w.ownsRow base 5 1 v n (vals zs)) (hn : 1 ≤ n)
    (ad : Option Addr) (m c : Nat) (ys : List Int) (hx : a.eval x = .slice ad m c) (hc : ad = none → c = 0) (hm : ys.length = m) (hr : Row w ad ys) (hbig : n + m ≤ 200000000000000) (hbase : base ≤ w.heap.size)
    (h : ∀ v' w', w'.ownsRow base 5 1 v' (n + m) (vals (zs ++ ys)) → w.grownBy w' v.ownBlock → wpList Try.prog ops Q rest (a.put o.dst v') w') : wpList Try.prog ops Q (o :: rest) a w := by
  obtain ⟨i0, hi, hz0, hz1, hz2⟩ := info_parts Try.info5
  cases ad with
  | none =>
    have hb : ys = [] := by
      rcases hr with h | ⟨b, off, h, _⟩
      · exact h
      · cases h
    have hc0 := hc rfl
    subst hb hc0
    simp at hm
    subst hm
    obtain ⟨a', c', hv, -, -, h1, -, -⟩ := row_of_owns hown
    subst hv
    refine wpList_append_sl_none hgd s x 22 ho 5 i0 Try.underlying22 hi a' n c' hs h1 hx ?_
    refine h _ w ?_ ⟨rfl, rfl, rfl, Nat.le_refl _, fun _ _ _ => rfl⟩
    rw [List.append_nil]; exact hown
  | some y =>
    obtain ⟨v', w', hrun, h2, h3⟩ := run_append_big w base o.type n m c v (vals zs) (vals ys) hown hn y (by rw [vals_len]; exact hm) (news_row hr) (vals_one ys) hbig hbase
    refine wpList_plain hgd fun _ hK => ?_
    unfold Oper.wp execOp
    simp only [ho, resolve, invoke, builtin, Sem.run_bind, Sem.run_pure, Result.andThen_ok, List.map_toArray, List.map_cons, List.map_nil, hs, hx, hrun]
    refine hK _ _ (h v' w' ?_ h3)
    have : vals (zs ++ ys) = vals zs ++ vals ys := by simp [vals]
    rw [this]; exact h2
end Go.Proofs.Ytcbmlioeeoghkaa
