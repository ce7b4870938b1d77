/- Ranges off a cursor: the program. -/
import Derived.Test.YtaibojmaghmfnaaMgU2
namespace Go.Proofs.Ytaibojmaghmfnaa
open Go.RowKit
/-- The first j ranges, and what is left. -/
def rdG : Nat → St → List (Int × Int) × St
  | 0, s => ([], s)
  | j + 1, s => ((rdG j s).1 ++ [(bN 4 (rdG j s).2, bN 4 (bS 4 (rdG j s).2))], bS 4 (bS 4 (rdG j s).2))
theorem rdG_len (j : Nat) (s : St) : (rdG j s).1.length = j := by
  induction j with
  | zero => rfl
  | succ j ih => show ((rdG j s).1 ++ [_]).length = j + 1; rw [List.length_append, ih]; rfl
def gv (G : List (Int × Int)) : List Value := (G.map fun p => [Value.int .i64 p.1, Value.int .i64 p.2]).flatten
theorem gv_len (G : List (Int × Int)) : (gv G).length = G.length * 2 := by
  induction G with
  | nil => rfl
  | cons p r ih => simp only [gv, List.map_cons, List.flatten_cons, List.length_append, List.length_cons, List.length_nil] at ih ⊢; omega
theorem gv_append (G H : List (Int × Int)) : gv (G ++ H) = gv G ++ gv H := by simp [gv]
theorem gv_at (G : List (Int × Int)) : ∀ i, i < G.length → (gv G)[i * 2]? = some (.int .i64 (gx G i)) ∧ (gv G)[i * 2 + 1]? = some (.int .i64 (gy G i)) := by
  induction G with
  | nil => intro i hi; simp at hi
  | cons p r ih =>
    intro i hi
    have e : gv (p :: r) = .int .i64 p.1 :: .int .i64 p.2 :: gv r := by simp [gv]
    rw [e]
    match i, hi with
    | 0, _ => exact ⟨rfl, rfl⟩
    | i + 1, hi =>
      have h := ih i (by simpa using hi)
      have e1 : (i + 1) * 2 = i * 2 + 2 := by omega
      have e2 : (i + 1) * 2 + 1 = i * 2 + 1 + 2 := by omega
      rw [e1, show i * 2 + 2 + 1 = i * 2 + 1 + 2 by omega]
      simpa [gx, gy] using h
theorem owns_rgR {w : World} {base : Nat} {v : Value} {n : Nat} {G : List (Int × Int)} (h : w.ownsRow base 53 2 v n (gv G)) : ∃ a cap, v = .slice a n cap ∧ RgR w a G ∧ (∀ x, a = some x → base ≤ x.block) := by
  have hl := h.1
  rw [gv_len] at hl
  rcases h.2 with ⟨rfl, hn⟩ | ⟨g, cap, cur, rfl, hb, hg, hc, hm, hs, ht⟩
  · subst hn
    exact ⟨none, 0, rfl, .inl (List.length_eq_zero_iff.1 (by omega)), (fun x hx => by cases hx)⟩
  · refine ⟨some ⟨g, 0, none⟩, cap, rfl, .inr ⟨g, 0, rfl, fun i hi => ?_⟩, (fun x hx => by cases hx; exact hb)⟩
    have hle : i * 2 + 1 < n * 2 := by omega
    have k := gv_at G i hi
    have e : ∀ j, j < n * 2 → w.cell? ⟨g, 0 + j, none⟩ = (gv G)[j]? := by
      intro j hj
      rw [← ht, List.getElem?_take_of_lt hj]
      simp [World.cell?, hg]
    refine ⟨(e _ (by omega)).trans k.1, ?_⟩
    have := (e (i * 2 + 1) hle).trans k.2
    rw [show 0 + i * 2 + 1 = 0 + (i * 2 + 1) by omega]
    exact this
theorem own_same {w w' : World} {base e size n : Nat} {v : Value} {xs : List Value} (h : w.ownsRow base e size v n xs) (hs : ∀ k, v.ownBlock = some k → w'.heap[k]? = w.heap[k]?) : w'.ownsRow base e size v n xs := by
  refine ⟨h.1, ?_⟩
  rcases h.2 with q | ⟨g, cap, cur, rfl, hb, hg, r⟩
  · exact .inl q
  · exact .inr ⟨g, cap, cur, rfl, hb, (hs g rfl).trans hg, r⟩
theorem own_lt {w : World} {base e size n : Nat} {v : Value} {xs : List Value} (h : w.ownsRow base e size v n xs) (k : Nat) (hk : v.ownBlock = some k) : base ≤ k ∧ k < w.heap.size := by
  rcases h.2 with ⟨rfl, _⟩ | ⟨g, cap, cur, rfl, hb, hg, _⟩
  · cases hk
  · cases hk; exact ⟨hb, lt_of_block hg⟩
theorem info_rg : (Try.prog.info? 53).map (fun i => (i.zero, i.size, i.bytes)) = some (some (.agg #[.int .i64 0, .int .i64 0]), 2, 16) := by kernel_rfl
theorem step_rg {w : World} {ops : Array Oper} {o : Oper} {a : Act} {K : Act → World → Prop} {Q : Exit → Act → World → Prop} {E : Prop} (hgd : o.guard = none) (s x : Operand)
    (ho : o.op = .call { callee := .builtin .append, args := #[s, x], argTypes := #[23, 23] })
    (base : Nat) (v : Value) (n : Nat) (G : List (Int × Int)) (y z : Int) (hs : a.eval s = v) (hx : a.eval x = .slice (some ⟨w.heap.size, 0, none⟩) 1 1) (hown : w.ownsRow base 53 2 v n (gv G)) (hn : n ≤ 1000) (hbase : base ≤ w.heap.size)
    (h : ∀ v' w', w'.ownsRow base 53 2 v' (n + 1) (gv (G ++ [(y, z)])) → (w.alloc (.cells #[.int .i64 y, .int .i64 z] 53)).grownBy w' v.ownBlock → K (a.put o.dst v') w') :
    if Region.wanted o (yielded ops a.tmps) = true then Oper.wp Try.prog o a (w.alloc (.cells #[.int .i64 y, .int .i64 z] 53)) K Q else E := by
  obtain ⟨i0, hi, hz0, hz1, hz2⟩ := info_parts info_rg
  refine step_of_list hgd (wpList_append_own _ hgd s x 23 ho base 53 i0 (.agg #[.int .i64 0, .int .i64 0]) 2 16 Try.underlying23 hi hz0 hz1 hz2 rfl (by decide) v n (gv G) hs
    (own_same hown fun k hk => Below.heap_alloc w _ k (own_lt hown k hk).2) ⟨w.heap.size, 0, none⟩ 1 1 [.int .i64 y, .int .i64 z] hx rfl ?_ ?_ (by unfold maxLen; omega) (by omega) (by simp; omega) ?_)
  · intro j u hj
    match j, hj with
    | 0, hj => simp at hj; subst hj; rw [Addr.add_lit, World.cell?_alloc_mark]; rfl
    | 1, hj => simp at hj; subst hj; rw [Addr.add_lit, World.cell?_alloc_mark]; rfl
  · intro u hu
    simp only [List.mem_cons, List.not_mem_nil, or_false] at hu
    rcases hu with rfl | rfl <;> rfl
  · intro v' w' h1 h2 _
    have e : gv (G ++ [(y, z)]) = gv G ++ [.int .i64 y, .int .i64 z] := by rw [gv_append]; rfl
    exact ⟨rfl, h v' w' (by rw [e]; exact h1) h2⟩
/-- What stands between two rounds. -/
structure AkR (w : World) (c U Bm : Nat) (v0 : Int) (s2 : St) (j : Nat) (v : Value) (wr : World) : Prop where
  cs : CS wr c U (rdG j s2).2
  m : wr.heap[Bm]? = some (.cells #[.int .i64 0, .int .u32 0, .int .i64 0, .int .u32 0, .int .i64 0, .int .i64 0, .int .i64 0, .int .i64 v0, .int .i64 0, .int .i64 0, v, .slice none 0 0] 26 (0, 0))
  own : wr.ownsRow (Bm + 1) 53 2 v j (gv (rdG j s2).1)
  res : wr.heap[w.heap.size]? = some (.cells #[.int .i64 0, .int .u32 0, .int .i64 0, .int .u32 0, .int .i64 0, .int .i64 0, .int .i64 0, .int .i64 0, .int .i64 0, .int .i64 0, .slice none 0 0, .slice none 0 0] 26 (0, 0))
  gr : w.grownBy wr (some c)
theorem set_ten {w : World} {b : Nat} {v0 v1 v2 v3 v4 v5 v6 v7 v8 v9 v10 v11 u : Value} {t : TypeId} (h : w.heap[b]? = some (.cells #[v0, v1, v2, v3, v4, v5, v6, v7, v8, v9, v10, v11] t (0, 0))) : (w.setCell ⟨b, 10, none⟩ u).heap[b]? = some (.cells #[v0, v1, v2, v3, v4, v5, v6, v7, v8, v9, u, v11] t (0, 0)) := by
  simp [World.setCell, Array.getElem?_modify, h]
/-- A call on the cursor leaves the row and the blocks of messages. -/
theorem AkR.call {w x y : World} {c Bm : Nat} {v : Value} {n : Nat} {xs : List Value} {O1 O2 : Obj} (hc : c < w.heap.size) (hb : w.heap.size < Bm) (hg : x.grownBy y (some c)) (hm : x.heap[Bm]? = some O1) (hr : x.heap[w.heap.size]? = some O2) (ho : x.ownsRow (Bm + 1) 53 2 v n xs) (hgr : w.grownBy x (some c)) :
    y.heap[Bm]? = some O1 ∧ y.heap[w.heap.size]? = some O2 ∧ y.ownsRow (Bm + 1) 53 2 v n xs ∧ w.grownBy y (some c) :=
  ⟨(hg.block Bm (lt_of_block hm) (by simp; omega)).trans hm, (hg.block _ (lt_of_block hr) (by simp; omega)).trans hr, own_same ho fun k hk => hg.block k (own_lt ho k hk).2 (by have := (own_lt ho k hk).1; simp; omega), grownBy_trans hgr hg⟩
theorem AkR.next {w x2 w9 : World} {c U Bm : Nat} {v0 : Int} {s2 : St} {j : Nat} {v v9 : Value} (hb : w.heap.size < Bm) (hU : U ≤ w.heap.size) (hcs : CS x2 c U (bS 4 (bS 4 (rdG j s2).2))) (hm : x2.heap[Bm]? = some (.cells #[.int .i64 0, .int .u32 0, .int .i64 0, .int .u32 0, .int .i64 0, .int .i64 0, .int .i64 0, .int .i64 v0, .int .i64 0, .int .i64 0, v, .slice none 0 0] 26 (0, 0))) (hr : x2.heap[w.heap.size]? = some (.cells #[.int .i64 0, .int .u32 0, .int .i64 0, .int .u32 0, .int .i64 0, .int .i64 0, .int .i64 0, .int .i64 0, .int .i64 0, .int .i64 0, .slice none 0 0, .slice none 0 0] 26 (0, 0)))
    (ho : x2.ownsRow (Bm + 1) 53 2 v j (gv (rdG j s2).1)) (hgr : w.grownBy x2 (some c)) (O : Obj) (h9 : w9.ownsRow (Bm + 1) 53 2 v9 (j + 1) (gv ((rdG j s2).1 ++ [(bN 4 (rdG j s2).2, bN 4 (bS 4 (rdG j s2).2))]))) (hg9 : (x2.alloc O).grownBy w9 v.ownBlock) :
    AkR w c U Bm v0 s2 (j + 1) v9 (w9.setCell ⟨Bm, 10, none⟩ v9) ∧ w9.heap[Bm]? = some (.cells #[.int .i64 0, .int .u32 0, .int .i64 0, .int .u32 0, .int .i64 0, .int .i64 0, .int .i64 0, .int .i64 v0, .int .i64 0, .int .i64 0, v, .slice none 0 0] 26 (0, 0)) := by
  have hA : Below x2.heap.size x2 (x2.alloc O) := (Below.refl _ _).alloc (Nat.le_refl _) _
  have hbl : ∀ k, k ≤ Bm → k < x2.heap.size → w9.heap[k]? = x2.heap[k]? := fun k hk hl => (hg9.block k (Nat.lt_of_lt_of_le hl hA.size) (fun e => by have := (own_lt ho k e.symm).1; omega)).trans (hA.block k hl)
  have hm9 : w9.heap[Bm]? = _ := (hbl Bm (Nat.le_refl _) (lt_of_block hm)).trans hm
  have hl2 := lt_of_block hm
  have hl3 := lt_of_block hr
  have hg9c : w.grownBy w9 (some c) := ⟨hg9.os.trans hgr.os, hg9.tape.trans hgr.tape, hg9.output.trans hgr.output, Nat.le_trans hgr.size (Nat.le_trans hA.size hg9.size), fun k hk hne => (hbl k (by omega) (by omega)).trans (hgr.block k hk hne)⟩
  refine ⟨⟨?_, set_ten hm9, ?_, ?_, ⟨hg9c.os, hg9c.tape, hg9c.output, by simp only [World.setCell, Array.size_modify]; exact hg9c.size, fun k hk hne => (Below.heap_setCell _ _ _ _ (by show k ≠ Bm; omega)).trans (hg9c.block k hk hne)⟩⟩, hm9⟩
  · have h1 : CS (x2.alloc O) c U (bS 4 (bS 4 (rdG j s2).2)) := hcs.old hA
    have h2 : CS w9 c U (bS 4 (bS 4 (rdG j s2).2)) := by
      cases hv : v.ownBlock with
      | none => rw [hv] at hg9; exact h1.old ⟨hg9.os, hg9.tape, hg9.output, hg9.size, fun k hk => hg9.block k hk (by simp)⟩
      | some g => rw [hv] at hg9; exact h1.grown hg9 (by have := (own_lt ho g hv).1; omega)
    exact h2.grown (grownBy_set w9 Bm 10 v9) (by omega)
  · refine own_same h9 fun k hk => Below.heap_setCell _ _ _ _ (by have := (own_lt h9 k hk).1; show k ≠ Bm; omega)
  · rw [Below.heap_setCell _ _ _ _ (by show w.heap.size ≠ Bm; omega)]
    exact (hbl _ (by omega) (by omega)).trans hr
end Go.Proofs.Ytaibojmaghmfnaa
