/- The receiver: rows of ranges; Ranges. -/
import Derived.Test.YtmfciheenemapaaRqF
import Derived.Laws.OwnMore
namespace Go.Proofs.Ytmfciheenemapaa
open Go.RowKit
def gx (G : List (Int × Int)) (i : Nat) : Int := (G[i]?.getD (0, 0)).1
def gy (G : List (Int × Int)) (i : Nat) : Int := (G[i]?.getD (0, 0)).2
def RgR (w : World) (a : Option Addr) (G : List (Int × Int)) : Prop :=
  G = [] ∨ ∃ b off, a = some ⟨b, off, none⟩ ∧ ∀ i, i < G.length → w.cell? ⟨b, off + i * 2, none⟩ = some (.int .i64 (gx G i)) ∧ w.cell? ⟨b, off + i * 2 + 1, none⟩ = some (.int .i64 (gy G i))
theorem RgR.old {w w' : World} {a : Option Addr} {G : List (Int × Int)} (h : RgR w a G) (hb : Below w.heap.size w w') : RgR w' a G := by
  rcases h with h | ⟨b, off, rfl, hc⟩
  · exact .inl h
  · exact .inr ⟨b, off, rfl, fun i hi => ⟨(World.cell?_of_block (a := ⟨b, off + i * 2, none⟩) (hb.block _ (cell_lt (hc i hi).1))).trans (hc i hi).1, (World.cell?_of_block (a := ⟨b, off + i * 2 + 1, none⟩) (hb.block _ (cell_lt (hc i hi).2))).trans (hc i hi).2⟩⟩
def gv (G : List (Int × Int)) : List Value := (G.map fun p => [Value.int .i64 p.1, Value.int .i64 p.2]).flatten
theorem gv_len (G : List (Int × Int)) : (gv G).length = G.length * 2 := by
  induction G with
  | nil => rfl
  | cons p r ih => unfold gv at ih ⊢; simp only [List.map_cons, List.flatten_cons, List.length_append, List.length_cons, List.length_nil, ih]; omega
theorem gv_append (G H : List (Int × Int)) : gv (G ++ H) = gv G ++ gv H := by simp [gv]
theorem gv_at (G : List (Int × Int)) : ∀ i, i < G.length → (gv G)[i * 2]? = some (.int .i64 (gx G i)) ∧ (gv G)[i * 2 + 1]? = some (.int .i64 (gy G i)) := by
  induction G with
  | nil => intro i hi; simp at hi
  | cons p r ih =>
    intro i hi
    have e : gv (p :: r) = Value.int .i64 p.1 :: Value.int .i64 p.2 :: gv r := rfl
    match i with
    | 0 => rw [e]; exact ⟨rfl, rfl⟩
    | i + 1 =>
      have := ih i (by simp at hi; omega)
      rw [e, show (i + 1) * 2 = i * 2 + 1 + 1 by omega]
      simp only [List.getElem?_cons_succ]
      unfold gx gy at this ⊢
      simp only [List.getElem?_cons_succ]
      exact this
theorem owns_rgR {w : World} {base : Nat} {v : Value} {n : Nat} {G : List (Int × Int)} (h : w.ownsRow base 48 2 v n (gv G)) : ∃ a cap, v = .slice a n cap ∧ RgR w a G ∧ (∀ x, a = some x → base ≤ x.block) := by
  have hl := h.1
  rw [gv_len] at hl
  rcases h.2 with ⟨rfl, hn⟩ | ⟨g, cap, cur, rfl, hb, hg, hc, hm, hs, ht⟩
  · subst hn
    exact ⟨none, 0, rfl, .inl (List.length_eq_zero_iff.1 (by omega)), (fun x hx => by cases hx)⟩
  · refine ⟨some ⟨g, 0, none⟩, cap, rfl, .inr ⟨g, 0, rfl, fun i hi => ?_⟩, (fun x hx => by cases hx; exact hb)⟩
    have hle : i * 2 + 1 < n * 2 := by omega
    have k := gv_at G i hi
    have e : ∀ j, j < n * 2 → w.cell? ⟨g, 0 + j, none⟩ = (gv G)[j]? := by
      intro j hj
      rw [← ht, List.getElem?_take_of_lt hj]
      simp [World.cell?, hg]
    refine ⟨(e _ (by omega)).trans k.1, ?_⟩
    have := (e (i * 2 + 1) hle).trans k.2
    rw [show 0 + i * 2 + 1 = 0 + (i * 2 + 1) by omega]
    exact this
theorem own_same {w w' : World} {base e size n : Nat} {v : Value} {xs : List Value} (h : w.ownsRow base e size v n xs) (hs : ∀ k, v.ownBlock = some k → w'.heap[k]? = w.heap[k]?) : w'.ownsRow base e size v n xs := by
  refine ⟨h.1, ?_⟩
  rcases h.2 with q | ⟨g, cap, cur, rfl, hb, hg, r⟩
  · exact .inl q
  · exact .inr ⟨g, cap, cur, rfl, hb, (hs g rfl).trans hg, r⟩
theorem own_lt {w : World} {base e size n : Nat} {v : Value} {xs : List Value} (h : w.ownsRow base e size v n xs) (k : Nat) (hk : v.ownBlock = some k) : base ≤ k ∧ k < w.heap.size := by
  rcases h.2 with ⟨rfl, _⟩ | ⟨g, cap, cur, rfl, hb, hg, _⟩
  · cases hk
  · cases hk; exact ⟨hb, lt_of_block hg⟩
theorem info_rg : (Try.prog.info? 48).map (fun i => (i.zero, i.size, i.bytes)) = some (some (.agg #[.int .i64 0, .int .i64 0]), 2, 16) := by kernel_rfl
theorem wpList_push_rg {w : World} {ops : Array Oper} {rest : List Oper} {o : Oper} {a : Act} {Q : Exit → Act → World → Prop} (hgd : o.guard = none) (s x : Operand)
    (ho : o.op = .call { callee := .builtin .append, args := #[s, x], argTypes := #[41, 41] })
    (base : Nat) (v : Value) (n : Nat) (G : List (Int × Int)) (y z : Int) (hs : a.eval s = v) (hx : a.eval x = .slice (some ⟨w.heap.size, 0, none⟩) 1 1) (hown : w.ownsRow base 48 2 v n (gv G)) (hn : n ≤ 1000) (hbase : base ≤ w.heap.size)
    (h : ∀ v' w', w'.ownsRow base 48 2 v' (n + 1) (gv (G ++ [(y, z)])) → (w.alloc (.cells #[.int .i64 y, .int .i64 z] 48)).grownBy w' v.ownBlock → wpList Try.prog ops Q rest (a.put o.dst v') w') :
    wpList Try.prog ops Q (o :: rest) a (w.alloc (.cells #[.int .i64 y, .int .i64 z] 48)) := by
  obtain ⟨i0, hi, hz0, hz1, hz2⟩ := info_parts info_rg
  refine wpList_append_own _ hgd s x 41 ho base 48 i0 (.agg #[.int .i64 0, .int .i64 0]) 2 16 Try.underlying41 hi hz0 hz1 hz2 rfl (by decide) v n (gv G) hs
    (own_same hown fun k hk => Below.heap_alloc w _ k (own_lt hown k hk).2) ⟨w.heap.size, 0, none⟩ 1 1 [.int .i64 y, .int .i64 z] hx rfl ?_ ?_ (by unfold maxLen; omega) (by omega) (by simp; omega) ?_
  · intro j u hj
    match j, hj with
    | 0, hj => simp at hj; subst hj; rw [Addr.add_lit, World.cell?_alloc_mark]; rfl
    | 1, hj => simp at hj; subst hj; rw [Addr.add_lit, World.cell?_alloc_mark]; rfl
  · intro u hu
    simp only [List.mem_cons, List.not_mem_nil, or_false] at hu
    rcases hu with rfl | rfl <;> rfl
  · intro v' w' h1 h2 _
    have e : gv (G ++ [(y, z)]) = gv G ++ [.int .i64 y, .int .i64 z] := by rw [gv_append]; rfl
    exact h v' w' (by rw [e]; exact h1) h2
/-- The ranges of rising numbers, the first four of them. -/
def rgN : List (Int × Int) → List Int → List (Int × Int)
  | G, [] => G
  | G, i :: r => match G.getLast? with
    | none => rgN (G ++ [(i, i + 1)]) r
    | some p => if p.2 = i then rgN (G.dropLast ++ [(p.1, i + 1)]) r else if G.length = 4 then G else rgN (G ++ [(i, i + 1)]) r
structure RgI (w1 : World) (L : List Int) (j : Nat) (G : List (Int × Int)) (v : Value) (wr : World) : Prop where
  jl : j ≤ L.length
  own : wr.ownsRow w1.heap.size 48 2 v G.length (gv G)
  be : Below w1.heap.size w1 wr
  g4 : G.length ≤ 4
  eq : rgN [] L = rgN G (L.drop j)
/-- Ranges that were told. -/
def RgP (w : World) (G : List (Int × Int)) (e : Ending) (w' : World) : Prop := ∃ v, e = .returned v ∧ w'.ownsRow w.heap.size 48 2 v G.length (gv G) ∧ Below w.heap.size w w'
theorem RgI.stop {w w1 wr : World} {L : List Int} {j : Nat} {G : List (Int × Int)} {v : Value} (h : RgI w1 L j G v wr) (hb : Below w.heap.size w w1) (he : rgN G (L.drop j) = G) : RgP w (rgN [] L) (.returned v) wr := by
  rw [h.eq, he]
  refine ⟨v, rfl, ?_, hb.trans (h.be.mono hb.size)⟩
  exact ownsRow_base_a h.own hb.size
theorem RgI.more {w1 wr w2 : World} {L : List Int} {j : Nat} {G : List (Int × Int)} {v v' : Value} {i : Int} (h : RgI w1 L j G v wr) (hd : L.drop j = i :: L.drop (j + 1)) (hj : j < L.length) (hn : G.getLast? = none ∨ (∃ p, G.getLast? = some p ∧ p.2 ≠ i) ∧ G.length ≠ 4)
    (ho : w2.ownsRow w1.heap.size 48 2 v' (G.length + 1) (gv (G ++ [(i, i + 1)]))) (hg : (wr.alloc (.cells #[.int .i64 i, .int .i64 (i + 1)] 48)).grownBy w2 v.ownBlock) : RgI w1 L (j + 1) (G ++ [(i, i + 1)]) v' w2 := by
  refine ⟨hj, by rw [List.length_append]; exact ho, ?_, ?_, ?_⟩
  · exact (h.be.trans ((below_allocR wr _).mono h.be.size)).grown hg (Nat.le_trans h.be.size (below_allocR wr _).size) (fun k hk => (own_lt h.own k hk).1)
  · rw [List.length_append]
    rcases hn with e | ⟨_, e⟩
    · rw [List.getLast?_eq_none_iff] at e; subst e; simp
    · have := h.g4; simp; omega
  · rw [h.eq, hd]
    rcases hn with e | ⟨⟨p, e, hp⟩, h4⟩
    · simp only [rgN, e]
    · simp only [rgN, e, if_neg hp, if_neg h4]
theorem gv_last (A : List (Int × Int)) (x y y' : Int) : (gv (A ++ [(x, y)])).set (A.length * 2 + 1) (.int .i64 y') = gv (A ++ [(x, y')]) := by
  rw [gv_append, gv_append, List.set_append_right _ _ (by rw [gv_len]; omega), gv_len, show A.length * 2 + 1 - A.length * 2 = 1 by omega]
  rfl
theorem RgI.grow {w1 wr : World} {L : List Int} {j : Nat} {A : List (Int × Int)} {x i : Int} {g cap : Nat} (h : RgI w1 L j (A ++ [(x, i)]) (.slice (some ⟨g, 0, none⟩) (A.length + 1) cap) wr) (hd : L.drop j = i :: L.drop (j + 1)) (hj : j < L.length) : RgI w1 L (j + 1) (A ++ [(x, i + 1)]) (.slice (some ⟨g, 0, none⟩) (A.length + 1) cap) (wr.setCell ⟨g, A.length * 2 + 1, none⟩ (.int .i64 (i + 1))) := by
  have hown : wr.ownsRow w1.heap.size 48 2 (.slice (some ⟨g, 0, none⟩) (A.length + 1) cap) (A.length + 1) (gv (A ++ [(x, i)])) := by have := h.own; rw [List.length_append] at this; exact this
  refine ⟨hj, ?_, h.be.setCell (by exact (own_lt hown g rfl).1) _, by have := h.g4; rw [List.length_append] at this ⊢; exact this, ?_⟩
  · have := hown.stored (A.length * 2 + 1) (.int .i64 (i + 1))
    rw [gv_last] at this
    rw [List.length_append]
    exact this.1
  · rw [h.eq, hd]
    simp [rgN]
theorem RgI.drew {w1 wr : World} {L : List Int} {j : Nat} {G : List (Int × Int)} {v : Value} (h : RgI w1 L j G v wr) : RgI w1 L j G v wr.drew := ⟨h.jl, h.own, ⟨h.be.os, h.be.tape, h.be.output, h.be.size, h.be.block⟩, h.g4, h.eq⟩
end Go.Proofs.Ytmfciheenemapaa
