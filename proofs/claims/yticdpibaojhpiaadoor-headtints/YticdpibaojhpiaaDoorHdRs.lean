/- A table of colours is read: the reference's ReadTints, walked. -/
import Derived.Test.YticdpibaojhpiaaDoorHdQ
import Derived.Deep.RegionLaw
namespace Go.Proofs.YticdpibaojhpiaaDoor
open Go.RowKit
theorem step_tint {w : World} {ops : Array Oper} {o : Oper} {a : Act} {K : Act → World → Prop} {Q : Exit → Act → World → Prop} {E : Prop} (hgd : o.guard = none) (s x : Operand)
    (ho : o.op = .call { callee := .builtin .append, args := #[s, x], argTypes := #[35, 35] })
    (base : Nat) (v : Value) (n : Nat) (xs : List Value) (hs : a.eval s = v) (hown : w.ownsRow base 59 3 v n xs)
    (ad : Addr) (news : List Value) (hx : a.eval x = .slice (some ad) 1 1) (hl : news.length = 3) (hnews : ∀ j u, news[j]? = some u → w.cell? (ad.add j) = some u) (h1 : ∀ u ∈ news, u.oneCell' = true) (hn : n ≤ 65536) (hbase : base ≤ w.heap.size)
    (h : ∀ v' w', w'.ownsRow base 59 3 v' (n + 1) (xs ++ news) → w.grownBy w' v.ownBlock → K (a.put o.dst v') w') : if Region.wanted o (yielded ops a.tmps) = true then Oper.wp Tryd.prog o a w K Q else E := by
  obtain ⟨i0, hi, hz0, hz1, hz2⟩ := info_parts Tryd.info59
  refine step_of_list hgd (wpList_append_own w hgd s x _ ho base 59 i0 (.agg #[.int .u8 0, .int .u8 0, .int .u8 0]) 3 3 Tryd.underlying35 hi hz0 hz1 hz2 rfl (by decide) v n xs hs hown ad 1 1 news hx (by rw [hl]) hnews h1 (by unfold maxLen; omega) (by omega) hbase ?_)
  intro v' w' h2 h3 _
  exact ⟨rfl, h v' w' h2 h3⟩
theorem own_shape {w : World} {base e size : Nat} {v : Value} {n : Nat} {xs : List Value} (h : w.ownsRow base e size v n xs) : ∃ a cap, v = .slice a n cap := by
  rcases h.2 with ⟨rfl, rfl⟩ | ⟨g, cap, cur, rfl, _⟩
  · exact ⟨none, 0, rfl⟩
  · exact ⟨_, cap, rfl⟩
theorem own_rowT {w : World} {base : Nat} {a : Option Addr} {n cap : Nat} {b : List Int} (h : w.ownsRow base 59 3 (.slice a n cap) n (vals b)) : Row w a b := by
  have hlen := h.1
  rw [vals_len] at hlen
  rcases h.2 with ⟨e, hn⟩ | ⟨g, cap', cur, e, _⟩
  · subst hn; exact .inl (List.length_eq_zero_iff.1 (by omega))
  · simp only [Value.slice.injEq] at e
    obtain ⟨rfl, _, _⟩ := e
    refine .inr ⟨g, 0, rfl, fun i hi => ?_⟩
    rw [Nat.zero_add, h.cellAt i (by omega), vals_at b i hi]
theorem tint_next {w wr w7 : World} {B j : Nat} {b : List Int} {x y z : Int} {v v7 : Value} (hO : wr.ownsRow B 59 3 v j (vals (b.take (3 * j)))) (hb : Below B w wr) (hs : B ≤ wr.heap.size) (hU : b.take (3 * (j + 1)) = b.take (3 * j) ++ [x, y, z])
    (h7 : w7.ownsRow B 59 3 v7 (j + 1) (vals (b.take (3 * j)) ++ [.int .u8 x, .int .u8 y, .int .u8 z])) (hg : ((wr.drewN 1).alloc (.cells #[.int .u8 x, .int .u8 y, .int .u8 z] 59)).grownBy w7 v.ownBlock) : w7.ownsRow B 59 3 v7 (j + 1) (vals (b.take (3 * (j + 1)))) ∧ Below B w w7 := by
  have h0 : Below B w (wr.drewN 1) := ⟨hb.os, hb.tape, hb.output, hb.size, hb.block⟩
  have hs0 : B ≤ (wr.drewN 1).heap.size := hs
  have hba := h0.alloc hs0 (.cells #[.int .u8 x, .int .u8 y, .int .u8 z] 59)
  refine ⟨?_, hba.grown hg (by simp; omega) fun k hk => (hO.lt k hk).1⟩
  rw [hU, vals_append]; exact h7
end Go.Proofs.YticdpibaojhpiaaDoor
