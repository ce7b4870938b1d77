/- The parts of blocks that are among more bytes, told one by one. -/
import Derived.Test.YtgffcdldljgiiaaGreatBk1
import Derived.Deep.DeepCutAuto
import Derived.Deep.CutBlock
namespace Go.Proofs.YtgffcdldljgiiaaGreat
open Go.RowKit
attribute [local go_sem] Oper.semAt_some
set_option maxHeartbeats 400000 in
theorem parts_any (p av : Option Addr) (m c : Nat) (w : World) : Calls Tryz.prog 227 #[.pointer p, .slice av m c] w fun e w' =>
    e = .returned (.func (.func 234) #[] #[.pointer (some ⟨w.heap.size + 1, 0, none⟩), .pointer (some ⟨w.heap.size, 0, none⟩)]) ∧ w' = (w.alloc (.cells #[.pointer p] 93)).alloc (.cells #[.slice av m c] 22) := by
  go_enter Tryz.func227, Tryz.ntmps227
  go_wp2
  go_ret
  exact ⟨rfl, rfl⟩
theorem one_cell {w : World} {c : Nat} {v0 : Value} {t : TypeId} (h : w.heap[c]? = some (.cells #[v0] t (0, 0))) : w.cell? ⟨c, 0, none⟩ = some v0 ∧ w.frozen? ⟨c, 0, none⟩ = false := by
  simp [World.cell?, World.frozen?, h]

/-- What holds between two parts. -/
structure PsRel (w : World) (p : Nat) (g : Option Nat) (s : Bs) (bs : List Int) (vb : Value) (bb br : Nat) (J : List Int → World → Prop) (t : Nat) (T : List Int) (s1 : Bs) (wr : World) : Prop where
  tle : t ≤ bs.length
  rd : BR wr p s1 g
  rest : s1.rest = s.rest
  left : s1.left ≤ 255
  seen : s1.seen ≤ s.seen + t
  told : T.length ≤ t
  j : J T wr
  go : bgo s bs = (T ++ (bgo s1 (bs.drop t)).1, (bgo s1 (bs.drop t)).2)
  fr : Fr w wr p none
  bb : wr.heap[bb]? = some (.cells #[vb] 22 (0, 0))
  br : wr.heap[br]? = some (.cells #[.pointer (some ⟨p, 0, none⟩)] 93 (0, 0))
def PsDone (w : World) (p : Nat) (g : Option Nat) (s : Bs) (bs : List Int) (J : List Int → World → Prop) (e : Ending) (W' : World) : Prop :=
  (∃ v, e = .returned v) ∧ J (bgo s bs).1 W' ∧ (∃ g', BR W' p (bgo s bs).2 g' ∧ (g' = g ∨ ∃ k, g' = some k ∧ w.heap.size ≤ k)) ∧ Fr w W' p g
theorem Row.frame {w w' : World} {a : Option Addr} {l : List Int} {p : Nat} (h : Row w a l) (hf : Fr w w' p none) (hn : ∀ x, a = some x → l ≠ [] → x.block ≠ p) : Row w' a l :=
  h.same fun x hx hl => hf.block _ (h.lt x hx hl) (hn x hx hl) (by simp)
section
variable {w : World} {p : Nat} {g : Option Nat} {s : Bs} {bs : List Int} {vb : Value} {bb br : Nat} {J : List Int → World → Prop} {t : Nat} {T : List Int} {s1 : Bs} {wr : World}
/-- The end: all that is left stands behind. -/
theorem PsRel.fin (h : PsRel w p g s bs vb bb br J t T s1 wr) (hJ : ∀ T W W', J T W → W.heap.size ≤ W'.heap.size → (∀ k, w.heap.size ≤ k → k < W.heap.size → W'.heap[k]? = W.heap[k]?) → J T W')
    (hp : p < w.heap.size) (hg : ∀ k, g = some k → k < w.heap.size) (hend : s1.done = true ∨ bs.drop t = []) {v v7 : Value} {w7 : World} {g7 : Option Nat} (hc : BC wr p s1.left s1.done s1.seen v)
    (hs : Sl w7 5 v7 g7 (vals (s1.rest ++ bs.drop t))) (hg7 : g7 = g ∨ ∃ k, g7 = some k ∧ wr.heap.size ≤ k) (hgr : wr.grownBy w7 g) (e : Ending) (he : ∃ v, e = .returned v) : PsDone w p g s bs J e (w7.setCell ⟨p, 3, none⟩ v7) := by
  have hsep := h.rd.sep
  have hb : bgo s1 (bs.drop t) = ([], { s1 with rest := s1.rest ++ bs.drop t }) := by
    rcases hend with hd | hd
    · exact bgo_done hd _
    · rw [hd]; simp [bgo]
  have hgo := h.go
  rw [hb] at hgo
  have hcp : BC w7 p s1.left s1.done s1.seen v := hc.same (hgr.block p hc.lt (fun e => hsep e.symm))
  have hg7p : g7 ≠ some p := by
    rcases hg7 with rfl | ⟨k, rfl, hk⟩
    · exact hsep
    · have := hc.lt; simp; omega
  refine ⟨he, ?_, ⟨g7, ?_, ?_⟩, ?_⟩
  · rw [hgo]
    simp only [List.append_nil]
    refine hJ T wr _ h.j ?_ ?_
    · have := hgr.size; simp [World.setCell]; exact this
    · intro k hk hkr
      rw [Below.heap_setCell _ _ _ _ (by show k ≠ p; omega)]
      exact hgr.block k hkr (fun e => by have := hg k e.symm; omega)
  · rw [hgo]
    exact ⟨v7, hcp.set3 v7, hs.same fun k hk => Below.heap_setCell _ _ _ _ (fun e => hg7p (by rw [hk, e]))⟩
  · rcases hg7 with h1 | ⟨k, h1, hk⟩
    · exact .inl h1
    · exact .inr ⟨k, h1, by have := h.fr.size; omega⟩
  · have f1 : Fr w wr p g := ⟨h.fr.os, h.fr.tape, h.fr.output, h.fr.size, fun k hk h1 _ => h.fr.block k hk h1 (by simp)⟩
    exact (f1.trans (Fr.grown hgr) (.inl rfl)).trans (Fr.set p 3 _ g) (.inl rfl)
/-- A block begins. -/
theorem PsRel.head (h : PsRel w p g s bs vb bb br J t T s1 wr) (hJ : ∀ T W W', J T W → W.heap.size ≤ W'.heap.size → (∀ k, w.heap.size ≤ k → k < W.heap.size → W'.heap[k]? = W.heap[k]?) → J T W')
    (hp : p < w.heap.size) (hby : Bytes bs) (hbbn : w.heap.size ≤ bb) (hbrn : w.heap.size ≤ br) (ht : t < bs.length) (hd : s1.done = false) (h0 : s1.left = 0) {w7 : World}
    (hr : BR w7 p { s1 with left := ((bs.drop t)[0]?.getD 0).toNat, done := decide ((bs.drop t)[0]?.getD 0 = 0), seen := s1.seen + 1 } g) (hf : Fr wr w7 p none) :
    PsRel w p g s bs vb bb br J (t + 1) T { s1 with left := ((bs.drop t)[0]?.getD 0).toNat, done := decide ((bs.drop t)[0]?.getD 0 = 0), seen := s1.seen + 1 } w7 := by
  have hx : bs.drop t = ((bs.drop t)[0]?.getD 0) :: bs.drop (t + 1) := by
    have e := List.drop_eq_getElem_cons ht
    have e0 : (bs.drop t)[0]?.getD 0 = bs[t] := by simp [ht]
    rw [e0]; exact e
  have hxb := (hby.drop t).at 0
  have hsz := h.fr.size
  refine ⟨by omega, hr, h.rest, by show ((bs.drop t)[0]?.getD 0).toNat ≤ 255; omega, by show s1.seen + 1 ≤ _; have := h.seen; omega, by have := h.told; omega, ?_, ?_, h.fr.trans hf (.inl rfl), ?_, ?_⟩
  · refine hJ T wr _ h.j hf.size fun k hk hkr => hf.block k hkr (by omega) (by simp)
  · rw [h.go]
    generalize (bs.drop t)[0]?.getD 0 = x at hx
    rw [hx, bgo_zero hd h0]
  · exact (hf.block bb (lt_of_block h.bb) (by omega) (by simp)).trans h.bb
  · exact (hf.block br (lt_of_block h.br) (by omega) (by simp)).trans h.br
/-- A part of a block, told. -/
theorem PsRel.part (h : PsRel w p g s bs vb bb br J t T s1 wr) (N : Nat) (hN : N ≤ s1.left) (hNt : t + N ≤ bs.length) (hd : s1.done = false) {w7 : World}
    (hr : BR w7 p { s1 with left := s1.left - N, seen := s1.seen + N } g) (hj : J (T ++ (bs.drop t).take N) w7) (hf : Fr w w7 p none) (h1 : w7.heap[bb]? = wr.heap[bb]?) (h2 : w7.heap[br]? = wr.heap[br]?) :
    PsRel w p g s bs vb bb br J (t + N) (T ++ (bs.drop t).take N) { s1 with left := s1.left - N, seen := s1.seen + N } w7 := by
  refine ⟨hNt, hr, h.rest, by show s1.left - N ≤ 255; have := h.left; omega, by show s1.seen + N ≤ _; have := h.seen; omega, ?_, hj, ?_, hf, h1.trans h.bb, h2.trans h.br⟩
  · rw [List.length_append, List.length_take, List.length_drop]; have := h.told; omega
  · rw [h.go, bgo_chunk s1 N (bs.drop t) hd hN (by rw [List.length_drop]; omega), List.drop_drop, List.append_assoc]
end
end Go.Proofs.YtgffcdldljgiiaaGreat
