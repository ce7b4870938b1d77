/- ChunkReads: what lies in memory between the law's steps. -/
import Derived.Test.YtoofpkcgiodfcaaOq2
import Derived.Test.YtoofpkcgiodfcaaBp2
namespace Go.Proofs.Ytoofpkcgiodfcaa
open Go.RowKit
/-- p: the reader; A: all bytes; S: the chunks gathered; T: the pieces told last; O: the caller's own bytes. -/
structure ChM (w : World) (p : Nat) (A : List Int) (S : List Sm) (T : List Pm) (O : List Int) (va v vt vo : Value) (ga go : Option Nat) (BT : Nat) (wr : World) : Prop where
  al : Sl wr 5 va ga (vals A)
  so : Sl wr 5 vo go (vals O)
  row : SmRow wr (p + 1) v S
  mem : SmMem (p + 1) wr S
  pc : PcI BT wr vt T S
  gp : ∀ k, ga = some k → p < k
  op : ∀ k, go = some k → p < k
  ds : ∀ x ∈ S, ∀ k, dblk x.a = some k → ga ≠ some k ∧ go ≠ some k
  dt : ∀ x ∈ T, ∀ k, dblk x.a = some k → (ga ≠ some k ∧ go ≠ some k) ∧ p < k
  ao : ∀ k, ga = some k → go ≠ some k
  pb : p < BT
  be : Below w.heap.size w wr
  pw : w.heap.size ≤ p
  pl : p < wr.heap.size
theorem new_ne {g g' : Option Nat} {n k : Nat} (h : g' = g ∨ ∃ j, g' = some j ∧ n ≤ j) (hk : k < n) (hne : g ≠ some k) : g' ≠ some k := by
  rcases h with e | ⟨j, e, hj⟩
  · rw [e]; exact hne
  · rw [e]; intro hh; cases hh; omega
theorem new_lt {g g' : Option Nat} {n p : Nat} (h : g' = g ∨ ∃ j, g' = some j ∧ n ≤ j) (hp : p < n) (hg : ∀ k, g = some k → p < k) : ∀ k, g' = some k → p < k := by
  intro k hk
  rcases h with e | ⟨j, e, hj⟩
  · exact hg k (by rw [← e]; exact hk)
  · rw [e] at hk; cases hk; omega
section
variable {w : World} {p : Nat} {A : List Int} {S : List Sm} {T : List Pm} {O : List Int} {va v vt vo : Value} {ga go : Option Nat} {BT : Nat} {wr : World}
/-- Nothing but the row of all bytes and the own bytes has changed. -/
theorem ChM.keep (h : ChM w p A S T O va v vt vo ga go BT wr) {w' : World} {A' O' : List Int} {va' vo' : Value} {ga' go' : Option Nat}
    (hk : ∀ k, p ≤ k → k < wr.heap.size → ga ≠ some k → go ≠ some k → w'.heap[k]? = wr.heap[k]?)
    (ha : Sl w' 5 va' ga' (vals A')) (ho : Sl w' 5 vo' go' (vals O'))
    (hga : ga' = ga ∨ ∃ k, ga' = some k ∧ wr.heap.size ≤ k) (hgo : go' = go ∨ ∃ k, go' = some k ∧ wr.heap.size ≤ k) (hao : ∀ k, ga' = some k → go' ≠ some k)
    (hb : Below w.heap.size w w') (hs : wr.heap.size ≤ w'.heap.size) : ChM w p A' S T O' va' v vt vo' ga' go' BT w' := by
  have tagA : ∀ k c t, wr.heap[k]? = some (.cells c t (0, 0)) → t ≠ 5 → ga ≠ some k ∧ go ≠ some k := by
    intro k c t hc ht
    constructor
    · intro e
      obtain ⟨c2, h2⟩ := h.al.tagB k e
      rw [hc] at h2
      simp only [Option.some.injEq, Obj.cells.injEq] at h2
      exact ht h2.2.1
    · intro e
      obtain ⟨c2, h2⟩ := h.so.tagB k e
      rw [hc] at h2
      simp only [Option.some.injEq, Obj.cells.injEq] at h2
      exact ht h2.2.1
  refine ⟨ha, ho, h.row.same fun k hk' => ?_, ⟨fun x hx => ?_, h.mem.2⟩, ⟨h.pc.row.same fun k hk' => ?_, fun x hx => ?_, h.pc.dis⟩, new_lt hga h.pl h.gp, new_lt hgo h.pl h.op, fun x hx k hk' => ?_, fun x hx k hk' => ?_, hao, h.pb, hb, h.pw, Nat.lt_of_lt_of_le h.pl hs⟩
  · obtain ⟨h1, h2, c, h3⟩ := h.row.blk k hk'
    obtain ⟨t1, t2⟩ := tagA k c _ h3 (by decide)
    exact hk k (by omega) h2 t1 t2
  · obtain ⟨h1, h2⟩ := h.mem.1 x hx
    refine ⟨h1.same fun k hk' => ?_, h2⟩
    obtain ⟨t1, t2⟩ := h.ds x hx k hk'
    exact hk k (by have := h2 k hk'; omega) (h1.lt hk') t1 t2
  · obtain ⟨h1, h2, c, h3⟩ := h.pc.row.blk k hk'
    obtain ⟨t1, t2⟩ := tagA k c _ h3 (by decide)
    exact hk k (by have := h.pb; omega) h2 t1 t2
  · have h1 := h.pc.dat x hx
    refine h1.same fun k hk' => ?_
    obtain ⟨⟨t1, t2⟩, t3⟩ := h.dt x hx k hk'
    exact hk k (by omega) (h1.lt hk') t1 t2
  · have hlt := (h.mem.1 x hx).1.lt hk'
    obtain ⟨t1, t2⟩ := h.ds x hx k hk'
    exact ⟨new_ne hga hlt t1, new_ne hgo hlt t2⟩
  · have hlt := (h.pc.dat x hx).lt hk'
    obtain ⟨⟨t1, t2⟩, t3⟩ := h.dt x hx k hk'
    exact ⟨⟨new_ne hga hlt t1, new_ne hgo hlt t2⟩, t3⟩
/-- Nothing old has changed. -/
theorem ChM.old (h : ChM w p A S T O va v vt vo ga go BT wr) {w' : World} (hb : Below wr.heap.size wr w') : ChM w p A S T O va v vt vo ga go BT w' :=
  h.keep (fun k _ hk _ _ => hb.block k hk) (h.al.same fun k hk => hb.block k (h.al.lt hk)) (h.so.same fun k hk => hb.block k (h.so.lt hk)) (.inl rfl) (.inl rfl) h.ao (chainB h.be hb h.be.size) hb.size
/-- The own bytes are made. -/
theorem ChM.copy (h : ChM w p A S T O va v vt vo ga go BT wr) {w' : World} {O' : List Int} {vo' : Value} {go' : Option Nat} (ho : Sl w' 5 vo' go' (vals O')) (hg : ∀ k, go' = some k → wr.heap.size ≤ k) (hb : Below wr.heap.size wr w') : ChM w p A S T O' va v vt vo' ga go' BT w' := by
  have h0 : ChM w p A S T [] va v vt (.slice none 0 0) ga none BT wr := ⟨h.al, Sl.nil _ _, h.row, h.mem, h.pc, h.gp, (by intro k hk; cases hk), fun x hx k hk => ⟨(h.ds x hx k hk).1, by simp⟩, fun x hx k hk => ⟨⟨(h.dt x hx k hk).1.1, by simp⟩, (h.dt x hx k hk).2⟩, (by intro k _; simp), h.pb, h.be, h.pw, h.pl⟩
  refine h0.keep (fun k _ hk _ _ => hb.block k hk) (h.al.same fun k hk => hb.block k (h.al.lt hk)) ho (.inl rfl) ?_ (fun k hk e => ?_) (chainB h.be hb h.be.size) hb.size
  · cases go' with
    | none => exact .inl rfl
    | some k => exact .inr ⟨k, rfl, hg k rfl⟩
  · have := hg k e
    have := h.al.lt hk
    omega
/-- The own bytes are written over. -/
theorem ChM.over {b : Nat} (h : ChM w p A S T O va v vt vo ga (some b) BT wr) {i : Nat} {u : Value} {O' : List Int} (ho : Sl (wr.setCell ⟨b, i, none⟩ u) 5 vo (some b) (vals O')) : ChM w p A S T O' va v vt vo ga (some b) BT (wr.setCell ⟨b, i, none⟩ u) := by
  have kp : ∀ k, k ≠ b → (wr.setCell ⟨b, i, none⟩ u).heap[k]? = wr.heap[k]? := fun k hk => Below.heap_setCell _ _ _ _ hk
  refine h.keep (fun k _ _ _ hk => kp k (fun e => hk (by rw [e]))) (h.al.same fun k hk => kp k (fun e => h.ao k hk (by rw [e]))) ho (.inl rfl) (.inl rfl) h.ao (h.be.trans ⟨rfl, rfl, rfl, by simp [World.setCell], fun q hq => kp q ?_⟩) (by simp [World.setCell])
  have := h.op b rfl
  have := h.pw
  omega
/-- All bytes grow. -/
theorem ChM.all (h : ChM w p A S T O va v vt vo ga go BT wr) {w' : World} {A' : List Int} {va' : Value} {ga' : Option Nat} (ha : Sl w' 5 va' ga' (vals A')) (hga : ga' = ga ∨ ∃ k, ga' = some k ∧ wr.heap.size ≤ k) (hg : wr.grownBy w' ga) : ChM w p A' S T O va' v vt vo ga' go BT w' := by
  refine h.keep (fun k _ hk h1 _ => hg.block k hk (fun e => h1 e.symm)) ha (h.so.same fun k hk => hg.block k (h.so.lt hk) (fun e => h.ao k e.symm hk)) hga (.inl rfl) (fun k hk e => ?_) (h.be.grown hg h.be.size (fun k hk => by have := h.gp k hk; have := h.pw; omega)) hg.size
  exact new_ne hga (h.so.lt e) (fun e2 => h.ao k e2 e) hk
/-- A push: pieces are told. -/
theorem ChM.push (h : ChM w p A S T O va v vt vo ga go BT wr) {w' : World} {vt' : Value} {T' : List Pm} (hpr : PmRow w' wr.heap.size vt' T') (htok : PmOk wr.heap.size w' none T') (hfr : Fr wr w' p none) : ChM w p A S T' O va v vt' vo ga go wr.heap.size w' := by
  have hkeep : ∀ k, p < k → k < wr.heap.size → w'.heap[k]? = wr.heap[k]? := fun k h1 h2 => hfr.block k h2 (by omega) (by simp)
  have hnew : ∀ x ∈ T', Sl w' 5 (.slice x.a x.q.data.length x.c) (dblk x.a) (vals x.q.data) ∧ ∀ k, dblk x.a = some k → wr.heap.size ≤ k := by
    intro x hx
    obtain ⟨k0, h1, h2⟩ := htok x hx
    have e := h1.dblk
    rw [← e]
    exact ⟨h1, fun k hk => (h2 k hk).1⟩
  refine ⟨h.al.same fun k hk => hkeep k (h.gp k hk) (h.al.lt hk), h.so.same fun k hk => hkeep k (h.op k hk) (h.so.lt hk), h.row.same fun k hk => hkeep k (h.row.blk k hk).1 (h.row.blk k hk).2.1, ⟨fun x hx => ?_, h.mem.2⟩, ⟨hpr, fun x hx => (hnew x hx).1, fun x hx y hy k hk e => ?_⟩, h.gp, h.op, h.ds, fun x hx k hk => ?_, h.ao, h.pl, ?_, h.pw, Nat.lt_of_lt_of_le h.pl hfr.size⟩
  · obtain ⟨h1, h2⟩ := h.mem.1 x hx
    exact ⟨h1.same fun k hk => hkeep k (h2 k hk) (h1.lt hk), h2⟩
  · have h3 := (hnew x hx).2 k hk
    have h4 := (h.mem.1 y hy).1.lt e
    omega
  · have h3 := (hnew x hx).2 k hk
    refine ⟨⟨fun e => ?_, fun e => ?_⟩, by have := h.pl; omega⟩
    · have := h.al.lt e; omega
    · have := h.so.lt e; omega
  · exact ⟨hfr.os.trans h.be.os, hfr.tape.trans h.be.tape, hfr.output.trans h.be.output, Nat.le_trans h.be.size hfr.size, fun k hk => (hfr.block k (by have := h.be.size; omega) (by have := h.pw; omega) (by simp)).trans (h.be.block k hk)⟩
end
/-- What the pieces told, gathered. -/
theorem ChM.gather {w : World} {p : Nat} {A : List Int} {S : List Sm} {T : List Pm} {O : List Int} {va vo : Value} {ga go : Option Nat} {BT : Nat} {wr : World} {al at' : Option Addr} {n cl ct : Nat} {G : List Sn} (h : ChM w p A S T O va (.slice al n cl) (.slice at' T.length ct) vo ga go BT wr)
    (hn : S.length + T.length ≤ 1000000) (hdl : ∀ x ∈ S, x.s.data.length ≤ 1000000000) (htl : ∀ x ∈ T, x.q.data.length ≤ 1000000) (hg : gath (S.map Sm.s) (T.map Pm.q) = some G) :
    Calls Try.prog 13 #[.slice al n cl, .slice at' T.length ct] wr fun e w' => ∃ v' S', e = .returned (.tuple #[v', .bool true]) ∧ S'.map Sm.s = G ∧ ChM w p A S' [] O va v' (.slice none 0 0) vo ga go BT w' ∧ w'.heap[p]? = wr.heap[p]? ∧ FrS wr w' (Value.slice al n cl).ownBlock S := by
  have hpl := h.pl
  obtain ⟨a2, c2, hv, _⟩ := h.row.shape
  simp only [Value.slice.injEq] at hv
  obtain ⟨-, rfl, -⟩ := hv
  refine (lgather_any (p + 1) BT al at' cl ct S T G wr h.row h.mem (by omega) h.pc hn hdl htl hg _ rfl).mono ?_
  rintro e w' ⟨v', S', rfl, hm, hga⟩
  have tag : ∀ k c, wr.heap[k]? = some (.cells c 5 (0, 0)) → (Value.slice al S.length cl).ownBlock ≠ some k := by
    intro k c hc e
    obtain ⟨_, _, c2, h2⟩ := h.row.blk k e
    rw [hc] at h2
    simp at h2
  have keep : ∀ k, (∃ c, wr.heap[k]? = some (.cells c 5 (0, 0))) → k < wr.heap.size → (∀ x ∈ S, dblk x.a ≠ some k) → w'.heap[k]? = wr.heap[k]? := fun k ⟨c, hc⟩ h1 h2 => hga.fr.block k h1 (tag k c hc) h2
  refine ⟨v', S', rfl, hm, ⟨h.al.same fun k hk => ?_, h.so.same fun k hk => ?_, hga.row, hga.mem, ⟨World.ownsRow_nil _ _ _ _, (fun x hx => by cases hx), fun x hx => by cases hx⟩, h.gp, h.op, fun x hx k hk => ?_, (fun x hx => by cases hx), h.ao, h.pb, h.be.trans (hga.be.mono (by have := h.pw; omega)), h.pw, Nat.lt_of_lt_of_le hpl hga.be.size⟩, hga.be.block p (by omega), hga.fr⟩
  · exact keep k (h.al.tagB k hk) (h.al.lt hk) (fun x hx e => (h.ds x hx k e).1 hk)
  · exact keep k (h.so.tagB k hk) (h.so.lt hk) (fun x hx e => (h.ds x hx k e).2 hk)
  · rcases hga.old x hx k hk with ⟨y, hy, e⟩ | hge
    · exact h.ds y hy k e
    · refine ⟨fun e => ?_, fun e => ?_⟩
      · have := h.al.lt e; omega
      · have := h.so.lt e; omega
/-- What the document's reading gave lies there still. -/
theorem OfM.after {w0 wr w' : World} {S W : List Sm} {v v0 : Value} {p : Nat} (h : OfM w0 W v wr) (hr : SmRow w0 p v0 S) (hm : SmMem p w0 S) (hf : FrS wr w' v0.ownBlock S) : SmRow w' w0.heap.size v W ∧ ∀ x ∈ W, Row w' x.a x.s.data := by
  have kp : ∀ k, w0.heap.size ≤ k → k < wr.heap.size → w'.heap[k]? = wr.heap[k]? := fun k h1 h2 => hf.block k h2 (fun e => by have := (hr.blk k e).2.1; omega) (fun x hx e => by have := (hm.1 x hx).1.lt e; omega)
  refine ⟨h.row.same fun k hk => ?_, fun x hx => ?_⟩
  · obtain ⟨h1, h2, _⟩ := h.row.blk k hk
    exact kp k h1 h2
  · obtain ⟨g, h1, h2⟩ := h.dat x hx
    exact (h1.same fun k hk => kp k (h2 k hk) (h1.lt hk)).row rfl
end Go.Proofs.Ytoofpkcgiodfcaa
