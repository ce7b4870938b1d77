/- ChunkReads: what lies in memory between the law's steps. -/
import Derived.Test.YtoofpkcgiodfcaaOq2
namespace Go.Proofs.Ytoofpkcgiodfcaa
open Go.RowKit

/-- p: the reader; A: all bytes; S: the chunks gathered; T: the pieces told last; O: the caller's own bytes. -/
structure ChM (w : World) (p : Nat) (A : List Int) (S : List Sm) (T : List Pm) (O : List Int) (va v vt vo : Value) (ga go : Option Nat) (BT : Nat) (wr : World) : Prop where
  al : Sl wr 5 va ga (vals A)
  so : Sl wr 5 vo go (vals O)
  row : SmRow wr (p + 1) v S
  mem : SmMem (p + 1) wr S
  pc : PcI BT wr vt T S
  gp : ∀ k, ga = some k → p < k
  op : ∀ k, go = some k → p < k
  ds : ∀ x ∈ S, ∀ k, dblk x.a = some k → ga ≠ some k ∧ go ≠ some k
  dt : ∀ x ∈ T, ∀ k, dblk x.a = some k → (ga ≠ some k ∧ go ≠ some k) ∧ p < k
  ao : ∀ k, ga = some k → go ≠ some k
  pb : p < BT
  be : Below w.heap.size w wr
  pw : w.heap.size ≤ p
  pl : p < wr.heap.size
theorem new_ne {g g' : Option Nat} {n k : Nat} (h : g' = g ∨ ∃ j, g' = some j ∧ n ≤ j) (hk : k < n) (hne : g ≠ some k) : g' ≠ some k := by
  rcases h with e | ⟨j, e, hj⟩
  · rw [e]; exact hne
  · rw [e]; intro hh; cases hh; omega
theorem new_lt {g g' : Option Nat} {n p : Nat} (h : g' = g ∨ ∃ j, g' = some j ∧ n ≤ j) (hp : p < n) (hg : ∀ k, g = some k → p < k) : ∀ k, g' = some k → p < k := by
  intro k hk
  rcases h with e | ⟨j, e, hj⟩
  · exact hg k (by rw [← e]; exact hk)
  · rw [e] at hk; cases hk; omega
section
variable {w : World} {p : Nat} {A : List Int} {S : List Sm} {T : List Pm} {O : List Int} {va v vt vo : Value} {ga go : Option Nat} {BT : Nat} {wr : World}
/-- Nothing but the row of all bytes and the own bytes has changed. -/
theorem ChM.keep (h : ChM w p A S T O va v vt vo ga go BT wr) {w' : World} {A' O' : List Int} {va' vo' : Value} {ga' go' : Option Nat}
    (hk : ∀ k, p ≤ k → k < wr.heap.size → ga ≠ some k → go ≠ some k → w'.heap[k]? = wr.heap[k]?)
    (ha : Sl w' 5 va' ga' (vals A')) (ho : Sl w' 5 vo' go' (vals O'))
    (hga : ga' = ga ∨ ∃ k, ga' = some k ∧ wr.heap.size ≤ k) (hgo : go' = go ∨ ∃ k, go' = some k ∧ wr.heap.size ≤ k) (hao : ∀ k, ga' = some k → go' ≠ some k)
    (hb : Below w.heap.size w w') (hs : wr.heap.size ≤ w'.heap.size) : ChM w p A' S T O' va' v vt vo' ga' go' BT w' := by
  have tagA : ∀ k c t, wr.heap[k]? = some (.cells c t (0, 0)) → t ≠ 5 → ga ≠ some k ∧ go ≠ some k := by
    intro k c t hc ht
    constructor
    · intro e
      obtain ⟨c2, h2⟩ := h.al.tagB k e
      rw [hc] at h2
      simp only [Option.some.injEq, Obj.cells.injEq] at h2
      exact ht h2.2.1
    · intro e
      obtain ⟨c2, h2⟩ := h.so.tagB k e
      rw [hc] at h2
      simp only [Option.some.injEq, Obj.cells.injEq] at h2
      exact ht h2.2.1
  refine ⟨ha, ho, h.row.same fun k hk' => ?_, ⟨fun x hx => ?_, h.mem.2⟩, ⟨h.pc.row.same fun k hk' => ?_, fun x hx => ?_, h.pc.dis⟩, new_lt hga h.pl h.gp, new_lt hgo h.pl h.op, fun x hx k hk' => ?_, fun x hx k hk' => ?_, hao, h.pb, hb, h.pw, Nat.lt_of_lt_of_le h.pl hs⟩
  · obtain ⟨h1, h2, c, h3⟩ := h.row.blk k hk'
    obtain ⟨t1, t2⟩ := tagA k c _ h3 (by decide)
    exact hk k (by omega) h2 t1 t2
  · obtain ⟨h1, h2⟩ := h.mem.1 x hx
    refine ⟨h1.same fun k hk' => ?_, h2⟩
    obtain ⟨t1, t2⟩ := h.ds x hx k hk'
    exact hk k (by have := h2 k hk'; omega) (h1.lt hk') t1 t2
  · obtain ⟨h1, h2, c, h3⟩ := h.pc.row.blk k hk'
    obtain ⟨t1, t2⟩ := tagA k c _ h3 (by decide)
    exact hk k (by have := h.pb; omega) h2 t1 t2
  · have h1 := h.pc.dat x hx
    refine h1.same fun k hk' => ?_
    obtain ⟨⟨t1, t2⟩, t3⟩ := h.dt x hx k hk'
    exact hk k (by omega) (h1.lt hk') t1 t2
  · have hlt := (h.mem.1 x hx).1.lt hk'
    obtain ⟨t1, t2⟩ := h.ds x hx k hk'
    exact ⟨new_ne hga hlt t1, new_ne hgo hlt t2⟩
  · have hlt := (h.pc.dat x hx).lt hk'
    obtain ⟨⟨t1, t2⟩, t3⟩ := h.dt x hx k hk'
    exact ⟨⟨new_ne hga hlt t1, new_ne hgo hlt t2⟩, t3⟩
/-- Nothing old has changed. -/
theorem ChM.old (h : ChM w p A S T O va v vt vo ga go BT wr) {w' : World} (hb : Below wr.heap.size wr w') : ChM w p A S T O va v vt vo ga go BT w' :=
  h.keep (fun k _ hk _ _ => hb.block k hk) (h.al.same fun k hk => hb.block k (h.al.lt hk)) (h.so.same fun k hk => hb.block k (h.so.lt hk)) (.inl rfl) (.inl rfl) h.ao (chainB h.be hb h.be.size) hb.size
/-- The own bytes are made. -/
theorem ChM.copy (h : ChM w p A S T O va v vt vo ga go BT wr) {w' : World} {O' : List Int} {vo' : Value} {go' : Option Nat} (ho : Sl w' 5 vo' go' (vals O')) (hg : ∀ k, go' = some k → wr.heap.size ≤ k) (hb : Below wr.heap.size wr w') : ChM w p A S T O' va v vt vo' ga go' BT w' := by
  have h0 : ChM w p A S T [] va v vt (.slice none 0 0) ga none BT wr := ⟨h.al, Sl.nil _ _, h.row, h.mem, h.pc, h.gp, (by intro k hk; cases hk), fun x hx k hk => ⟨(h.ds x hx k hk).1, by simp⟩, fun x hx k hk => ⟨⟨(h.dt x hx k hk).1.1, by simp⟩, (h.dt x hx k hk).2⟩, (by intro k _; simp), h.pb, h.be, h.pw, h.pl⟩
  refine h0.keep (fun k _ hk _ _ => hb.block k hk) (h.al.same fun k hk => hb.block k (h.al.lt hk)) ho (.inl rfl) ?_ (fun k hk e => ?_) (chainB h.be hb h.be.size) hb.size
  · cases go' with
    | none => exact .inl rfl
    | some k => exact .inr ⟨k, rfl, hg k rfl⟩
  · have := hg k e
    have := h.al.lt hk
    omega
/-- The own bytes are written over. -/
theorem ChM.over {b : Nat} (h : ChM w p A S T O va v vt vo ga (some b) BT wr) {i : Nat} {u : Value} {O' : List Int} (ho : Sl (wr.setCell ⟨b, i, none⟩ u) 5 vo (some b) (vals O')) : ChM w p A S T O' va v vt vo ga (some b) BT (wr.setCell ⟨b, i, none⟩ u) := by
  have kp : ∀ k, k ≠ b → (wr.setCell ⟨b, i, none⟩ u).heap[k]? = wr.heap[k]? := fun k hk => Below.heap_setCell _ _ _ _ hk
  refine h.keep (fun k _ _ _ hk => kp k (fun e => hk (by rw [e]))) (h.al.same fun k hk => kp k (fun e => h.ao k hk (by rw [e]))) ho (.inl rfl) (.inl rfl) h.ao (h.be.trans ⟨rfl, rfl, rfl, by simp [World.setCell], fun q hq => kp q ?_⟩) (by simp [World.setCell])
  have := h.op b rfl
  have := h.pw
  omega
/-- All bytes grow. -/
theorem ChM.all (h : ChM w p A S T O va v vt vo ga go BT wr) {w' : World} {A' : List Int} {va' : Value} {ga' : Option Nat} (ha : Sl w' 5 va' ga' (vals A')) (hga : ga' = ga ∨ ∃ k, ga' = some k ∧ wr.heap.size ≤ k) (hg : wr.grownBy w' ga) : ChM w p A' S T O va' v vt vo ga' go BT w' := by
  refine h.keep (fun k _ hk h1 _ => hg.block k hk (fun e => h1 e.symm)) ha (h.so.same fun k hk => hg.block k (h.so.lt hk) (fun e => h.ao k e.symm hk)) hga (.inl rfl) (fun k hk e => ?_) (h.be.grown hg h.be.size (fun k hk => by have := h.gp k hk; have := h.pw; omega)) hg.size
  exact new_ne hga (h.so.lt e) (fun e2 => h.ao k e2 e) hk
/-- A push: pieces are told. -/
theorem ChM.push (h : ChM w p A S T O va v vt vo ga go BT wr) {w' : World} {vt' : Value} {T' : List Pm} (hpr : PmRow w' wr.heap.size vt' T') (htok : PmOk wr.heap.size w' none T') (hfr : Fr wr w' p none) : ChM w p A S T' O va v vt' vo ga go wr.heap.size w' := by
  have hkeep : ∀ k, p < k → k < wr.heap.size → w'.heap[k]? = wr.heap[k]? := fun k h1 h2 => hfr.block k h2 (by omega) (by simp)
  have hnew : ∀ x ∈ T', Sl w' 5 (.slice x.a x.q.data.length x.c) (dblk x.a) (vals x.q.data) ∧ ∀ k, dblk x.a = some k → wr.heap.size ≤ k := by
    intro x hx
    obtain ⟨k0, h1, h2⟩ := htok x hx
    have e := h1.dblk
    rw [← e]
    exact ⟨h1, fun k hk => (h2 k hk).1⟩
  refine ⟨h.al.same fun k hk => hkeep k (h.gp k hk) (h.al.lt hk), h.so.same fun k hk => hkeep k (h.op k hk) (h.so.lt hk), h.row.same fun k hk => hkeep k (h.row.blk k hk).1 (h.row.blk k hk).2.1, ⟨fun x hx => ?_, h.mem.2⟩, ⟨hpr, fun x hx => (hnew x hx).1, fun x hx y hy k hk e => ?_⟩, h.gp, h.op, h.ds, fun x hx k hk => ?_, h.ao, h.pl, ?_, h.pw, Nat.lt_of_lt_of_le h.pl hfr.size⟩
  · obtain ⟨h1, h2⟩ := h.mem.1 x hx
    exact ⟨h1.same fun k hk => hkeep k (h2 k hk) (h1.lt hk), h2⟩
  · have h3 := (hnew x hx).2 k hk
    have h4 := (h.mem.1 y hy).1.lt e
    omega
  · have h3 := (hnew x hx).2 k hk
    refine ⟨⟨fun e => ?_, fun e => ?_⟩, by have := h.pl; omega⟩
    · have := h.al.lt e; omega
    · have := h.so.lt e; omega
  · exact ⟨hfr.os.trans h.be.os, hfr.tape.trans h.be.tape, hfr.output.trans h.be.output, Nat.le_trans h.be.size hfr.size, fun k hk => (hfr.block k (by have := h.be.size; omega) (by have := h.pw; omega) (by simp)).trans (h.be.block k hk)⟩
end
/-- What the pieces told, gathered. -/
theorem ChM.gather {w : World} {p : Nat} {A : List Int} {S : List Sm} {T : List Pm} {O : List Int} {va vo : Value} {ga go : Option Nat} {BT : Nat} {wr : World} {al at' : Option Addr} {n cl ct : Nat} {G : List Sn} (h : ChM w p A S T O va (.slice al n cl) (.slice at' T.length ct) vo ga go BT wr)
    (hn : S.length + T.length ≤ 1000000) (hdl : ∀ x ∈ S, x.s.data.length ≤ 1000000000) (htl : ∀ x ∈ T, x.q.data.length ≤ 1000000) (hg : gath (S.map Sm.s) (T.map Pm.q) = some G) :
    Calls Try.prog 13 #[.slice al n cl, .slice at' T.length ct] wr fun e w' => ∃ v' S', e = .returned (.tuple #[v', .bool true]) ∧ S'.map Sm.s = G ∧ ChM w p A S' [] O va v' (.slice none 0 0) vo ga go BT w' ∧ w'.heap[p]? = wr.heap[p]? ∧ FrS wr w' (Value.slice al n cl).ownBlock S := by
  have hpl := h.pl
  obtain ⟨a2, c2, hv, _⟩ := h.row.shape
  simp only [Value.slice.injEq] at hv
  obtain ⟨-, rfl, -⟩ := hv
  refine (lgather_any (p + 1) BT al at' cl ct S T G wr h.row h.mem (by omega) h.pc hn hdl htl hg _ rfl).mono ?_
  rintro e w' ⟨v', S', rfl, hm, hga⟩
  have tag : ∀ k c, wr.heap[k]? = some (.cells c 5 (0, 0)) → (Value.slice al S.length cl).ownBlock ≠ some k := by
    intro k c hc e
    obtain ⟨_, _, c2, h2⟩ := h.row.blk k e
    rw [hc] at h2
    simp at h2
  have keep : ∀ k, (∃ c, wr.heap[k]? = some (.cells c 5 (0, 0))) → k < wr.heap.size → (∀ x ∈ S, dblk x.a ≠ some k) → w'.heap[k]? = wr.heap[k]? := fun k ⟨c, hc⟩ h1 h2 => hga.fr.block k h1 (tag k c hc) h2
  refine ⟨v', S', rfl, hm, ⟨h.al.same fun k hk => ?_, h.so.same fun k hk => ?_, hga.row, hga.mem, ⟨World.ownsRow_nil _ _ _ _, (fun x hx => by cases hx), fun x hx => by cases hx⟩, h.gp, h.op, fun x hx k hk => ?_, (fun x hx => by cases hx), h.ao, h.pb, h.be.trans (hga.be.mono (by have := h.pw; omega)), h.pw, Nat.lt_of_lt_of_le hpl hga.be.size⟩, hga.be.block p (by omega), hga.fr⟩
  · exact keep k (h.al.tagB k hk) (h.al.lt hk) (fun x hx e => (h.ds x hx k e).1 hk)
  · exact keep k (h.so.tagB k hk) (h.so.lt hk) (fun x hx e => (h.ds x hx k e).2 hk)
  · rcases hga.old x hx k hk with ⟨y, hy, e⟩ | hge
    · exact h.ds y hy k e
    · refine ⟨fun e => ?_, fun e => ?_⟩
      · have := h.al.lt e; omega
      · have := h.so.lt e; omega
/-- What the document's reading gave lies there still. -/
theorem OfM.after {w0 wr w' : World} {S W : List Sm} {v v0 : Value} {p : Nat} (h : OfM w0 W v wr) (hr : SmRow w0 p v0 S) (hm : SmMem p w0 S) (hf : FrS wr w' v0.ownBlock S) : SmRow w' w0.heap.size v W ∧ ∀ x ∈ W, Row w' x.a x.s.data := by
  have kp : ∀ k, w0.heap.size ≤ k → k < wr.heap.size → w'.heap[k]? = wr.heap[k]? := fun k h1 h2 => hf.block k h2 (fun e => by have := (hr.blk k e).2.1; omega) (fun x hx e => by have := (hm.1 x hx).1.lt e; omega)
  refine ⟨h.row.same fun k hk => ?_, fun x hx => ?_⟩
  · obtain ⟨h1, h2, _⟩ := h.row.blk k hk
    exact kp k h1 h2
  · obtain ⟨g, h1, h2⟩ := h.dat x hx
    exact (h1.same fun k hk => kp k (h2 k hk) (h1.lt hk)).row rfl
/-- What a push told, beside what the document reads in A. -/
def ChR (w : World) (p : Nat) (A : List Int) (G0 : List Sn) (T : List Pm) (er : Int) : Prop :=
  (er = 0 ∧ ∃ L now cur, CRd w p A L now cur ∧ gath G0 (T.map Pm.q) = some (L ++ here now cur)) ∨
  ((er = 3 ∨ er = 4 ∨ er = 9) ∧ CBad w p er ∧ ∃ W, ofAll A = (W, er) ∧ gath G0 (T.map Pm.q) = some W)
/-- Where the reader stands between two pushes. -/
def ChB (w : World) (p : Nat) (A : List Int) (G : List Sn) (bad : Bool) : Prop :=
  (bad = false ∧ ∃ L now cur, CRd w p A L now cur ∧ G = L ++ here now cur) ∨
  (bad = true ∧ ∃ er, (er = 3 ∨ er = 4 ∨ er = 9) ∧ CBad w p er ∧ ofAll A = (G, er))
theorem ChR.same {w w' : World} {p : Nat} {A : List Int} {G0 : List Sn} {T : List Pm} {er : Int} (h : ChR w p A G0 T er) (hs : w'.heap[p]? = w.heap[p]?) : ChR w' p A G0 T er := by
  rcases h with ⟨h0, L, now, cur, h1, h2⟩ | ⟨h0, h1, h2⟩
  · exact .inl ⟨h0, L, now, cur, h1.same hs, h2⟩
  · exact .inr ⟨h0, h1.same hs, h2⟩
theorem ChB.same {w w' : World} {p : Nat} {A : List Int} {G : List Sn} {bad : Bool} (h : ChB w p A G bad) (hs : w'.heap[p]? = w.heap[p]?) : ChB w' p A G bad := by
  rcases h with ⟨h0, L, now, cur, h1, h2⟩ | ⟨h0, er, h1, h2, h3⟩
  · exact .inl ⟨h0, L, now, cur, h1.same hs, h2⟩
  · exact .inr ⟨h0, er, h1, h2.same hs, h3⟩
/-- The document's error f, and what is gathered. -/
theorem ChR.says {w : World} {p : Nat} {A : List Int} {G0 : List Sn} {T : List Pm} {er : Int} (h : ChR w p A G0 T er) : ∃ G f, ofAll A = (G, f) ∧ gath G0 (T.map Pm.q) = some G ∧ ((er = 0 ∧ (f = 0 ∨ f = 2)) ∨ (er = f ∧ (f = 3 ∨ f = 4 ∨ f = 9))) ∧ (∀ w', w'.heap[p]? = w.heap[p]? → ChB w' p A G (decide (er ≠ 0))) ∧
    ∀ w', w'.heap[p]? = w.heap[p]? → Calls Try.prog 12 #[.pointer (some ⟨p, 0, none⟩)] w' fun e w2 => e = .returned (.bool (decide (f = 0))) ∧ w2 = w' := by
  rcases h with ⟨rfl, L, now, cur, h1, h2⟩ | ⟨h0, h1, W, h2, h3⟩
  · refine ⟨_, _, h1.2.1.say h1.1, h2, .inl ⟨rfl, ?_⟩, fun w' hw => .inl ⟨by simp, L, now, cur, h1.same hw, rfl⟩, fun w' hw => ?_⟩
    · split
      · exact .inl rfl
      · exact .inr rfl
    · refine (between_any (h1.same hw)).mono ?_
      rintro e w2 ⟨rfl, hw2⟩
      refine ⟨?_, hw2⟩
      by_cases hc : now = 1 ∧ cur = []
      · simp [hc]
      · simp [hc]
  · have hne : er ≠ 0 := by rcases h0 with h | h | h <;> omega
    refine ⟨W, er, h2, h3, .inr ⟨rfl, h0⟩, fun w' hw => .inr ⟨by simpa using hne, er, h0, h1.same hw, h2⟩, fun w' hw => ?_⟩
    refine (between_bad (h1.same hw) hne).mono ?_
    rintro e w2 ⟨rfl, hw2⟩
    exact ⟨by simp [hne], hw2⟩
/-- A push of the own bytes z. -/
theorem ChM.pushes {w : World} {p : Nat} {A : List Int} {S : List Sm} {z : List Int} {va v : Value} {ga go : Option Nat} {BT FL co : Nat} {ao : Option Addr} {wr : World} {bad : Bool} (h : ChM w p A S [] z va v (.slice none 0 0) (.slice ao FL co) ga go BT wr) (hb : ChB wr p A (S.map Sm.s) bad) (hz : Bytes z) (hzl : z.length = FL) (hzb : FL ≤ 600) :
    Calls Try.prog 10 #[.pointer (some ⟨p, 0, none⟩), .slice ao FL co] wr fun e w' => ∃ at' ct T er, e = .returned (.tuple #[.slice at' T.length ct, .int .i64 er]) ∧ ChM w p A S T z va v (.slice at' T.length ct) (.slice ao FL co) ga go wr.heap.size w' ∧ ChR w' p (if bad = true then A else A ++ z) (S.map Sm.s) T er ∧ (bad = true → T = []) ∧ T.length ≤ 601 := by
  rcases hb with ⟨rfl, L, now, cur, h1, h2⟩ | ⟨rfl, er, h0, h1, h2⟩
  · obtain ⟨a1, c1, hv, hl, hm, hn⟩ := h.so.shape
    rw [vals_len, hzl] at hv hl
    simp only [Value.slice.injEq] at hv
    obtain ⟨rfl, -, rfl⟩ := hv
    refine (push_any z hz ao FL co hzl (by omega) hl (by unfold maxLen at hm; omega) hn (h.so.row rfl) (fun x hx hne => ?_) h1).mono ?_
    · subst hx
      have e := h.so.dblk
      have := h.op x.block (by rw [e]; rfl)
      omega
    · rintro e w' ⟨vt, T, er, rfl, hpr, htok, hfr, htl, hen, hcase⟩
      obtain ⟨at', ct, rfl, _⟩ := hpr.shape
      refine ⟨at', ct, T, er, rfl, h.push hpr htok hfr, ?_, (by intro hh; cases hh), by omega⟩
      rw [if_neg (by decide), h2]
      exact hcase
  · have hne : er ≠ 0 := by rcases h0 with h | h | h <;> omega
    refine (push_bad (.slice ao FL co) h1 hne).mono ?_
    rintro e w' ⟨rfl, hw⟩
    rw [hw]
    refine ⟨none, 0, [], er, rfl, h.push (World.ownsRow_nil _ _ _ _) (by intro x hx; cases hx) ⟨rfl, rfl, rfl, Nat.le_refl _, fun _ _ _ _ => rfl⟩, ?_, fun _ => rfl, by simp⟩
    rw [if_pos rfl]
    exact .inr ⟨h0, h1.same rfl, _, h2, rfl⟩
def ChAt (w : World) (p k : Nat) (bad : Bool) (v4 v5 : Value) (wr : World) : Prop :=
  ∃ A S O vo ga go BT, ChM w p A S [] O v4 v5 (.slice none 0 0) vo ga go BT wr ∧ ChB wr p A (S.map Sm.s) bad ∧ Bytes A ∧ A.length ≤ 600 * k
set_option maxHeartbeats 6400000 in
set_option maxRecDepth 100000 in
theorem creads_walk (a : Option Addr) (len cap : Nat) (F : Nat → Pt) (w : World) (h : PtArg w a len cap F) :
    Calls Try.prog 3 #[.slice a len cap] w fun e w' => e = .returned (.bool true) ∧ Below w.heap.size w w' := by
  obtain ⟨hl, hm, hF⟩ := h
  unfold maxLen at hm
  have HF : Hid (0 < len → ∃ b off, a = some ⟨b, off, none⟩ ∧ ∀ i, i < len → w.cell? ⟨b, off + i, none⟩ = some (.slice (F i).a (F i).z.length (F i).c) ∧ PtOk w (F i)) := hF
  clear hF
  go_enter Try.func3, Try.ntmps3
  go_wp2_with fail
  refine (kfixed_any _).mono ?_
  rintro e w1 ⟨rfl, hb1⟩
  by_cases h12 : 12 < (len : Int)
  · go_wp2
    go_ret
    exact ⟨rfl, hb1⟩
  have HB1 : Hid (Below w.heap.size w w1) := hb1
  clear hb1
  go_wp2_with fail
  refine (cnew_any w1).mono ?_
  rintro e w2 ⟨rfl, hr2, hb2⟩
  obtain ⟨p, hp⟩ : ∃ p, w1.heap.size = p := ⟨_, rfl⟩
  have HS : Hid (ChAt w p 0 false (.slice none 0 0) (.slice none 0 0) w2) := by
    rw [hp] at hr2
    have hbe : Below w.heap.size w w2 := HB1.out.trans (hb2.mono HB1.out.size)
    exact ⟨[], [], [], .slice none 0 0, none, none, p + 1, ⟨Sl.nil _ _, Sl.nil _ _, World.ownsRow_nil _ _ _ _, ⟨(fun x hx => by cases hx), List.Pairwise.nil⟩, ⟨World.ownsRow_nil _ _ _ _, (fun x hx => by cases hx), fun x hx => by cases hx⟩, (by intro k hk; cases hk), (by intro k hk; cases hk), (fun x hx => by cases hx), (fun x hx => by cases hx), (by intro k hk; cases hk), Nat.lt_succ_self _, hbe, by rw [← hp]; exact HB1.out.size, hr2.lt⟩, .inl ⟨rfl, [], 0, [], hr2, rfl⟩, Bytes.nil, by simp⟩
  rw [hp]
  clear hr2 hb2 hp
  go_wp2
  go_loopw [4, 5, 6, 8, 9, 10, 11, 12, 13, 14, 15, 16, 25] (fun v4 v5 v6 _ _ _ _ _ _ _ _ _ v wr => ∃ k : Nat, k ≤ len ∧ v = .int .i64 k ∧ ∃ bad, v6 = .bool bad ∧ ∃ a4 n4 c4 a5 n5 c5, v4 = .slice a4 n4 c4 ∧ v5 = .slice a5 n5 c5 ∧ Hid (ChAt w p k bad (.slice a4 n4 c4) (.slice a5 n5 c5) wr)) (fun _ _ _ _ _ _ _ _ _ _ _ _ v _ => len - (intOf v).toNat)
  case atStart => exact ⟨0, by omega, rfl, false, rfl, none, 0, 0, none, 0, 0, rfl, rfl, HS.out⟩
  case round =>
    clear HS
    obtain ⟨k, hk, rfl, bad, rfl, a4, n4, c4, a5, n5, c5, rfl, rfl, HR⟩ := hrel
    by_cases hlt : k < len
    · obtain ⟨A, S, O, vo, ga, go, BT, hch, hcb, hbA, hAl⟩ := HR.out
      obtain ⟨b, off, rfl, hc⟩ := HF.out (by omega)
      obtain ⟨hck, hq1, hq2, hq3, hq4, hq5⟩ := hc k hlt
      have hck' : wr.cell? ⟨b, off + k, none⟩ = some (.slice (F k).a (F k).z.length (F k).c) := (hch.be.cell (p := ⟨b, _, none⟩) (cell_lt hck)).trans hck
      clear hc hck
      generalize F k = f at *
      obtain ⟨fa, fc, fz⟩ := f
      simp only at hck' hq1 hq2 hq3 hq4 hq5
      have HCH : Hid (ChM w p A S [] O (.slice a4 n4 c4) (.slice a5 n5 c5) (.slice none 0 0) vo ga go BT wr ∧ ChB wr p A (S.map Sm.s) bad) := ⟨hch, hcb⟩
      have HQ : Hid (Bytes fz ∧ (fa = none → fc = 0) ∧ Row w fa fz ∧ Bytes A ∧ A.length ≤ 600 * k) := ⟨hq1, hq4, hq5, hbA, hAl⟩
      obtain ⟨FL, hFL⟩ : ∃ FL, fz.length = FL := ⟨_, rfl⟩
      have HFL : Hid (fz.length = FL) := hFL
      rw [hFL] at hck' hq2 hq3
      have HSz : Hid (S.length ≤ 8000 ∧ ∀ x ∈ S, x.s.data.length ≤ 8000) := by
        obtain ⟨f0, hf0⟩ : ∃ f0, ofAll A = (S.map Sm.s, f0) := by
          rcases hcb with ⟨_, L, now, cur, h1, h2⟩ | ⟨_, er, _, _, h2⟩
          · exact ⟨_, by rw [h2]; exact h1.2.1.say h1.1⟩
          · exact ⟨_, h2⟩
        obtain ⟨h2, h3⟩ := ofAll_small A
        rw [hf0] at h2 h3
        rw [List.length_map] at h2
        exact ⟨by omega, fun x hx => by have := h3 x.s (List.mem_map_of_mem hx); omega⟩
      clear hch hcb hq1 hq4 hq5 hbA hAl hFL HR
      have hki : (k : Int) < (len : Int) := by omega
      by_cases h600 : 600 < (FL : Int)
      · have HP : Hid (Below w.heap.size w wr) := HCH.out.1.be
        clear HCH
        go_wp2
        go_ret
        exact ⟨rfl, HP.out⟩
      have HRwr : Hid (Row wr fa fz) := HQ.out.2.2.1.old HCH.out.1.be
      go_upto_region 15 with (at_builtin; refine wpList_copy rfl _ _ rfl fa FL fc fz rfl rfl HQ.out.2.1 HFL.out HRwr.out (by omega) ?_; intro a7 c7 w7 g7 hs7 hg7 hb7; have HE : Hid (ChM w p A S [] fz (.slice a4 n4 c4) (.slice a5 n5 c5) (.slice none 0 0) (.slice a7 FL c7) ga g7 BT w7 ∧ ChB w7 p A (S.map Sm.s) bad) := ⟨HCH.out.1.copy hs7 hg7 hb7, HCH.out.2.same (hb7.block p HCH.out.1.pl)⟩; clear hs7 hg7 hb7)
      clear HCH HRwr hck'
      go_wp2_with fail
      refine (HE.out.1.pushes HE.out.2 HQ.out.1 HFL.out (by omega)).mono ?_
      rintro e w8 ⟨at', ct, T, er, rfl, hcm, hcr, hT0, hTl⟩
      obtain ⟨B, hB⟩ : ∃ B, (if bad = true then A else A ++ fz) = B := ⟨_, rfl⟩
      rw [hB] at hcr
      have HB : Hid ((if bad = true then A else A ++ fz) = B ∧ Bytes B ∧ B.length ≤ 600 * (k + 1) ∧ (bad = true → T = []) ∧ T.length ≤ 601) := by
        refine ⟨hB, ?_, ?_, hT0, hTl⟩
        · rw [← hB]
          split
          · exact HQ.out.2.2.2.1
          · exact HQ.out.2.2.2.1.app HQ.out.1
        · have h1 := HQ.out.2.2.2.2
          rw [← hB]
          split
          · omega
          · rw [List.length_append, HFL.out]; omega
      obtain ⟨TN, hTN⟩ : ∃ TN, T.length = TN := ⟨_, rfl⟩
      rw [hTN] at hcm ⊢
      have HTN : Hid (T.length = TN ∧ TN ≤ 601) := ⟨hTN, by omega⟩
      have hTNb : TN ≤ 601 := by omega
      obtain ⟨BQ, hBQ⟩ : ∃ BQ, w7.heap.size = BQ := ⟨_, rfl⟩
      rw [hBQ] at hcm
      have HI0 : Hid (∃ O, O.length = FL ∧ ChM w p A S T O (.slice a4 n4 c4) (.slice a5 n5 c5) (.slice at' TN ct) (.slice a7 FL c7) ga g7 BQ w8 ∧ ChR w8 p B (S.map Sm.s) T er) := ⟨fz, HFL.out, hcm, hcr⟩
      clear hcm hcr hT0 hTl hTN hBQ hB HE
      go_wp2
      go_loopg [12, 43] FL (fun fu _ i wq => ∃ j : Nat, j ≤ FL ∧ fu = FL - j ∧ i = .int .i64 j ∧ Hid (∃ O, O.length = FL ∧ ChM w p A S T O (.slice a4 n4 c4) (.slice a5 n5 c5) (.slice at' TN ct) (.slice a7 FL c7) ga g7 BQ wq ∧ ChR wq p B (S.map Sm.s) T er))
      case atStart => exact ⟨0, Nat.zero_le _, rfl, rfl, HI0.out⟩
      case round =>
        clear HI0
        obtain ⟨j, hj, hfj, rfl, HZ⟩ := hrel
        by_cases hjN : j < FL
        · have hjNi : (j : Int) < (FL : Int) := by omega
          obtain ⟨O, hO, hch, hcr⟩ := HZ.out
          obtain ⟨bq, offq, rfl, hcq⟩ : ∃ b off, a7 = some ⟨b, off, none⟩ ∧ wr.cell? ⟨b, off + j, none⟩ = some (.int .u8 (O[j]?.getD 0)) := by
            rcases hch.so.row rfl with h | ⟨b, off, rfl, hc⟩
            · rw [h] at hO; simp at hO; omega
            · exact ⟨b, off, rfl, hc j (by omega)⟩
          have hgq : g7 = some bq := hch.so.dblk
          have hfq : wr.frozen? ⟨bq, offq + j, none⟩ = false := by
            obtain ⟨c, e⟩ := hch.so.tagB bq hgq
            simp [World.frozen?, e]
          obtain ⟨z, hz⟩ : ∃ z, O[j]?.getD 0 = z := ⟨_, rfl⟩
          rw [hz] at hcq
          have HN1 : Hid (∀ v : Int, ∃ O, O.length = FL ∧ ChM w p A S T O (.slice a4 n4 c4) (.slice a5 n5 c5) (.slice at' TN ct) (.slice (some ⟨bq, offq, none⟩) FL c7) ga g7 BQ (wr.setCell ⟨bq, offq + j, none⟩ (.int .u8 v)) ∧ ChR (wr.setCell ⟨bq, offq + j, none⟩ (.int .u8 v)) p B (S.map Sm.s) T er) := by
            intro v
            have hpb := hch.op bq hgq
            subst hgq
            exact ⟨O.set j v, by simpa using hO, hch.over (by rw [vals_setO]; exact hch.so.setAt j _), hcr.same (Below.heap_setCell _ _ _ _ (Nat.ne_of_lt hpb))⟩
          have hji : (0 : Int) ≤ (j : Int) := by omega
          clear HZ hO hch hcr hgq hz
          go_wp2
          go_roundg (FL - (j + 1))
          case rel => exact ⟨j + 1, by omega, rfl, by go_num, HN1.out _⟩
          case measure => omega
        · obtain rfl : FL = j := by omega
          have hkNi : ¬ (FL : Int) < (FL : Int) := by omega
          obtain ⟨O, hO, hch, hcr⟩ := HZ.out
          have HCH : Hid (ChM w p A S T O (.slice a4 n4 c4) (.slice a5 n5 c5) (.slice at' TN ct) (.slice a7 FL c7) ga g7 BQ wr ∧ ChR wr p B (S.map Sm.s) T er) := ⟨hch, hcr⟩
          have HRwr : Hid (Row wr fa fz) := HQ.out.2.2.1.old hch.be
          clear HZ hO hch hcr
          cases bad with
          | false =>
            have hBe : A ++ fz = B := by have := HB.out.1; rw [if_neg (by decide)] at this; exact this
            go_upto_region 23 with (at_builtin; refine wpList_more rfl _ _ rfl (.slice a4 n4 c4) ga A rfl HCH.out.1.al fa FL fc fz rfl HQ.out.2.1 HFL.out HRwr.out (by have := HQ.out.2.2.2.2; omega) ?_; intro v9 w9 g9 hs9 hg9 hgr9; obtain ⟨a6, c6, hv9, -⟩ := hs9.shape; rw [vals_len] at hv9; obtain ⟨n6, hn6⟩ : ∃ n6, (A ++ fz).length = n6 := ⟨_, rfl⟩; rw [hn6] at hv9; subst hv9; rw [hBe] at hs9; have HC2 : Hid (ChM w p B S T O (.slice a6 n6 c6) (.slice a5 n5 c5) (.slice at' TN ct) (.slice a7 FL c7) g9 g7 BQ w9 ∧ ChR w9 p B (S.map Sm.s) T er) := ⟨HCH.out.1.all hs9 hg9 hgr9, HCH.out.2.same (hgr9.block p HCH.out.1.pl (fun e => by have := HCH.out.1.gp p e.symm; omega))⟩; clear hs9 hg9 hgr9 hn6)
            clear HCH
            obtain ⟨xo, yo, hvo, hlo6, hmo6, hno6⟩ := HC2.out.1.al.shape
            rw [vals_len] at hvo hlo6
            simp only [Value.slice.injEq] at hvo
            obtain ⟨rfl, hn6, rfl⟩ := hvo
            have HOf : Hid (Calls Try.prog 11 #[.slice a6 n6 c6] w9 fun e w' => OfP w9 B e w') := rofc_any a6 n6 c6 B w9 hn6.symm HB.out.2.1 (HC2.out.1.al.row rfl) (by omega) (by unfold maxLen at hmo6; omega) hno6 (by have := HB.out.2.2.1; omega)
            clear hlo6 hmo6 hno6 hn6
            go_wp2_with fail
            refine HOf.out.mono ?_
            clear HOf
            rintro e wx ⟨vw, W, rfl, hof, hmap⟩
            obtain ⟨aw, cw, hvw, -⟩ := hof.row.shape
            subst hvw
            obtain ⟨G, f, hG, hga, hcase, hnext, hbet⟩ := HC2.out.2.says
            rw [hG] at hmap ⊢
            simp only at hmap
            have hcx := HC2.out.1.old hof.be
            have hpx : wx.heap[p]? = w9.heap[p]? := hof.be.block p HC2.out.1.pl
            have CB := hbet wx hpx
            have HX : Hid (OfM w9 W (.slice aw W.length cw) wx ∧ W.map Sm.s = G ∧ ChM w p B S T O (.slice a6 n6 c6) (.slice a5 n5 c5) (.slice at' TN ct) (.slice a7 FL c7) g9 g7 BQ wx ∧ ChM w p B S T O (.slice a6 n6 c6) (.slice a5 n5 c5) (.slice at' TN ct) (.slice a7 FL c7) g9 g7 BQ w9 ∧ gath (S.map Sm.s) (T.map Pm.q) = some G ∧ (∀ w', w'.heap[p]? = w9.heap[p]? → ChB w' p B G (decide (er ≠ 0))) ∧ wx.heap[p]? = w9.heap[p]? ∧ ofAll B = (G, f)) := ⟨hof, hmap, hcx, HC2.out.1, hga, hnext, hpx, hG⟩
            obtain ⟨WN, hWN⟩ : ∃ WN, W.length = WN := ⟨_, rfl⟩
            have HWN : Hid (W.length = WN) := hWN
            have HGa : Hid (Calls Try.prog 13 #[.slice a5 n5 c5, .slice at' TN ct] wx fun e w' => ∃ v' S', e = .returned (.tuple #[v', .bool true]) ∧ S'.map Sm.s = G ∧ ChM w p B S' [] O (.slice a6 n6 c6) v' (.slice none 0 0) (.slice a7 FL c7) g9 g7 BQ w' ∧ w'.heap[p]? = wx.heap[p]? ∧ FrS wx w' (Value.slice a5 n5 c5).ownBlock S) := by
              have hx := HX.out.2.2.1
              obtain ⟨hs1, hs2⟩ := ofAll_small B
              rw [HX.out.2.2.2.2.2.2.2] at hs1 hs2
              have hb6 := HB.out.2.2.1
              have ht := HTN.out
              rw [← ht.1] at hx ⊢
              refine hx.gather (by have := HSz.out.1; omega) (fun x hx => by have := HSz.out.2 x hx; omega) (fun x hx => ?_) HX.out.2.2.2.2.1
              obtain ⟨s, hs, h1⟩ := (gath_data _ HX.out.2.2.2.2.1).1 x.q (List.mem_map_of_mem hx)
              have := hs2 s hs
              omega
            rw [hWN]
            clear hWN hof hmap hga hnext hcx hpx hG HC2
            rcases hcase with ⟨rfl, rfl | rfl⟩ | ⟨rfl, rfl | rfl | rfl⟩
            · go_wp2_with fail
              have CB2 : Calls Try.prog 12 #[.pointer (some ⟨p, 0, none⟩)] wx fun e w2 => e = .returned (.bool true) ∧ w2 = wx := CB
              refine CB2.mono ?_
              clear CB2
              rintro e wy ⟨rfl, hwy⟩
              rw [hwy]
              clear hwy CB
              go_wp2_with fail
              refine HGa.out.mono ?_
              clear HGa
              rintro e wz ⟨v', S', rfl, hmS, hcz, hpz, hfz⟩
              obtain ⟨az, cz, hvz, -⟩ := hcz.row.shape
              have hSW : S'.length = WN := by have e1 := congrArg List.length hmS; have e2 := congrArg List.length HX.out.2.1; rw [List.length_map] at e1 e2; rw [e1, ← e2]; exact HWN.out
              rw [hSW] at hvz
              subst hvz
              have HSm : Hid (Calls Try.prog 14 #[.slice az WN cz, .slice aw WN cw] wz fun e w' => e = .returned (.bool true) ∧ Below wz.heap.size wz w') := by
                obtain ⟨r1, r2⟩ := HX.out.1.after HX.out.2.2.2.1.row HX.out.2.2.2.1.mem hfz
                rw [HWN.out] at r1
                exact lsame_any (p + 1) w9.heap.size az aw cz cw WN S' W wz hcz.row r1 hSW (by obtain ⟨hs1, hs2⟩ := ofAll_small B; rw [HX.out.2.2.2.2.2.2.2, ← hmS, List.length_map] at hs1; have := HB.out.2.2.1; omega) (hmS.trans HX.out.2.1.symm) (fun x hx => (hcz.mem.1 x hx).1.row rfl) r2
              have HFin : Hid (∀ w', Below wz.heap.size wz w' → ChAt w p (k + 1) false (.slice a6 n6 c6) (.slice az WN cz) w') := fun w' hw => ⟨B, S', O, _, _, _, _, hcz.old hw, by rw [hmS]; exact HX.out.2.2.2.2.2.1 w' ((hw.block p hcz.pl).trans (hpz.trans HX.out.2.2.2.2.2.2.1)), HB.out.2.1, HB.out.2.2.1⟩
              clear hmS hcz hpz hfz hSW
              go_wp2_with fail
              refine HSm.out.mono ?_
              clear HSm
              rintro e w0 ⟨rfl, hb0⟩
              have HFF : Hid _ := HFin.out w0 hb0
              clear hb0 HFin
              go_wp2
              go_roundw
              case rel => exact ⟨k + 1, by omega, by go_num, false, rfl, _, _, _, _, _, _, rfl, rfl, HFF.out⟩
              case measure => simp [intOf]; omega
            · go_wp2_with fail
              have CB2 : Calls Try.prog 12 #[.pointer (some ⟨p, 0, none⟩)] wx fun e w2 => e = .returned (.bool false) ∧ w2 = wx := CB
              refine CB2.mono ?_
              clear CB2
              rintro e wy ⟨rfl, hwy⟩
              rw [hwy]
              clear hwy CB
              go_wp2_with fail
              refine HGa.out.mono ?_
              clear HGa
              rintro e wz ⟨v', S', rfl, hmS, hcz, hpz, hfz⟩
              obtain ⟨az, cz, hvz, -⟩ := hcz.row.shape
              have hSW : S'.length = WN := by have e1 := congrArg List.length hmS; have e2 := congrArg List.length HX.out.2.1; rw [List.length_map] at e1 e2; rw [e1, ← e2]; exact HWN.out
              rw [hSW] at hvz
              subst hvz
              have HSm : Hid (Calls Try.prog 14 #[.slice az WN cz, .slice aw WN cw] wz fun e w' => e = .returned (.bool true) ∧ Below wz.heap.size wz w') := by
                obtain ⟨r1, r2⟩ := HX.out.1.after HX.out.2.2.2.1.row HX.out.2.2.2.1.mem hfz
                rw [HWN.out] at r1
                exact lsame_any (p + 1) w9.heap.size az aw cz cw WN S' W wz hcz.row r1 hSW (by obtain ⟨hs1, hs2⟩ := ofAll_small B; rw [HX.out.2.2.2.2.2.2.2, ← hmS, List.length_map] at hs1; have := HB.out.2.2.1; omega) (hmS.trans HX.out.2.1.symm) (fun x hx => (hcz.mem.1 x hx).1.row rfl) r2
              have HFin : Hid (∀ w', Below wz.heap.size wz w' → ChAt w p (k + 1) false (.slice a6 n6 c6) (.slice az WN cz) w') := fun w' hw => ⟨B, S', O, _, _, _, _, hcz.old hw, by rw [hmS]; exact HX.out.2.2.2.2.2.1 w' ((hw.block p hcz.pl).trans (hpz.trans HX.out.2.2.2.2.2.2.1)), HB.out.2.1, HB.out.2.2.1⟩
              clear hmS hcz hpz hfz hSW
              go_wp2_with fail
              refine HSm.out.mono ?_
              clear HSm
              rintro e w0 ⟨rfl, hb0⟩
              have HFF : Hid _ := HFin.out w0 hb0
              clear hb0 HFin
              go_wp2
              go_roundw
              case rel => exact ⟨k + 1, by omega, by go_num, false, rfl, _, _, _, _, _, _, rfl, rfl, HFF.out⟩
              case measure => simp [intOf]; omega
            · go_wp2_with fail
              have CB2 : Calls Try.prog 12 #[.pointer (some ⟨p, 0, none⟩)] wx fun e w2 => e = .returned (.bool false) ∧ w2 = wx := CB
              refine CB2.mono ?_
              clear CB2
              rintro e wy ⟨rfl, hwy⟩
              rw [hwy]
              clear hwy CB
              go_wp2_with fail
              refine HGa.out.mono ?_
              clear HGa
              rintro e wz ⟨v', S', rfl, hmS, hcz, hpz, hfz⟩
              obtain ⟨az, cz, hvz, -⟩ := hcz.row.shape
              have hSW : S'.length = WN := by have e1 := congrArg List.length hmS; have e2 := congrArg List.length HX.out.2.1; rw [List.length_map] at e1 e2; rw [e1, ← e2]; exact HWN.out
              rw [hSW] at hvz
              subst hvz
              have HSm : Hid (Calls Try.prog 14 #[.slice az WN cz, .slice aw WN cw] wz fun e w' => e = .returned (.bool true) ∧ Below wz.heap.size wz w') := by
                obtain ⟨r1, r2⟩ := HX.out.1.after HX.out.2.2.2.1.row HX.out.2.2.2.1.mem hfz
                rw [HWN.out] at r1
                exact lsame_any (p + 1) w9.heap.size az aw cz cw WN S' W wz hcz.row r1 hSW (by obtain ⟨hs1, hs2⟩ := ofAll_small B; rw [HX.out.2.2.2.2.2.2.2, ← hmS, List.length_map] at hs1; have := HB.out.2.2.1; omega) (hmS.trans HX.out.2.1.symm) (fun x hx => (hcz.mem.1 x hx).1.row rfl) r2
              have HFin : Hid (∀ w', Below wz.heap.size wz w' → ChAt w p (k + 1) true (.slice a6 n6 c6) (.slice az WN cz) w') := fun w' hw => ⟨B, S', O, _, _, _, _, hcz.old hw, by rw [hmS]; exact HX.out.2.2.2.2.2.1 w' ((hw.block p hcz.pl).trans (hpz.trans HX.out.2.2.2.2.2.2.1)), HB.out.2.1, HB.out.2.2.1⟩
              clear hmS hcz hpz hfz hSW
              go_wp2_with fail
              refine HSm.out.mono ?_
              clear HSm
              rintro e w0 ⟨rfl, hb0⟩
              have HFF : Hid _ := HFin.out w0 hb0
              clear hb0 HFin
              go_wp2
              go_roundw
              case rel => exact ⟨k + 1, by omega, by go_num, true, rfl, _, _, _, _, _, _, rfl, rfl, HFF.out⟩
              case measure => simp [intOf]; omega
            · go_wp2_with fail
              have CB2 : Calls Try.prog 12 #[.pointer (some ⟨p, 0, none⟩)] wx fun e w2 => e = .returned (.bool false) ∧ w2 = wx := CB
              refine CB2.mono ?_
              clear CB2
              rintro e wy ⟨rfl, hwy⟩
              rw [hwy]
              clear hwy CB
              go_wp2_with fail
              refine HGa.out.mono ?_
              clear HGa
              rintro e wz ⟨v', S', rfl, hmS, hcz, hpz, hfz⟩
              obtain ⟨az, cz, hvz, -⟩ := hcz.row.shape
              have hSW : S'.length = WN := by have e1 := congrArg List.length hmS; have e2 := congrArg List.length HX.out.2.1; rw [List.length_map] at e1 e2; rw [e1, ← e2]; exact HWN.out
              rw [hSW] at hvz
              subst hvz
              have HSm : Hid (Calls Try.prog 14 #[.slice az WN cz, .slice aw WN cw] wz fun e w' => e = .returned (.bool true) ∧ Below wz.heap.size wz w') := by
                obtain ⟨r1, r2⟩ := HX.out.1.after HX.out.2.2.2.1.row HX.out.2.2.2.1.mem hfz
                rw [HWN.out] at r1
                exact lsame_any (p + 1) w9.heap.size az aw cz cw WN S' W wz hcz.row r1 hSW (by obtain ⟨hs1, hs2⟩ := ofAll_small B; rw [HX.out.2.2.2.2.2.2.2, ← hmS, List.length_map] at hs1; have := HB.out.2.2.1; omega) (hmS.trans HX.out.2.1.symm) (fun x hx => (hcz.mem.1 x hx).1.row rfl) r2
              have HFin : Hid (∀ w', Below wz.heap.size wz w' → ChAt w p (k + 1) true (.slice a6 n6 c6) (.slice az WN cz) w') := fun w' hw => ⟨B, S', O, _, _, _, _, hcz.old hw, by rw [hmS]; exact HX.out.2.2.2.2.2.1 w' ((hw.block p hcz.pl).trans (hpz.trans HX.out.2.2.2.2.2.2.1)), HB.out.2.1, HB.out.2.2.1⟩
              clear hmS hcz hpz hfz hSW
              go_wp2_with fail
              refine HSm.out.mono ?_
              clear HSm
              rintro e w0 ⟨rfl, hb0⟩
              have HFF : Hid _ := HFin.out w0 hb0
              clear hb0 HFin
              go_wp2
              go_roundw
              case rel => exact ⟨k + 1, by omega, by go_num, true, rfl, _, _, _, _, _, _, rfl, rfl, HFF.out⟩
              case measure => simp [intOf]; omega
            · go_wp2_with fail
              have CB2 : Calls Try.prog 12 #[.pointer (some ⟨p, 0, none⟩)] wx fun e w2 => e = .returned (.bool false) ∧ w2 = wx := CB
              refine CB2.mono ?_
              clear CB2
              rintro e wy ⟨rfl, hwy⟩
              rw [hwy]
              clear hwy CB
              go_wp2_with fail
              refine HGa.out.mono ?_
              clear HGa
              rintro e wz ⟨v', S', rfl, hmS, hcz, hpz, hfz⟩
              obtain ⟨az, cz, hvz, -⟩ := hcz.row.shape
              have hSW : S'.length = WN := by have e1 := congrArg List.length hmS; have e2 := congrArg List.length HX.out.2.1; rw [List.length_map] at e1 e2; rw [e1, ← e2]; exact HWN.out
              rw [hSW] at hvz
              subst hvz
              have HSm : Hid (Calls Try.prog 14 #[.slice az WN cz, .slice aw WN cw] wz fun e w' => e = .returned (.bool true) ∧ Below wz.heap.size wz w') := by
                obtain ⟨r1, r2⟩ := HX.out.1.after HX.out.2.2.2.1.row HX.out.2.2.2.1.mem hfz
                rw [HWN.out] at r1
                exact lsame_any (p + 1) w9.heap.size az aw cz cw WN S' W wz hcz.row r1 hSW (by obtain ⟨hs1, hs2⟩ := ofAll_small B; rw [HX.out.2.2.2.2.2.2.2, ← hmS, List.length_map] at hs1; have := HB.out.2.2.1; omega) (hmS.trans HX.out.2.1.symm) (fun x hx => (hcz.mem.1 x hx).1.row rfl) r2
              have HFin : Hid (∀ w', Below wz.heap.size wz w' → ChAt w p (k + 1) true (.slice a6 n6 c6) (.slice az WN cz) w') := fun w' hw => ⟨B, S', O, _, _, _, _, hcz.old hw, by rw [hmS]; exact HX.out.2.2.2.2.2.1 w' ((hw.block p hcz.pl).trans (hpz.trans HX.out.2.2.2.2.2.2.1)), HB.out.2.1, HB.out.2.2.1⟩
              clear hmS hcz hpz hfz hSW
              go_wp2_with fail
              refine HSm.out.mono ?_
              clear HSm
              rintro e w0 ⟨rfl, hb0⟩
              have HFF : Hid _ := HFin.out w0 hb0
              clear hb0 HFin
              go_wp2
              go_roundw
              case rel => exact ⟨k + 1, by omega, by go_num, true, rfl, _, _, _, _, _, _, rfl, rfl, HFF.out⟩
              case measure => simp [intOf]; omega
          | true =>
            obtain rfl : A = B := by have := HB.out.1; rw [if_pos rfl] at this; exact this
            obtain rfl : T = [] := HB.out.2.2.2.1 rfl
            have HC2 : Hid _ := HCH.out
            clear HCH
            go_upto_region 23 with fail
            obtain ⟨xo, yo, hvo, hlo6, hmo6, hno6⟩ := HC2.out.1.al.shape
            rw [vals_len] at hvo hlo6
            simp only [Value.slice.injEq] at hvo
            obtain ⟨rfl, hn6, rfl⟩ := hvo
            have HOf : Hid (Calls Try.prog 11 #[.slice a4 n4 c4] wr fun e w' => OfP wr A e w') := rofc_any a4 n4 c4 A wr hn6.symm HB.out.2.1 (HC2.out.1.al.row rfl) (by omega) (by unfold maxLen at hmo6; omega) hno6 (by have := HB.out.2.2.1; omega)
            clear hlo6 hmo6 hno6 hn6
            go_wp2_with fail
            refine HOf.out.mono ?_
            clear HOf
            rintro e wx ⟨vw, W, rfl, hof, hmap⟩
            obtain ⟨aw, cw, hvw, -⟩ := hof.row.shape
            subst hvw
            obtain ⟨G, f, hG, hga, hcase, hnext, hbet⟩ := HC2.out.2.says
            rw [hG] at hmap ⊢
            simp only at hmap
            have hcx := HC2.out.1.old hof.be
            have hpx : wx.heap[p]? = wr.heap[p]? := hof.be.block p HC2.out.1.pl
            have CB := hbet wx hpx
            obtain rfl : TN = 0 := by have := HTN.out.1; simpa using this.symm
            have HX : Hid (OfM wr W (.slice aw W.length cw) wx ∧ W.map Sm.s = G ∧ ChM w p A S [] O (.slice a4 n4 c4) (.slice a5 n5 c5) (.slice at' 0 ct) (.slice a7 FL c7) ga g7 BQ wx ∧ ChM w p A S [] O (.slice a4 n4 c4) (.slice a5 n5 c5) (.slice at' 0 ct) (.slice a7 FL c7) ga g7 BQ wr ∧ gath (S.map Sm.s) ([].map Pm.q) = some G ∧ (∀ w', w'.heap[p]? = wr.heap[p]? → ChB w' p A G (decide (er ≠ 0))) ∧ wx.heap[p]? = wr.heap[p]? ∧ ofAll A = (G, f)) := ⟨hof, hmap, hcx, HC2.out.1, hga, hnext, hpx, hG⟩
            obtain ⟨WN, hWN⟩ : ∃ WN, W.length = WN := ⟨_, rfl⟩
            have HWN : Hid (W.length = WN) := hWN
            have HGa : Hid (Calls Try.prog 13 #[.slice a5 n5 c5, .slice at' 0 ct] wx fun e w' => ∃ v' S', e = .returned (.tuple #[v', .bool true]) ∧ S'.map Sm.s = G ∧ ChM w p A S' [] O (.slice a4 n4 c4) v' (.slice none 0 0) (.slice a7 FL c7) ga g7 BQ w' ∧ w'.heap[p]? = wx.heap[p]? ∧ FrS wx w' (Value.slice a5 n5 c5).ownBlock S) := by
              have hx := HX.out.2.2.1
              obtain ⟨hs1, hs2⟩ := ofAll_small A
              rw [HX.out.2.2.2.2.2.2.2] at hs1 hs2
              have hb6 := HB.out.2.2.1
              have ht := HTN.out
              refine hx.gather (by have := HSz.out.1; omega) (fun x hx => by have := HSz.out.2 x hx; omega) (fun x hx => ?_) HX.out.2.2.2.2.1
              obtain ⟨s, hs, h1⟩ := (gath_data _ HX.out.2.2.2.2.1).1 x.q (List.mem_map_of_mem hx)
              have := hs2 s hs
              omega
            rw [hWN]
            clear hWN hof hmap hga hnext hcx hpx hG HC2
            rcases hcase with ⟨rfl, rfl | rfl⟩ | ⟨rfl, rfl | rfl | rfl⟩
            · go_wp2_with fail
              have CB2 : Calls Try.prog 12 #[.pointer (some ⟨p, 0, none⟩)] wx fun e w2 => e = .returned (.bool true) ∧ w2 = wx := CB
              refine CB2.mono ?_
              clear CB2
              rintro e wy ⟨rfl, hwy⟩
              rw [hwy]
              clear hwy CB
              go_wp2_with fail
              refine HGa.out.mono ?_
              clear HGa
              rintro e wz ⟨v', S', rfl, hmS, hcz, hpz, hfz⟩
              obtain ⟨az, cz, hvz, -⟩ := hcz.row.shape
              have hSW : S'.length = WN := by have e1 := congrArg List.length hmS; have e2 := congrArg List.length HX.out.2.1; rw [List.length_map] at e1 e2; rw [e1, ← e2]; exact HWN.out
              rw [hSW] at hvz
              subst hvz
              have HSm : Hid (Calls Try.prog 14 #[.slice az WN cz, .slice aw WN cw] wz fun e w' => e = .returned (.bool true) ∧ Below wz.heap.size wz w') := by
                obtain ⟨r1, r2⟩ := HX.out.1.after HX.out.2.2.2.1.row HX.out.2.2.2.1.mem hfz
                rw [HWN.out] at r1
                exact lsame_any (p + 1) wr.heap.size az aw cz cw WN S' W wz hcz.row r1 hSW (by obtain ⟨hs1, hs2⟩ := ofAll_small A; rw [HX.out.2.2.2.2.2.2.2, ← hmS, List.length_map] at hs1; have := HB.out.2.2.1; omega) (hmS.trans HX.out.2.1.symm) (fun x hx => (hcz.mem.1 x hx).1.row rfl) r2
              have HFin : Hid (∀ w', Below wz.heap.size wz w' → ChAt w p (k + 1) false (.slice a4 n4 c4) (.slice az WN cz) w') := fun w' hw => ⟨A, S', O, _, _, _, _, hcz.old hw, by rw [hmS]; exact HX.out.2.2.2.2.2.1 w' ((hw.block p hcz.pl).trans (hpz.trans HX.out.2.2.2.2.2.2.1)), HB.out.2.1, HB.out.2.2.1⟩
              clear hmS hcz hpz hfz hSW
              go_wp2_with fail
              refine HSm.out.mono ?_
              clear HSm
              rintro e w0 ⟨rfl, hb0⟩
              have HFF : Hid _ := HFin.out w0 hb0
              clear hb0 HFin
              go_wp2
              go_roundw
              case rel => exact ⟨k + 1, by omega, by go_num, false, rfl, _, _, _, _, _, _, rfl, rfl, HFF.out⟩
              case measure => simp [intOf]; omega
            · go_wp2_with fail
              have CB2 : Calls Try.prog 12 #[.pointer (some ⟨p, 0, none⟩)] wx fun e w2 => e = .returned (.bool false) ∧ w2 = wx := CB
              refine CB2.mono ?_
              clear CB2
              rintro e wy ⟨rfl, hwy⟩
              rw [hwy]
              clear hwy CB
              go_wp2_with fail
              refine HGa.out.mono ?_
              clear HGa
              rintro e wz ⟨v', S', rfl, hmS, hcz, hpz, hfz⟩
              obtain ⟨az, cz, hvz, -⟩ := hcz.row.shape
              have hSW : S'.length = WN := by have e1 := congrArg List.length hmS; have e2 := congrArg List.length HX.out.2.1; rw [List.length_map] at e1 e2; rw [e1, ← e2]; exact HWN.out
              rw [hSW] at hvz
              subst hvz
              have HSm : Hid (Calls Try.prog 14 #[.slice az WN cz, .slice aw WN cw] wz fun e w' => e = .returned (.bool true) ∧ Below wz.heap.size wz w') := by
                obtain ⟨r1, r2⟩ := HX.out.1.after HX.out.2.2.2.1.row HX.out.2.2.2.1.mem hfz
                rw [HWN.out] at r1
                exact lsame_any (p + 1) wr.heap.size az aw cz cw WN S' W wz hcz.row r1 hSW (by obtain ⟨hs1, hs2⟩ := ofAll_small A; rw [HX.out.2.2.2.2.2.2.2, ← hmS, List.length_map] at hs1; have := HB.out.2.2.1; omega) (hmS.trans HX.out.2.1.symm) (fun x hx => (hcz.mem.1 x hx).1.row rfl) r2
              have HFin : Hid (∀ w', Below wz.heap.size wz w' → ChAt w p (k + 1) false (.slice a4 n4 c4) (.slice az WN cz) w') := fun w' hw => ⟨A, S', O, _, _, _, _, hcz.old hw, by rw [hmS]; exact HX.out.2.2.2.2.2.1 w' ((hw.block p hcz.pl).trans (hpz.trans HX.out.2.2.2.2.2.2.1)), HB.out.2.1, HB.out.2.2.1⟩
              clear hmS hcz hpz hfz hSW
              go_wp2_with fail
              refine HSm.out.mono ?_
              clear HSm
              rintro e w0 ⟨rfl, hb0⟩
              have HFF : Hid _ := HFin.out w0 hb0
              clear hb0 HFin
              go_wp2
              go_roundw
              case rel => exact ⟨k + 1, by omega, by go_num, false, rfl, _, _, _, _, _, _, rfl, rfl, HFF.out⟩
              case measure => simp [intOf]; omega
            · go_wp2_with fail
              have CB2 : Calls Try.prog 12 #[.pointer (some ⟨p, 0, none⟩)] wx fun e w2 => e = .returned (.bool false) ∧ w2 = wx := CB
              refine CB2.mono ?_
              clear CB2
              rintro e wy ⟨rfl, hwy⟩
              rw [hwy]
              clear hwy CB
              go_wp2_with fail
              refine HGa.out.mono ?_
              clear HGa
              rintro e wz ⟨v', S', rfl, hmS, hcz, hpz, hfz⟩
              obtain ⟨az, cz, hvz, -⟩ := hcz.row.shape
              have hSW : S'.length = WN := by have e1 := congrArg List.length hmS; have e2 := congrArg List.length HX.out.2.1; rw [List.length_map] at e1 e2; rw [e1, ← e2]; exact HWN.out
              rw [hSW] at hvz
              subst hvz
              have HSm : Hid (Calls Try.prog 14 #[.slice az WN cz, .slice aw WN cw] wz fun e w' => e = .returned (.bool true) ∧ Below wz.heap.size wz w') := by
                obtain ⟨r1, r2⟩ := HX.out.1.after HX.out.2.2.2.1.row HX.out.2.2.2.1.mem hfz
                rw [HWN.out] at r1
                exact lsame_any (p + 1) wr.heap.size az aw cz cw WN S' W wz hcz.row r1 hSW (by obtain ⟨hs1, hs2⟩ := ofAll_small A; rw [HX.out.2.2.2.2.2.2.2, ← hmS, List.length_map] at hs1; have := HB.out.2.2.1; omega) (hmS.trans HX.out.2.1.symm) (fun x hx => (hcz.mem.1 x hx).1.row rfl) r2
              have HFin : Hid (∀ w', Below wz.heap.size wz w' → ChAt w p (k + 1) true (.slice a4 n4 c4) (.slice az WN cz) w') := fun w' hw => ⟨A, S', O, _, _, _, _, hcz.old hw, by rw [hmS]; exact HX.out.2.2.2.2.2.1 w' ((hw.block p hcz.pl).trans (hpz.trans HX.out.2.2.2.2.2.2.1)), HB.out.2.1, HB.out.2.2.1⟩
              clear hmS hcz hpz hfz hSW
              go_wp2_with fail
              refine HSm.out.mono ?_
              clear HSm
              rintro e w0 ⟨rfl, hb0⟩
              have HFF : Hid _ := HFin.out w0 hb0
              clear hb0 HFin
              go_wp2
              go_roundw
              case rel => exact ⟨k + 1, by omega, by go_num, true, rfl, _, _, _, _, _, _, rfl, rfl, HFF.out⟩
              case measure => simp [intOf]; omega
            · go_wp2_with fail
              have CB2 : Calls Try.prog 12 #[.pointer (some ⟨p, 0, none⟩)] wx fun e w2 => e = .returned (.bool false) ∧ w2 = wx := CB
              refine CB2.mono ?_
              clear CB2
              rintro e wy ⟨rfl, hwy⟩
              rw [hwy]
              clear hwy CB
              go_wp2_with fail
              refine HGa.out.mono ?_
              clear HGa
              rintro e wz ⟨v', S', rfl, hmS, hcz, hpz, hfz⟩
              obtain ⟨az, cz, hvz, -⟩ := hcz.row.shape
              have hSW : S'.length = WN := by have e1 := congrArg List.length hmS; have e2 := congrArg List.length HX.out.2.1; rw [List.length_map] at e1 e2; rw [e1, ← e2]; exact HWN.out
              rw [hSW] at hvz
              subst hvz
              have HSm : Hid (Calls Try.prog 14 #[.slice az WN cz, .slice aw WN cw] wz fun e w' => e = .returned (.bool true) ∧ Below wz.heap.size wz w') := by
                obtain ⟨r1, r2⟩ := HX.out.1.after HX.out.2.2.2.1.row HX.out.2.2.2.1.mem hfz
                rw [HWN.out] at r1
                exact lsame_any (p + 1) wr.heap.size az aw cz cw WN S' W wz hcz.row r1 hSW (by obtain ⟨hs1, hs2⟩ := ofAll_small A; rw [HX.out.2.2.2.2.2.2.2, ← hmS, List.length_map] at hs1; have := HB.out.2.2.1; omega) (hmS.trans HX.out.2.1.symm) (fun x hx => (hcz.mem.1 x hx).1.row rfl) r2
              have HFin : Hid (∀ w', Below wz.heap.size wz w' → ChAt w p (k + 1) true (.slice a4 n4 c4) (.slice az WN cz) w') := fun w' hw => ⟨A, S', O, _, _, _, _, hcz.old hw, by rw [hmS]; exact HX.out.2.2.2.2.2.1 w' ((hw.block p hcz.pl).trans (hpz.trans HX.out.2.2.2.2.2.2.1)), HB.out.2.1, HB.out.2.2.1⟩
              clear hmS hcz hpz hfz hSW
              go_wp2_with fail
              refine HSm.out.mono ?_
              clear HSm
              rintro e w0 ⟨rfl, hb0⟩
              have HFF : Hid _ := HFin.out w0 hb0
              clear hb0 HFin
              go_wp2
              go_roundw
              case rel => exact ⟨k + 1, by omega, by go_num, true, rfl, _, _, _, _, _, _, rfl, rfl, HFF.out⟩
              case measure => simp [intOf]; omega
            · go_wp2_with fail
              have CB2 : Calls Try.prog 12 #[.pointer (some ⟨p, 0, none⟩)] wx fun e w2 => e = .returned (.bool false) ∧ w2 = wx := CB
              refine CB2.mono ?_
              clear CB2
              rintro e wy ⟨rfl, hwy⟩
              rw [hwy]
              clear hwy CB
              go_wp2_with fail
              refine HGa.out.mono ?_
              clear HGa
              rintro e wz ⟨v', S', rfl, hmS, hcz, hpz, hfz⟩
              obtain ⟨az, cz, hvz, -⟩ := hcz.row.shape
              have hSW : S'.length = WN := by have e1 := congrArg List.length hmS; have e2 := congrArg List.length HX.out.2.1; rw [List.length_map] at e1 e2; rw [e1, ← e2]; exact HWN.out
              rw [hSW] at hvz
              subst hvz
              have HSm : Hid (Calls Try.prog 14 #[.slice az WN cz, .slice aw WN cw] wz fun e w' => e = .returned (.bool true) ∧ Below wz.heap.size wz w') := by
                obtain ⟨r1, r2⟩ := HX.out.1.after HX.out.2.2.2.1.row HX.out.2.2.2.1.mem hfz
                rw [HWN.out] at r1
                exact lsame_any (p + 1) wr.heap.size az aw cz cw WN S' W wz hcz.row r1 hSW (by obtain ⟨hs1, hs2⟩ := ofAll_small A; rw [HX.out.2.2.2.2.2.2.2, ← hmS, List.length_map] at hs1; have := HB.out.2.2.1; omega) (hmS.trans HX.out.2.1.symm) (fun x hx => (hcz.mem.1 x hx).1.row rfl) r2
              have HFin : Hid (∀ w', Below wz.heap.size wz w' → ChAt w p (k + 1) true (.slice a4 n4 c4) (.slice az WN cz) w') := fun w' hw => ⟨A, S', O, _, _, _, _, hcz.old hw, by rw [hmS]; exact HX.out.2.2.2.2.2.1 w' ((hw.block p hcz.pl).trans (hpz.trans HX.out.2.2.2.2.2.2.1)), HB.out.2.1, HB.out.2.2.1⟩
              clear hmS hcz hpz hfz hSW
              go_wp2_with fail
              refine HSm.out.mono ?_
              clear HSm
              rintro e w0 ⟨rfl, hb0⟩
              have HFF : Hid _ := HFin.out w0 hb0
              clear hb0 HFin
              go_wp2
              go_roundw
              case rel => exact ⟨k + 1, by omega, by go_num, true, rfl, _, _, _, _, _, _, rfl, rfl, HFF.out⟩
              case measure => simp [intOf]; omega
    · obtain rfl : k = len := by omega
      have HP : Hid (Below w.heap.size w wr) := by obtain ⟨A, S, O, vo, ga, go, BT, hch, _⟩ := HR.out; exact hch.be
      clear HR
      go_wp2
      go_ret
      exact ⟨rfl, HP.out⟩
end Go.Proofs.Ytoofpkcgiodfcaa
