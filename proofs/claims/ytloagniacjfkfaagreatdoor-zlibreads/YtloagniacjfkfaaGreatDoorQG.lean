/- Joined: Ib Ic Id Ie. -/
import Derived.Test.YtloagniacjfkfaaGreatDoorQF
import Derived.StillTail
import Derived.Deep.RegionHeld3
/- A decoder at work: the machine's state and the block's cells; what its reader's calls leave. -/
namespace Go.Proofs.YtloagniacjfkfaaGreatDoor
open Go.RowKit

structure Vs where
  win : Nat → Int
  told : Value
  code : Value
  row : Value
  c1 : Value
  c2 : Value
  f1 : Value
  f2 : Value
/-- The blocks that a decoder has of its own: its bytes, its lengths, what it tells. -/
structure Ow where
  g : Option Nat
  q : Option Nat
  t : Option Nat
def mkT (s : St) (lim : Nat) (V : Vs) : Tv := ⟨s.now, 0, .slice none 0 0, lim, s.out.length, V.win, V.told, s.last, s.left, s.lits, s.all, s.cl, V.code, V.row, s.again, V.c1, V.c2, V.f1, V.f2, s.least, s.nb, s.len⟩
def PtrC (w : World) (v : Value) : Option (List Nat) → Prop
  | none => v = .pointer none
  | some ns => ∃ c, v = .pointer (some ⟨c, 0, none⟩) ∧ CodeAt w c ns ∧ Cd ns
structure Hold (w : World) (s : St) (lim n0 : Nat) (V : Vs) (o : Ow) : Prop where
  le : s.out.length ≤ lim
  nle : n0 ≤ s.out.length
  win : ∀ k, k < s.out.length → s.out.length ≤ k + 32768 → V.win (k % 32768) = s.out[k]?.getD 0
  byt : Bytes s.out
  told : Sl w 5 V.told o.t (vals (s.out.drop n0))
  code : PtrC w V.code s.lc
  row : Sl w 3 V.row o.q (ivals (ints s.row))
  c1 : PtrC w V.c1 s.la
  c2 : PtrC w V.c2 s.da
  fx : V.f1 = .pointer none ∨ (PtrC w V.f1 (some fixL) ∧ PtrC w V.f2 (some fixD))
  sep : o.g = none ∨ o.g ≠ o.t
/-- Of the old blocks only such of a decoder, of bytes or of numbers are changed. -/
structure Tame (w w' : World) : Prop where
  size : w.heap.size ≤ w'.heap.size
  block : ∀ k, k < w.heap.size → w'.heap[k]? = w.heap[k]? ∨ ∃ cur t, w.heap[k]? = some (.cells cur t (0, 0)) ∧ (t = 119 ∨ t = 5 ∨ t = 3 ∨ t = 115 ∨ (t ≠ 170 ∧ t ≠ 172))
theorem MapF.tag {w : World} {m n : Nat} {f : Nat → Nat → Option Int} (h : MapF w m n f) : ∃ es c, w.heap[m]? = some (.map es c) := by
  obtain ⟨D, ⟨es, clock, hb, r⟩, h2⟩ := h
  exact ⟨_, _, hb⟩
theorem Tame.map {w w' : World} (h : Tame w w') {m n : Nat} {f : Nat → Nat → Option Int} (hm : MapF w m n f) : w'.heap[m]? = w.heap[m]? := by
  rcases h.block m hm.lt with h | ⟨cur, t, h, _⟩
  · exact h
  · obtain ⟨es, c, h2⟩ := hm.tag; rw [h2] at h; cases h
theorem Tame.cells {w w' : World} (h : Tame w w') {m : Nat} {cur : Array Value} {t : TypeId} (hm : w.heap[m]? = some (.cells cur t (0, 0))) (h1 : t ≠ 119) (h2 : t ≠ 5) (h3 : t ≠ 3) (h4 : t ≠ 115) (h5 : ¬ (t ≠ 170 ∧ t ≠ 172)) : w'.heap[m]? = w.heap[m]? := by
  rcases h.block m (lt_of_block hm) with h | ⟨cur', t', h, ht⟩
  · exact h
  · rw [hm] at h
    simp only [Option.some.injEq, Obj.cells.injEq] at h
    obtain ⟨_, rfl, _⟩ := h
    rcases ht with e | e | e | e | e
    · exact absurd e h1
    · exact absurd e h2
    · exact absurd e h3
    · exact absurd e h4
    · exact absurd e h5
theorem CodeAt.tame {w w' : World} {c : Nat} {ns : List Nat} (h : CodeAt w c ns) (ht : Tame w w') : CodeAt w' c ns := by
  obtain ⟨bw, bs, B, n1, n2, h1, h2, h3, h4⟩ := h
  have h4' := h4
  obtain ⟨cur, h5, _⟩ := h4'
  exact ⟨bw, bs, B, n1, n2, (ht.cells h1 (by decide) (by decide) (by decide) (by decide) (by decide)).trans h1, h2.same (ht.map h2), h3.same (ht.map h3), h4.same (ht.cells h5 (by decide) (by decide) (by decide) (by decide) (by decide))⟩
theorem PtrC.tame {w w' : World} {v : Value} {o : Option (List Nat)} (h : PtrC w v o) (ht : Tame w w') : PtrC w' v o := by
  cases o with
  | none => exact h
  | some ns =>
    obtain ⟨c, h1, h2, h3⟩ := h
    exact ⟨c, h1, h2.tame ht, h3⟩
theorem Hold.keep {w w' : World} {s : St} {lim n0 : Nat} {V : Vs} {o : Ow} (h : Hold w s lim n0 V o) (ht : Tame w w') (h1 : ∀ k, o.t = some k → w'.heap[k]? = w.heap[k]?) (h2 : ∀ k, o.q = some k → w'.heap[k]? = w.heap[k]?) : Hold w' s lim n0 V o :=
  ⟨h.le, h.nle, h.win, h.byt, h.told.same h1, h.code.tame ht, h.row.same h2, h.c1.tame ht, h.c2.tame ht, h.fx.imp_right (fun x => ⟨x.1.tame ht, x.2.tame ht⟩), h.sep⟩
/-- What a decoder's call changes. -/
structure Step (w w' : World) (d : Nat) (o o' : Ow) : Prop where
  os : w'.os = w.os
  tape : w'.tape = w.tape
  output : w'.output = w.output
  size : w.heap.size ≤ w'.heap.size
  block : ∀ k, k < w.heap.size → k ≠ d → some k ≠ o.g → some k ≠ o.q → some k ≠ o.t → w'.heap[k]? = w.heap[k]?
  g : ∀ k, o'.g = some k → o.g = some k ∨ w.heap.size ≤ k
  q : ∀ k, o'.q = some k → o.q = some k ∨ w.heap.size ≤ k
  t : ∀ k, o'.t = some k → o.t = some k ∨ w.heap.size ≤ k
theorem Step.refl (w : World) (d : Nat) (o : Ow) : Step w w d o o := ⟨rfl, rfl, rfl, Nat.le_refl _, fun _ _ _ _ _ _ => rfl, fun _ h => .inl h, fun _ h => .inl h, fun _ h => .inl h⟩
theorem Step.trans {a b c : World} {d : Nat} {o o' o'' : Ow} (h : Step a b d o o') (k : Step b c d o' o'') : Step a c d o o'' := by
  have lem : ∀ {x y : Option Nat} (j : Nat), j < a.heap.size → (∀ k, y = some k → x = some k ∨ a.heap.size ≤ k) → some j ≠ x → some j ≠ y := by
    intro x y j hj hh hx e
    rcases hh j e.symm with e2 | e2
    · exact hx e2.symm
    · omega
  have lem2 : ∀ {x y z : Option Nat}, (∀ k, y = some k → x = some k ∨ a.heap.size ≤ k) → (∀ k, z = some k → y = some k ∨ b.heap.size ≤ k) → ∀ k, z = some k → x = some k ∨ a.heap.size ≤ k := by
    intro x y z h1 h2 j hj
    rcases h2 j hj with e | e
    · exact h1 j e
    · exact .inr (Nat.le_trans h.size e)
  exact ⟨k.os.trans h.os, k.tape.trans h.tape, k.output.trans h.output, Nat.le_trans h.size k.size,
    fun j hj h1 h2 h3 h4 => (k.block j (Nat.lt_of_lt_of_le hj h.size) h1 (lem j hj h.g h2) (lem j hj h.q h3) (lem j hj h.t h4)).trans (h.block j hj h1 h2 h3 h4),
    lem2 h.g k.g, lem2 h.q k.q, lem2 h.t k.t⟩
theorem Fr.step {w w' : World} {d : Nat} {o : Ow} (h : Fr w w' d o.g) : Step w w' d o o := ⟨h.os, h.tape, h.output, h.size, fun k hk h1 h2 _ _ => h.block k hk h1 h2, fun _ h => .inl h, fun _ h => .inl h, fun _ h => .inl h⟩
theorem Below.step {w w' : World} {d : Nat} {o : Ow} (h : Below w.heap.size w w') : Step w w' d o o := ⟨h.os, h.tape, h.output, h.size, fun k hk _ _ _ _ => h.block k hk, fun _ h => .inl h, fun _ h => .inl h, fun _ h => .inl h⟩
theorem Step.drewN {w w' : World} {d : Nat} {o o' : Ow} (h : Step w w' d o o') (n : Nat) : Step w (w'.drewN n) d o o' := ⟨h.os, h.tape, h.output, h.size, h.block, h.g, h.q, h.t⟩

def Live (w : World) (d lim n0 : Nat) (s : St) (L : List Int) (a : Nat) (o : Ow) (V : Vs) : Prop :=
  (∃ zs gone, Dk w d o.g zs gone (mkT s lim V) ∧ RI zs gone L a) ∧ Hold w s lim n0 V o ∧ L.length ≤ 1125899906842624
theorem Live.tags {w : World} {d lim n0 : Nat} {s : St} {L : List Int} {a : Nat} {o : Ow} {V : Vs} (h : Live w d lim n0 s L a o V) :
    (∃ cur, w.heap[d]? = some (.cells cur 119 (0, 0))) ∧ (∀ k, o.g = some k → ∃ cur, w.heap[k]? = some (.cells cur 5 (0, 0))) ∧ (∀ k, o.q = some k → ∃ cur, w.heap[k]? = some (.cells cur 3 (0, 0))) ∧ (∀ k, o.t = some k → ∃ cur, w.heap[k]? = some (.cells cur 5 (0, 0))) := by
  obtain ⟨⟨zs, gone, hd, _⟩, hh, _⟩ := h
  exact ⟨hd.tag, hd.gtag, hh.row.tag, hh.told.tag⟩
theorem Live.tame {w w' : World} {d lim n0 : Nat} {s : St} {L : List Int} {a : Nat} {o o' : Ow} {V : Vs} (h : Live w d lim n0 s L a o V) (hs : Step w w' d o o') : Tame w w' := by
  obtain ⟨⟨cd, td⟩, tg, tq, tt⟩ := h.tags
  refine ⟨hs.size, fun k hk => ?_⟩
  by_cases h1 : k = d
  · subst h1; exact .inr ⟨_, _, td, .inl rfl⟩
  · by_cases h2 : some k = o.g
    · obtain ⟨cur, hc⟩ := tg k h2.symm; exact .inr ⟨_, _, hc, .inr (.inl rfl)⟩
    · by_cases h3 : some k = o.q
      · obtain ⟨cur, hc⟩ := tq k h3.symm; exact .inr ⟨_, _, hc, .inr (.inr (.inl rfl))⟩
      · by_cases h4 : some k = o.t
        · obtain ⟨cur, hc⟩ := tt k h4.symm; exact .inr ⟨_, _, hc, .inr (.inl rfl)⟩
        · exact .inl (hs.block k hk h1 h2 h3 h4)
theorem Live.neq {w : World} {d lim n0 : Nat} {s : St} {L : List Int} {a : Nat} {o : Ow} {V : Vs} (h : Live w d lim n0 s L a o V) : (∀ k, o.q = some k → k ≠ d ∧ some k ≠ o.g ∧ some k ≠ o.t) ∧ (∀ k, o.t = some k → k ≠ d ∧ some k ≠ o.g ∧ some k ≠ o.q) ∧ (∀ k, o.g = some k → k ≠ d ∧ some k ≠ o.t ∧ some k ≠ o.q) := by
  obtain ⟨⟨cd, td⟩, tg, tq, tt⟩ := h.tags
  have hsep := h.2.1.sep
  have apart : ∀ {k : Nat} {c1 c2 : Array Value} {t1 t2 : TypeId}, w.heap[k]? = some (.cells c1 t1 (0, 0)) → w.heap[k]? = some (.cells c2 t2 (0, 0)) → t1 = t2 := by
    intro k c1 c2 t1 t2 e1 e2
    rw [e1] at e2
    simp only [Option.some.injEq, Obj.cells.injEq] at e2
    exact e2.2.1
  refine ⟨fun k hk => ?_, fun k hk => ?_, fun k hk => ?_⟩
  · obtain ⟨c1, e1⟩ := tq k hk
    refine ⟨fun e => ?_, fun e => ?_, fun e => ?_⟩
    · subst e; exact absurd (apart e1 td) (by decide)
    · obtain ⟨c2, e2⟩ := tg k e.symm; exact absurd (apart e1 e2) (by decide)
    · obtain ⟨c2, e2⟩ := tt k e.symm; exact absurd (apart e1 e2) (by decide)
  · obtain ⟨c1, e1⟩ := tt k hk
    refine ⟨fun e => ?_, fun e => ?_, fun e => ?_⟩
    · subst e; exact absurd (apart e1 td) (by decide)
    · rcases hsep with h | h
      · rw [h] at e; cases e
      · exact h (e.symm.trans hk.symm)
    · obtain ⟨c2, e2⟩ := tq k e.symm; exact absurd (apart e1 e2) (by decide)
  · obtain ⟨c1, e1⟩ := tg k hk
    refine ⟨fun e => ?_, fun e => ?_, fun e => ?_⟩
    · subst e; exact absurd (apart e1 td) (by decide)
    · rcases hsep with h | h
      · rw [h] at hk; cases hk
      · exact h (hk.trans e)
    · obtain ⟨c2, e2⟩ := tq k e.symm; exact absurd (apart e1 e2) (by decide)
/-- The reader has worked. -/
theorem Live.via {w w' : World} {d lim n0 : Nat} {s : St} {L L' : List Int} {a a' : Nat} {o : Ow} {V : Vs} (h : Live w d lim n0 s L a o V) {zs : List Int} {gone : Nat} (hd : Dk w' d o.g zs gone (mkT s lim V)) (hr : RI zs gone L' a') (hl : L'.length ≤ 1125899906842624) (hf : Fr w w' d o.g) : Live w' d lim n0 s L' a' o V ∧ Step w w' d o o := by
  obtain ⟨n1, n2, n3⟩ := h.neq
  obtain ⟨tg, tgg, tq, tt⟩ := h.tags
  refine ⟨⟨⟨zs, gone, hd, hr⟩, h.2.1.keep (h.tame hf.step) (fun k hk => ?_) (fun k hk => ?_), hl⟩, hf.step⟩
  · obtain ⟨c, e⟩ := tt k hk; exact hf.block k (lt_of_block e) (n2 k hk).1 (n2 k hk).2.1
  · obtain ⟨c, e⟩ := tq k hk; exact hf.block k (lt_of_block e) (n1 k hk).1 (n1 k hk).2.1
theorem Live.old {w w' : World} {d lim n0 : Nat} {s : St} {L : List Int} {a : Nat} {o : Ow} {V : Vs} (h : Live w d lim n0 s L a o V) (hb : Below w.heap.size w w') : Live w' d lim n0 s L a o V := by
  obtain ⟨tg, tgg, tq, tt⟩ := h.tags
  obtain ⟨⟨zs, gone, hd, hr⟩, hh, hl⟩ := h
  refine ⟨⟨zs, gone, hd.same (hb.block _ hd.lt) (fun k hk => ?_), hr⟩, hh.keep ⟨hb.size, fun k hk => .inl (hb.block k hk)⟩ (fun k hk => ?_) (fun k hk => ?_), hl⟩
  · obtain ⟨c, e⟩ := tgg k hk; exact hb.block k (lt_of_block e)
  · obtain ⟨c, e⟩ := tt k hk; exact hb.block k (lt_of_block e)
  · obtain ⟨c, e⟩ := tq k hk; exact hb.block k (lt_of_block e)
theorem Live.drewN {w : World} {d lim n0 : Nat} {s : St} {L : List Int} {a : Nat} {o : Ow} {V : Vs} (h : Live w d lim n0 s L a o V) (n : Nat) : Live (w.drewN n) d lim n0 s L a o V := h.old ⟨rfl, rfl, rfl, Nat.le_refl _, fun _ _ => rfl⟩
theorem Live.lt {w : World} {d lim n0 : Nat} {s : St} {L : List Int} {a : Nat} {o : Ow} {V : Vs} (h : Live w d lim n0 s L a o V) : d < w.heap.size := by obtain ⟨⟨zs, gone, hd, _⟩, _⟩ := h; exact hd.lt

/-- What a call of the reader's leaves: the answer, and how far it is. -/
def RdPost (w : World) (d lim n0 : Nat) (s : St) (L : List Int) (o : Ow) (V : Vs) (v : Value) (a : Nat) (e : Ending) (w' : World) : Prop :=
  e = .returned v ∧ Live w' d lim n0 s L a o V ∧ Step w w' d o o
theorem RI.small {zs L : List Int} {gone a : Nat} (h : RI zs gone L a) (hl : L.length ≤ 1125899906842624) : zs.length ≤ 140737488355328 := by
  have := h.len; have := h.gn; omega
theorem bV_int {l : List Int} (h : Bit l) (k n : Nat) : ((bV l k n : Nat) : Int) = binN ((l.drop k).take n) := by
  unfold bV
  have := (binN_bound ((h.drop k).take n)).1
  omega
section
variable {w : World} {d lim n0 : Nat} {s : St} {L : List Int} {a : Nat} {o : Ow} {V : Vs}
theorem live_take (n : Nat) (h : Live w d lim n0 s L a o V) (hn : n ≤ 32) (hl : a + n ≤ L.length) :
    Calls Tryz.prog 124 #[.pointer (some ⟨d, 0, none⟩), .int .i64 n] w fun e w' => RdPost w d lim n0 s L o V (.tuple #[.int .i64 (bV (L.drop a) 0 n), .bool true]) (a + n) e w' := by
  have h' := h
  obtain ⟨⟨zs, gone, ⟨tl, hg, ht⟩, hr⟩, hh, hll⟩ := h'
  have hlen := hr.len
  refine (gtake_yes d o.g zs gone n w hg hr.byt (hr.small hll) hlen.2.2 hn (by omega)).mono ?_
  rintro e w' ⟨rfl, hg', hf⟩
  obtain ⟨l1, l2⟩ := h.via ⟨tl, hg', ht⟩ (hr.pass n (by omega)) hll hf
  refine ⟨?_, l1, l2⟩
  rw [bV_int (hr.bit.drop a), List.drop_zero, hr.val n (by omega)]
theorem live_take_no (n : Nat) (h : Live w d lim n0 s L a o V) (hl : L.length < a + n) :
    Calls Tryz.prog 124 #[.pointer (some ⟨d, 0, none⟩), .int .i64 n] w fun e w' => RdPost w d lim n0 s L o V (.tuple #[.int .i64 0, .bool false]) a e w' := by
  have h' := h
  obtain ⟨⟨zs, gone, ⟨tl, hg, ht⟩, hr⟩, hh, hll⟩ := h'
  have hlen := hr.len
  refine (gtake_no d o.g zs gone n w hg (hr.small hll) hlen.2.2 (.inr (.inr (by omega)))).mono ?_
  rintro e w' ⟨rfl, m, rfl⟩
  exact ⟨rfl, h.drewN m, (Step.refl _ _ _).drewN m⟩
theorem live_have (h : Live w d lim n0 s L a o V) :
    Calls Tryz.prog 129 #[.pointer (some ⟨d, 0, none⟩)] w fun e w' => e = .returned (.int .i64 ((L.length - a : Nat) : Int)) ∧ ∃ n, w' = w.drewN n := by
  have h' := h
  obtain ⟨⟨zs, gone, ⟨tl, hg, ht⟩, hr⟩, hh, hll⟩ := h'
  have hlen := hr.len
  refine (ghave_any d o.g zs gone w hg (hr.small hll) hlen.2.2).mono ?_
  rintro e w' ⟨rfl, m, rfl⟩
  refine ⟨ret_int ?_, m, rfl⟩
  have := hr.le
  omega
theorem live_align (h : Live w d lim n0 s L a o V) :
    Calls Tryz.prog 126 #[.pointer (some ⟨d, 0, none⟩)] w fun e w' => ∃ v, RdPost w d lim n0 s L o V v (a + (L.length - a) % 8) e w' := by
  have h' := h
  obtain ⟨⟨zs, gone, ⟨tl, hg, ht⟩, hr⟩, hh, hll⟩ := h'
  have hlen := hr.len
  have hle := hr.le
  have hgn := hr.gn
  have h8 := hr.m8
  by_cases h0 : gone = 0
  · subst h0
    refine (galign_no d o.g zs w hg).mono ?_
    rintro e w' ⟨rfl, rfl⟩
    refine ⟨_, rfl, ?_, Step.refl _ _ _⟩
    rw [show a + (L.length - a) % 8 = a by omega]
    exact h
  · refine (galign_yes d o.g zs gone w hg (hr.small hll) hlen.2.2 (by omega) (by omega)).mono ?_
    rintro e w' ⟨rfl, hg', hf⟩
    have hp := hr.pass (8 - gone) (by omega)
    rw [show (gone + (8 - gone)) / 8 = 1 by omega, show (gone + (8 - gone)) % 8 = 0 by omega] at hp
    obtain ⟨l1, l2⟩ := h.via ⟨tl, hg', ht⟩ hp hll hf
    refine ⟨_, rfl, ?_, l2⟩
    rw [show a + (L.length - a) % 8 = a + (8 - gone) by omega]
    exact l1
theorem nxt_congr (ns : List Nat) {nb nb' : Nat → Nat} {N : Nat} (h : ∀ i, i < N → nb i = nb' i) : ∀ f k, nxt ns nb N f k = nxt ns nb' N f k
  | 0, _ => rfl
  | f + 1, k => by
    rw [nxt, nxt]
    by_cases hN : N ≤ k
    · rw [if_pos hN, if_pos hN]
    · have hp : ∀ j, j ≤ N → pv nb j = pv nb' j := by
        intro j
        induction j with
        | zero => intro _; rfl
        | succ j ih => intro hj; rw [pv, pv, ih (by omega), h j (by omega)]
      rw [if_neg hN, if_neg hN, hp (k + 1) (by omega), nxt_congr ns h f (k + 1)]
theorem nxt_nonneg (ns : List Nat) (nb : Nat → Nat) (N : Nat) : ∀ f k, 0 ≤ (nxt ns nb N f k).1
  | 0, _ => Int.le_refl 0
  | f + 1, k => by
    rw [nxt]
    split
    · exact Int.le_refl 0
    · split
      · exact nxt_nonneg ns nb N f (k + 1)
      · cases hx : wdF ns ns.length (k + 1) (pv nb (k + 1)) with
        | none => exact Int.le_refl 0
        | some t =>
          unfold wdF at hx
          cases hy : (List.range ns.length).find? (wdP ns (k + 1) (pv nb (k + 1))) with
          | none => rw [hy] at hx; cases hx
          | some u =>
            rw [hy] at hx
            have hx := Option.some.inj hx
            rw [← hx]
            exact Int.natCast_nonneg u
theorem nxt_stay (ns : List Nat) (nb : Nat → Nat) (N : Nat) : ∀ f k, (nxt ns nb N f k).2.1 ≠ 0 → (nxt ns nb N f k).2.2 = 0
  | 0, _ => fun _ => rfl
  | f + 1, k => by
    rw [nxt]
    split
    · intro _; rfl
    · split
      · exact nxt_stay ns nb N f (k + 1)
      · split
        · intro h; exact absurd rfl h
        · intro _; rfl
theorem nxL_stay (ns : List Nat) (l : List Int) : (nxL ns l).2.1 ≠ 0 → (nxL ns l).2.2 = 0 := nxt_stay ns _ _ 15 0
theorem live_next (c : Nat) (ns : List Nat) (h : Live w d lim n0 s L a o V) (hc : CodeAt w c ns) (hd : Cd ns) :
    Calls Tryz.prog 130 #[.pointer (some ⟨c, 0, none⟩), .pointer (some ⟨d, 0, none⟩)] w fun e w' => RdPost w d lim n0 s L o V (.tuple #[.int .i64 (nxL ns (L.drop a)).1, .int .i64 (nxL ns (L.drop a)).2.1]) (a + (nxL ns (L.drop a)).2.2) e w' := by
  have h' := h
  obtain ⟨⟨zs, gone, ⟨tl, hg, ht⟩, hr⟩, hh, hll⟩ := h'
  have hlen := hr.len
  have hle := hr.le
  have e1 : (L.drop a).length = 8 * zs.length - gone := by rw [List.length_drop]; omega
  have e0 : nxL ns (L.drop a) = nxt ns (bitF zs gone) (8 * zs.length - gone) 15 0 := by
    unfold nxL
    rw [e1]
    refine nxt_congr ns (fun i hi => ?_) 15 0
    rw [List.getElem?_drop, hr.look i (by omega)]
    rfl
  refine (gnext_any c d o.g ns zs gone w hc hd hg hr.byt (hr.small hll) hlen.2.2 hlen.2.1).mono ?_
  rintro e w' ⟨rfl, hg', hf⟩
  rw [← e0] at hg' ⊢
  have hb : (nxL ns (L.drop a)).2.2 ≤ 8 * zs.length - gone := by
    rw [e0]
    have : ∀ f k, (nxt ns (bitF zs gone) (8 * zs.length - gone) f k).2.2 ≤ 8 * zs.length - gone := by
      intro f
      induction f with
      | zero => intro k; exact Nat.zero_le _
      | succ f ih =>
        intro k
        rw [nxt]
        split
        · exact Nat.zero_le _
        · split
          · exact ih _
          · split
            · simp only; omega
            · exact Nat.zero_le _
    exact this 15 0
  obtain ⟨l1, l2⟩ := h.via ⟨tl, hg', ht⟩ (hr.pass _ (by omega)) hll hf
  exact ⟨rfl, l1, l2⟩
end
end Go.Proofs.YtloagniacjfkfaaGreatDoor
/- A byte is told. -/
namespace Go.Proofs.YtloagniacjfkfaaGreatDoor
open Go.RowKit

theorem Fr.snoc {w w1 : World} {d : Nat} {g : Option Nat} (h : Fr w w1 d g) (i : Nat) (v : Value) : Fr w (w1.setCell ⟨d, i, none⟩ v) d g := h.trans (Fr.set d i v g) (.inl rfl)
theorem Hold.as {w : World} {s s' : St} {lim n0 : Nat} {V : Vs} {o : Ow} (h : Hold w s lim n0 V o) (h1 : s'.out = s.out) (h2 : s'.lc = s.lc) (h3 : s'.row = s.row) (h4 : s'.la = s.la) (h5 : s'.da = s.da) : Hold w s' lim n0 V o := by
  obtain ⟨a1, a2, a3, a4, a5, a6, a7, a8, a9, a10, a11⟩ := h
  exact ⟨by rw [h1]; exact a1, by rw [h1]; exact a2, by rw [h1]; exact a3, by rw [h1]; exact a4, by rw [h1]; exact a5, by rw [h2]; exact a6, by rw [h3]; exact a7, by rw [h4]; exact a8, by rw [h5]; exact a9, a10, a11⟩
theorem Live.fld {w w' : World} {d lim n0 : Nat} {s s' : St} {L : List Int} {a : Nat} {o : Ow} {V : Vs} (h : Live w d lim n0 s L a o V) (hk : ∀ zs gone, Dk w d o.g zs gone (mkT s lim V) → Dk w' d o.g zs gone (mkT s' lim V)) (hf : Fr w w' d o.g) (h1 : s'.out = s.out) (h2 : s'.lc = s.lc) (h3 : s'.row = s.row) (h4 : s'.la = s.la) (h5 : s'.da = s.da) : Live w' d lim n0 s' L a o V ∧ Step w w' d o o := by
  obtain ⟨n1, n2, n3⟩ := h.neq
  obtain ⟨tg, tgg, tq, tt⟩ := h.tags
  have ht := h.tame hf.step
  obtain ⟨⟨zs, gone, hd, hr⟩, hh, hll⟩ := h
  refine ⟨⟨⟨zs, gone, hk _ _ hd, hr⟩, (hh.keep ht (fun k hk => ?_) (fun k hk => ?_)).as h1 h2 h3 h4 h5, hll⟩, hf.step⟩
  · obtain ⟨c, e⟩ := tt k hk; exact hf.block k (lt_of_block e) (n2 k hk).1 (n2 k hk).2.1
  · obtain ⟨c, e⟩ := tq k hk; exact hf.block k (lt_of_block e) (n1 k hk).1 (n1 k hk).2.1
theorem win_snoc {out : List Int} {win : Nat → Int} (h : ∀ k, k < out.length → out.length ≤ k + 32768 → win (k % 32768) = out[k]?.getD 0) (b : Int) : ∀ k, k < (out ++ [b]).length → (out ++ [b]).length ≤ k + 32768 → (if k % 32768 = out.length % 32768 then b else win (k % 32768)) = (out ++ [b])[k]?.getD 0 := by
  intro k hk1 hk2
  rw [List.length_append, List.length_singleton] at hk1 hk2
  by_cases e : k = out.length
  · subst e
    rw [if_pos rfl, List.getElem?_append_right (Nat.le_refl _), Nat.sub_self]; rfl
  · rw [if_neg (by omega), h k (by omega) (by omega), List.getElem?_append_left (by omega)]
def TellPost (w : World) (d lim n0 : Nat) (s : St) (L : List Int) (a : Nat) (o : Ow) (e : Ending) (w' : World) : Prop :=
  ∃ o' V', e = .returned (.int .i64 0) ∧ Live w' d lim n0 s L a o' V' ∧ Step w w' d o o'

theorem one_row (w : World) (b : Int) : Row (w.alloc (.cells #[.int .u8 b] 5)) (some ⟨w.heap.size, 0, none⟩) [b] := by
  refine .inr ⟨w.heap.size, 0, rfl, fun i hi => ?_⟩
  rw [Nat.zero_add, World.cell?_alloc_at _ _ _ _ rfl]
  simp at hi
  subst hi
  rfl
theorem tell_told {w w2 : World} {d lim n0 : Nat} {s : St} {L : List Int} {a : Nat} {o : Ow} {V : Vs} (h : Live w d lim n0 s L a o V) (hb : Below w.heap.size w w2) (i : Nat) (u : Value) (ob : Obj) : Sl ((w2.setCell ⟨d, i, none⟩ u).alloc ob) 5 V.told o.t (vals (s.out.drop n0)) := by
  obtain ⟨n1, n2, n3⟩ := h.neq
  obtain ⟨tg, tgg, tq, tt⟩ := h.tags
  refine h.2.1.told.same fun k hk => ?_
  obtain ⟨c, e⟩ := tt k hk
  have hlt := lt_of_block e
  have h2 : k < (w2.setCell ⟨d, i, none⟩ u).heap.size := by simp [World.setCell]; exact Nat.lt_of_lt_of_le hlt hb.size
  rw [((Below.refl _ _).alloc (Nat.le_refl _) ob : Below (w2.setCell ⟨d, i, none⟩ u).heap.size _ _).block k h2, Below.heap_setCell _ _ _ _ (n2 k hk).1, hb.block k hlt]
theorem tell_mid {w w2 : World} {d lim n0 : Nat} {s : St} {L : List Int} {a : Nat} {o : Ow} {V : Vs} (h : Live w d lim n0 s L a o V) (hb : Below w.heap.size w w2) {k : Nat} (hk : k < 32768) {zs : List Int} {gone : Nat} (hd : Dk w d o.g zs gone (mkT s lim V)) (b : Int) :
    (w2.setCell ⟨d, 7 + k, none⟩ (.int .u8 b)).cell? ⟨d, 6, none⟩ = some (.int .i64 s.out.length) ∧ (w2.setCell ⟨d, 7 + k, none⟩ (.int .u8 b)).cell? ⟨d, 32775, none⟩ = some V.told ∧ ∀ j, (w2.setCell ⟨d, 7 + k, none⟩ (.int .u8 b)).frozen? ⟨d, j, none⟩ = false := by
  obtain ⟨tg, tgg, tq, tt⟩ := h.tags
  have hd2 : Dk w2 d o.g zs gone (mkT s lim V) := hd.same (hb.block _ hd.lt) fun j hj => by obtain ⟨c, e⟩ := tgg j hj; exact hb.block j (lt_of_block e)
  have hd3 := hd2.s_win k hk b
  exact ⟨hd3.k6, hd3.told, hd3.fz⟩
theorem tell_fin {w w2 w4 : World} {d lim n0 : Nat} {s : St} {L : List Int} {a : Nat} {o : Ow} {V : Vs} {b : Int} (h : Live w d lim n0 s L a o V) (hb0 : 0 ≤ b) (hb1 : b < 256) (k : Nat) (hk : s.out.length % 32768 = k) (hb : Below w.heap.size w w2) (hl : s.out.length < lim)
    {zs : List Int} {gone : Nat} (hd : Dk w d o.g zs gone (mkT s lim V)) (hr : RI zs gone L a) {v' : Value} {g' : Option Nat}
    (hsl : Sl w4 5 v' g' (vals (s.out.drop n0) ++ vals [b])) (hg : g' = o.t ∨ ∃ j, g' = some j ∧ ((w2.setCell ⟨d, 7 + k, none⟩ (.int .u8 b)).alloc (.cells #[.int .u8 b] 5)).heap.size ≤ j) (hgrow : ((w2.setCell ⟨d, 7 + k, none⟩ (.int .u8 b)).alloc (.cells #[.int .u8 b] 5)).grownBy w4 o.t) :
    Dk w4 d o.g zs gone (mkT s lim { V with win := fun j => if j = k then b else V.win j }) ∧
    ∀ x : Int, x = (s.out.length : Int) + 1 → TellPost w d lim n0 { s with out := s.out ++ [b] } L a o (.returned (.int .i64 0)) ((w4.setCell ⟨d, 32775, none⟩ v').setCell ⟨d, 6, none⟩ (.int .i64 x)) := by
  obtain ⟨n1, n2, n3⟩ := h.neq
  obtain ⟨tg, tgg, tq, tt⟩ := h.tags
  have hd2 : Dk w2 d o.g zs gone (mkT s lim V) := hd.same (hb.block _ hd.lt) fun j hj => by obtain ⟨c, e⟩ := tgg j hj; exact hb.block j (lt_of_block e)
  have hd3 := hd2.s_win k (by omega) b
  have hsz : w.heap.size ≤ (w2.setCell ⟨d, 7 + k, none⟩ (.int .u8 b)).heap.size := by simp [World.setCell]; exact hb.size
  have hal : Below (w2.setCell ⟨d, 7 + k, none⟩ (.int .u8 b)).heap.size (w2.setCell ⟨d, 7 + k, none⟩ (.int .u8 b)) ((w2.setCell ⟨d, 7 + k, none⟩ (.int .u8 b)).alloc (.cells #[.int .u8 b] 5)) := (Below.refl _ _).alloc (Nat.le_refl _) _
  have keep : ∀ j, j < w.heap.size → some j ≠ o.t → w4.heap[j]? = (w2.setCell ⟨d, 7 + k, none⟩ (.int .u8 b)).heap[j]? := fun j hj ht =>
    (hgrow.block j (by simp only [World.alloc, Array.size_push]; omega) ht).trans (hal.block j (by omega))
  have hd4 : Dk w4 d o.g zs gone (mkT s lim { V with win := fun j => if j = k then b else V.win j }) := by
    refine hd3.same (keep d hd.lt (fun e => (n2 d e.symm).1 rfl)) fun j hj => ?_
    obtain ⟨c, e⟩ := tgg j hj
    exact keep j (lt_of_block e) (n3 j hj).2.1
  refine ⟨hd4, fun x hx => ?_⟩
  have hg2 : ∀ j, g' = some j → o.t = some j ∨ w.heap.size ≤ j := by
    intro j hj
    rcases hg with e | ⟨q, e, hq⟩
    · exact .inl (e.symm.trans hj)
    · rw [e] at hj; cases hj
      simp only [World.alloc, Array.size_push] at hq
      exact .inr (by omega)
  have hgd : ∀ j, g' = some j → j ≠ d := by
    intro j hj
    rcases hg2 j hj with e | e
    · exact (n2 j e).1
    · have := hd.lt; omega
  have hst : Step w ((w4.setCell ⟨d, 32775, none⟩ v').setCell ⟨d, 6, none⟩ (.int .i64 x)) d o { o with t := g' } := by
    refine ⟨?_, ?_, ?_, ?_, fun j hj h1 h2 h3 h4 => ?_, fun j hj => .inl hj, fun j hj => .inl hj, hg2⟩
    · exact hgrow.os.trans hb.os
    · exact hgrow.tape.trans hb.tape
    · exact hgrow.output.trans hb.output
    · have := hgrow.size
      simp only [World.alloc, Array.size_push, World.setCell, Array.size_modify] at this hsz ⊢
      omega
    · rw [Below.heap_setCell _ _ _ _ h1, Below.heap_setCell _ _ _ _ h1, keep j hj h4, Below.heap_setCell _ _ _ _ h1, hb.block j hj]
  refine ⟨{ o with t := g' }, { V with win := fun j => if j = k then b else V.win j, told := v' }, rfl, ⟨⟨zs, gone, ?_, hr⟩, ?_, h.2.2⟩, hst⟩
  · have hd5 := (hd4.s_told v').s_total x
    have e : ({ ({ mkT s lim { V with win := fun j => if j = k then b else V.win j } with told := v' } : Tv) with total := x } : Tv) = mkT { s with out := s.out ++ [b] } lim { V with win := fun j => if j = k then b else V.win j, told := v' } := by
      unfold mkT
      simp [hx]
    rw [e] at hd5
    exact hd5
  · have ht := h.tame hst
    have hh := h.2.1
    have hq : ∀ j, o.q = some j → ((w4.setCell ⟨d, 32775, none⟩ v').setCell ⟨d, 6, none⟩ (.int .i64 x)).heap[j]? = w.heap[j]? := fun j hj => by
      obtain ⟨c, e⟩ := tq j hj
      have h1 := (n1 j hj).1
      rw [Below.heap_setCell _ _ _ _ h1, Below.heap_setCell _ _ _ _ h1, keep j (lt_of_block e) (n1 j hj).2.2, Below.heap_setCell _ _ _ _ h1, hb.block j (lt_of_block e)]
    refine ⟨?_, ?_, ?_, ?_, ?_, hh.code.tame ht, hh.row.same hq, hh.c1.tame ht, hh.c2.tame ht, hh.fx.imp_right (fun x => ⟨x.1.tame ht, x.2.tame ht⟩), ?_⟩
    · show (s.out ++ [b]).length ≤ lim
      rw [List.length_append, List.length_singleton]; omega
    · show n0 ≤ (s.out ++ [b]).length
      rw [List.length_append]; have := hh.nle; omega
    · intro j h1 h2
      have := win_snoc hh.win b j h1 h2
      rw [hk] at this
      exact this
    · exact hh.byt.append (by intro z hz; simp at hz; subst hz; exact ⟨hb0, hb1⟩)
    · show Sl _ 5 v' g' (vals ((s.out ++ [b]).drop n0))
      rw [List.drop_append_of_le_length hh.nle, vals_append]
      exact hsl.same fun j hj => by rw [Below.heap_setCell _ _ _ _ (hgd j hj), Below.heap_setCell _ _ _ _ (hgd j hj)]
    · show o.g = none ∨ o.g ≠ g'
      cases ho : o.g with
      | none => exact .inl rfl
      | some q =>
        refine .inr fun e => ?_
        rcases hg2 q e.symm with e2 | e2
        · exact (n3 q ho).2.1 e2.symm
        · obtain ⟨c, e3⟩ := tgg q ho
          have := lt_of_block e3
          omega

section
variable {w : World} {d lim n0 : Nat} {s : St} {L : List Int} {a : Nat} {o : Ow} {V : Vs}
set_option maxHeartbeats 400000 in
theorem tell_no (b : Int) (h : Live w d lim n0 s L a o V) (hl : s.out.length = lim) :
    Calls Tryz.prog 128 #[.pointer (some ⟨d, 0, none⟩), .int .u8 b] w fun e w' => e = .returned (.int .i64 9) ∧ ∃ n, w' = w.drewN n := by
  obtain ⟨⟨zs, gone, hd, hr⟩, hh, hll⟩ := h
  have k5 : w.cell? ⟨d, 5, none⟩ = some (.int .i64 lim) := hd.k5
  have k6 : w.cell? ⟨d, 6, none⟩ = some (.int .i64 lim) := by rw [← hl]; exact hd.k6
  clear hd hr hh hll hl
  go_enter Tryz.func128, Tryz.ntmps128
  go_wp2
  go_quiet (fail)
  go_wp2
  go_ret
  exact ⟨rfl, nq, rfl⟩
set_option maxHeartbeats 1600000 in
set_option maxRecDepth 10000 in
theorem tell_yes (b : Int) (h : Live w d lim n0 s L a o V) (hl : s.out.length < lim) (hlim : lim ≤ 1000000) (hb0 : 0 ≤ b) (hb1 : b < 256) :
    Calls Tryz.prog 128 #[.pointer (some ⟨d, 0, none⟩), .int .u8 b] w fun e w' => TellPost w d lim n0 { s with out := s.out ++ [b] } L a o e w' := by
  have HLV : Hid (Live w d lim n0 s L a o V) := h
  obtain ⟨⟨zs, gone, hd, hr⟩, hh, hll⟩ := h
  have HD : Hid (Dk w d o.g zs gone (mkT s lim V)) := hd
  have HR : Hid (RI zs gone L a) := hr
  have HH : Hid (Hold w s lim n0 V o) := hh
  have HLL : Hid (L.length ≤ 1125899906842624) := hll
  have k5 : w.cell? ⟨d, 5, none⟩ = some (.int .i64 lim) := hd.k5
  have k6 : w.cell? ⟨d, 6, none⟩ = some (.int .i64 s.out.length) := hd.k6
  have kt : w.cell? ⟨d, 32775, none⟩ = some V.told := hd.told
  obtain ⟨k, hk⟩ : ∃ k, s.out.length % 32768 = k := ⟨_, rfl⟩
  have hk8 : k < 32768 := by omega
  have hki : (s.out.length : Int).tmod 32768 = (k : Int) := by rw [Int.tmod_eq_emod_of_nonneg (by omega)]; omega
  have HK : Hid (s.out.length % 32768 = k) := hk
  have hk8i : (k : Int) < 32768 := by omega
  have kw := hd.kw k hk8
  clear hk
  have fz := hd.fz
  obtain ⟨n, hn⟩ : ∃ n, s.out.length = n := ⟨_, rfl⟩
  have HN : Hid (s.out.length = n) := hn
  rw [hn] at k6 hki hl
  have hne : ((n : Int) == (lim : Int)) = false := by simp; omega
  clear hd hr hh hll hn
  go_enter Tryz.func128, Tryz.ntmps128
  go_wp2
  go_quiet (fail)
  go_wp2
  refine wp_region_still_tail 10 (by kernel_rfl) (by kernel_rfl) ?_
  simp only [List.take_succ_cons, List.take_zero, List.drop_succ_cons, List.drop_zero]
  rw [show ({ (w.drewN nq) with drawn := (w.drewN nq).drawn + 1 } : World) = w.drewN (nq + 1) from rfl]
  iterate 9 still_step
  with_reducible refine wpStill_step (fun K hK => ?_)
  go_simp
  refine hK _ ?_
  clear hK K
  refine wpStill_nil ?_
  obtain ⟨i0, hi, hz0, hz1, hz2⟩ := info_parts Tryz.info5
  obtain ⟨w2, hw2⟩ : ∃ w2, w.drewN (nq + 1) = w2 := ⟨_, rfl⟩
  have HB2 : Hid (Below w.heap.size w w2) := by rw [← hw2]; exact ⟨rfl, rfl, rfl, Nat.le_refl _, fun _ _ => rfl⟩
  rw [hw2]
  have hcw : ∀ x, w2.cell? x = w.cell? x := fun x => by rw [← hw2]; rfl
  have hfw : ∀ x, w2.frozen? x = w.frozen? x := fun x => by rw [← hw2]; rfl
  have k6' := (hcw _).trans k6
  have kt' := (hcw _).trans kt
  have kw' := (hcw _).trans kw
  have fz' : ∀ j, w2.frozen? ⟨d, j, none⟩ = false := fun j => (hfw _).trans (fz j)
  clear hcw hfw
  clear hw2 k5 k6 kt kw fz
  with_reducible refine wpList_step (fun K hK => ?_)
  go_simp
  refine hK _ _ ?_
  clear hK K
  with_reducible refine wpList_nil ?_
  have HTS : Hid (Sl ((w2.setCell ⟨d, 7 + k, none⟩ (.int .u8 b)).alloc (.cells #[.int .u8 b] 5)) 5 V.told o.t (vals (s.out.drop n0))) := tell_told HLV.out HB2.out _ _ _
  have hdl : (s.out.drop n0).length ≤ 1000000 := by rw [List.length_drop]; have := HN.out; omega
  have HDL : Hid ((s.out.drop n0).length ≤ 1000000) := hdl
  have HF0 : Hid (∀ {w4 : World} {v' : Value} {g' : Option Nat}, Sl w4 5 v' g' (vals (s.out.drop n0) ++ vals [b]) → (g' = o.t ∨ ∃ j, g' = some j ∧ ((w2.setCell ⟨d, 7 + k, none⟩ (.int .u8 b)).alloc (.cells #[.int .u8 b] 5)).heap.size ≤ j) → ((w2.setCell ⟨d, 7 + k, none⟩ (.int .u8 b)).alloc (.cells #[.int .u8 b] 5)).grownBy w4 o.t → Dk w4 d o.g zs gone (mkT s lim { V with win := fun j => if j = k then b else V.win j }) ∧ ∀ x : Int, x = (s.out.length : Int) + 1 → TellPost w d lim n0 { s with out := s.out ++ [b] } L a o (.returned (.int .i64 0)) ((w4.setCell ⟨d, 32775, none⟩ v').setCell ⟨d, 6, none⟩ (.int .i64 x))) := fun hsl hg' hgrow => tell_fin HLV.out hb0 hb1 k HK.out HB2.out (by rw [HN.out]; exact hl) HD.out HR.out hsl hg' hgrow
  obtain ⟨p6, pt, pf⟩ := tell_mid HLV.out HB2.out hk8 HD.out b
  clear hdl k6' kt' kw' fz' HK hki
  rw [HN.out] at p6
  generalize w2.setCell ⟨d, 7 + k, none⟩ (.int .u8 b) = w3 at HTS HF0 p6 pt pf ⊢
  go_wp2_with (at_builtin; refine wpList_append_sl rfl _ _ 22 rfl 5 i0 (.int .u8 0) 1 Tryz.underlying22 hi hz0 hz1 hz2 rfl _ o.t (vals (s.out.drop n0)) rfl HTS.out ⟨w3.heap.size, 0, none⟩ 1 1 (vals [b]) rfl rfl (news_row (one_row _ b)) (vals_one _) (by rw [vals_len]; have := HDL.out; omega) (by rw [vals_len]; unfold maxLen; have := HDL.out; omega) ?_)
  intro v' w4 g' hsl hg' hgrow
  obtain ⟨av, cv, hv, -, -, -⟩ := hsl.shape
  obtain ⟨m, hm⟩ : ∃ m, (vals (s.out.drop n0) ++ vals [b]).length = m := ⟨_, rfl⟩
  rw [hm] at hv
  clear hm
  subst hv
  obtain ⟨hd4, hfin⟩ := HF0.out hsl (by simpa using hg') hgrow
  have HF : Hid _ := hfin
  have q6 : w4.cell? ⟨d, 6, none⟩ = some (.int .i64 n) := by rw [← HN.out]; exact hd4.k6
  have qt : w4.cell? ⟨d, 32775, none⟩ = some V.told := hd4.told
  have qf := hd4.fz
  clear hd4 hfin hsl hg' hgrow HTS HF0
  go_wp2
  go_ret
  exact HF.out _ (by rw [HN.out])
end
end Go.Proofs.YtloagniacjfkfaaGreatDoor
/- Small functions of a decoder: numbers that words begin. -/
namespace Go.Proofs.YtloagniacjfkfaaGreatDoor
open Go.RowKit

set_option maxHeartbeats 800000 in
set_option maxRecDepth 20000 in
theorem fixedLength_any (k : Nat) (w : World) (hk : k < 288) :
    Calls Tryz.prog 147 #[.int .i64 k] w fun e w' => e = .returned (.int .i64 (fixN k : Nat)) ∧ w' = w := by
  by_cases h1 : k < 144
  · have e : fixN k = 8 := by unfold fixN; rw [if_pos h1]
    rw [e]
    have h1i : (k : Int) < 144 := by omega
    clear e
    go_enter Tryz.func147, Tryz.ntmps147
    go_wp2
    go_ret
    exact ⟨rfl, rfl⟩
  · have h1i : (144 : Int) ≤ k := by omega
    by_cases h2 : k < 256
    · have e : fixN k = 9 := by unfold fixN; rw [if_neg h1, if_pos h2]
      rw [e]
      have h2i : (k : Int) < 256 := by omega
      clear e
      go_enter Tryz.func147, Tryz.ntmps147
      go_wp2
      go_ret
      exact ⟨rfl, rfl⟩
    · have h2i : (256 : Int) ≤ k := by omega
      by_cases h3 : k < 280
      · have e : fixN k = 7 := by unfold fixN; rw [if_neg h1, if_neg h2, if_pos h3]
        rw [e]
        have h3i : (k : Int) < 280 := by omega
        clear e
        go_enter Tryz.func147, Tryz.ntmps147
        go_wp2
        go_ret
        exact ⟨rfl, rfl⟩
      · have e : fixN k = 8 := by unfold fixN; rw [if_neg h1, if_neg h2, if_neg h3]
        rw [e]
        have h3i : (280 : Int) ≤ k := by omega
        clear e
        go_enter Tryz.func147, Tryz.ntmps147
        go_wp2
        go_ret
        exact ⟨rfl, rfl⟩
def NumPost (w : World) (p : Nat × Nat) (e : Ending) (w' : World) : Prop := e = .returned (.agg #[.int .i64 p.1, .int .i64 p.2]) ∧ Below w.heap.size w w'
set_option maxHeartbeats 800000 in
set_option maxRecDepth 20000 in
theorem spread_any (k g : Nat) (w : World) (hk : k < 40) (hg1 : 1 ≤ g) (hg2 : g ≤ 4) (hq : k / g ≤ 14) :
    Calls Tryz.prog 134 #[.int .i64 k, .int .i64 g] w fun e w' => NumPost w (sprd k g) e w' := by
  by_cases h : k < g
  · have hi : (k : Int) < g := by omega
    have e : sprd k g = (k, 0) := by unfold sprd; rw [if_pos h]
    rw [e]
    clear e h
    go_enter Tryz.func134, Tryz.ntmps134
    go_wp2
    refine bodyPost_ret (v := .agg #[.int .i64 k, .int .i64 0]) (by simp [results, go_sem]) rfl ⟨rfl, ?_⟩
    exact (Below.refl w.heap.size w).alloc (Nat.le_refl _) _
  · have hi : (g : Int) ≤ k := by omega
    have e : sprd k g = ((g + k % g) * 2 ^ (k / g - 1), k / g - 1) := by unfold sprd; rw [if_neg h]
    rw [e]
    have hq1 : 1 ≤ k / g := (Nat.one_le_div_iff (by omega)).2 (by omega)
    obtain ⟨q, hqq⟩ : ∃ q, k / g - 1 = q := ⟨_, rfl⟩
    obtain ⟨r, hr⟩ : ∃ r, k % g = r := ⟨_, rfl⟩
    have hr4 : r < 4 := by rw [← hr]; have := Nat.mod_lt k (show 0 < g by omega); omega
    have hqi : (k : Int).tdiv g = (q : Int) + 1 := by rw [Int.tdiv_eq_ediv_of_nonneg (by omega)]; have : ((k / g : Nat) : Int) = (k : Int) / g := Int.natCast_ediv k g; omega
    have hri : (k : Int).tmod g = (r : Int) := by rw [Int.tmod_eq_emod_of_nonneg (by omega)]; have : ((k % g : Nat) : Int) = (k : Int) % g := Int.natCast_emod k g; omega
    rw [hqq, hr]
    have hq13 : q ≤ 13 := by omega
    have hg0 : ((g : Int) == 0) = false := by simp; omega
    have hg0' : ¬ (g : Int) = 0 := by omega
    have hP : (2 : Nat) ^ q ≤ 2 ^ 13 := Nat.pow_le_pow_right (by omega) hq13
    have hPi : ((2 : Int) ^ q) = ((2 ^ q : Nat) : Int) := by rw [Int.natCast_pow]; rfl
    have HW : Hid (wrap64 (((g : Int) + r) * 2 ^ q) = (((g + r) * 2 ^ q : Nat) : Int)) := by
      show _ = _
      rw [hPi, Int.natCast_mul, Int.natCast_add]
      have : (g + r) * 2 ^ q ≤ 8 * 2 ^ 13 := Nat.mul_le_mul (by omega) hP
      rw [← Int.natCast_add, ← Int.natCast_mul]
      unfold wrap64
      omega
    clear e h hq hq1 hqq hr hP hPi hk
    go_enter Tryz.func134, Tryz.ntmps134
    go_wp2
    refine bodyPost_ret (v := .agg #[.int .i64 (wrap64 (((g : Int) + r) * 2 ^ q)), .int .i64 q]) (by simp [results, go_sem]) rfl ⟨?_, ?_⟩
    · rw [HW.out]
    · exact (Below.refl w.heap.size w).alloc (Nat.le_refl _) _
set_option maxHeartbeats 800000 in
set_option maxRecDepth 20000 in
theorem copyLength_any (k : Nat) (w : World) (h1 : 257 ≤ k) (h2 : k ≤ 285) :
    Calls Tryz.prog 133 #[.int .i64 k] w fun e w' => NumPost w (cLen k) e w' := by
  by_cases h : k = 285
  · subst h
    go_enter Tryz.func133, Tryz.ntmps133
    go_wp2
    refine bodyPost_ret (v := .agg #[.int .i64 258, .int .i64 0]) (by simp [results, go_sem]) rfl ⟨rfl, ?_⟩
    exact (Below.refl w.heap.size w).alloc (Nat.le_refl _) _
  · have e : cLen k = ((sprd (k - 257) 4).1 + 3, (sprd (k - 257) 4).2) := by unfold cLen; rw [if_neg h]
    rw [e]
    have hne : ((k : Int) == 285) = false := by simp; omega
    have hb : (sprd (k - 257) 4).1 ≤ 100000 := by
      unfold sprd
      split
      · simp only; omega
      · simp only
        have hP : (2 : Nat) ^ ((k - 257) / 4 - 1) ≤ 2 ^ 6 := Nat.pow_le_pow_right (by omega) (by omega)
        have : (4 + (k - 257) % 4) * 2 ^ ((k - 257) / 4 - 1) ≤ 8 * 2 ^ 6 := Nat.mul_le_mul (by omega) hP
        omega
    obtain ⟨j, hj⟩ : ∃ j, k - 257 = j := ⟨_, rfl⟩
    have hji : (k : Int) - 257 = (j : Int) := by omega
    have HS : Hid (∀ W, Calls Tryz.prog 134 #[.int .i64 j, .int .i64 4] W fun e w' => NumPost W (sprd j 4) e w') := fun W => spread_any j 4 W (by omega) (by omega) (by omega) (by omega)
    rw [hj] at hb ⊢
    generalize sprd j 4 = p at *
    obtain ⟨p1, p2⟩ := p
    simp only at hb ⊢
    have hj28 : j ≤ 28 := by omega
    clear e h hj
    go_enter Tryz.func133, Tryz.ntmps133
    go_wp2_with fail
    refine (HS.out _).mono ?_
    rintro e w2 ⟨rfl, hb2⟩
    have e0 : w2.heap[w.heap.size]? = some (.cells #[.int .i64 0, .int .i64 0] 117 (0, 0)) := (hb2.block _ (by simp)).trans (heap_alloc_new _ _)
    obtain ⟨q0, q1, f0, f1⟩ := two_cells e0
    have hlt := lt_of_block e0
    have hne2 : ¬ w2.heap.size = w.heap.size := by omega
    have hne3 : ¬ w.heap.size = w2.heap.size := by omega
    have HB2 : Hid (Below w.heap.size w w2) := ((Below.refl w.heap.size w).alloc (Nat.le_refl _) _).trans (hb2.mono (by simp))
    clear hb2 e0
    go_wp2
    refine bodyPost_ret (v := .agg #[.int .i64 ((p1 : Int) + 3), .int .i64 p2]) (by simp [results, go_sem, q0, q1, hlt]) rfl ⟨rfl, ?_⟩
    exact (Fr.below HB2.out ((Fr.set w.heap.size 0 _ none).trans (Fr.set w.heap.size 1 _ none) (.inl rfl)) (Nat.le_refl _) (by intro q hq; cases hq) HB2.out.size).alloc (Nat.le_trans HB2.out.size (by simp [World.setCell])) _
theorem bV_lt (l : List Int) (hb : Bit l) (k n : Nat) (hn : n ≤ 32) : bV l k n < 4294967296 := by
  have h1 := (binN_bound ((hb.drop k).take n)).2
  have h2 : ((l.drop k).take n).length ≤ 32 := by rw [List.length_take]; omega
  have h3 : (2 : Nat) ^ ((l.drop k).take n).length ≤ 2 ^ 32 := Nat.pow_le_pow_right (by omega) h2
  have e : (2 : Int) ^ ((l.drop k).take n).length = ((2 ^ ((l.drop k).take n).length : Nat) : Int) := by rw [Int.natCast_pow]; rfl
  unfold bV
  rw [e] at h1
  omega
section
variable {w : World} {d lim n0 : Nat} {s : St} {L : List Int} {a : Nat} {o : Ow} {V : Vs}
theorem Step.of_drewN {w w' : World} {d n : Nat} {o o' : Ow} (h : Step (w.drewN n) w' d o o') : Step w w' d o o' := ⟨h.os, h.tape, h.output, h.size, h.block, h.g, h.q, h.t⟩
theorem Live.bit (h : Live w d lim n0 s L a o V) : Bit L := by obtain ⟨⟨zs, gone, _, hr⟩, _⟩ := h; exact hr.bit
theorem Live.dk (h : Live w d lim n0 s L a o V) : ∃ g zs gone, Dk w d g zs gone (mkT s lim V) := by obtain ⟨⟨zs, gone, hd, _⟩, _⟩ := h; exact ⟨_, _, _, hd⟩
set_option maxHeartbeats 800000 in
set_option maxRecDepth 100000 in
theorem takeN_yes (h : Live w d lim n0 s L a o V) (hn : s.nb ≤ 32) (hl : a + s.nb ≤ L.length) (hle : s.least ≤ 100000) :
    Calls Tryz.prog 132 #[.pointer (some ⟨d, 0, none⟩)] w fun e w' => RdPost w d lim n0 s L o V (.tuple #[.int .i64 ((s.least + bV (L.drop a) 0 s.nb : Nat) : Int), .bool true]) (a + s.nb) e w' := by
  have HT : Hid (∀ n, Calls Tryz.prog 124 #[.pointer (some ⟨d, 0, none⟩), .int .i64 s.nb] (w.drewN n) fun e w' => RdPost (w.drewN n) d lim n0 s L o V (.tuple #[.int .i64 (bV (L.drop a) 0 s.nb), .bool true]) (a + s.nb) e w') := fun n => live_take s.nb (h.drewN n) hn hl
  have hbv := bV_lt (L.drop a) (h.bit.drop a) 0 s.nb hn
  obtain ⟨g, zs, gone, hd⟩ := h.dk
  have k1 : w.cell? ⟨d, 32788, none⟩ = some (.int .i64 s.least) := hd.least
  have k2 : w.cell? ⟨d, 32789, none⟩ = some (.int .i64 s.nb) := hd.nb
  clear hd h
  generalize bV (L.drop a) 0 s.nb = B at *
  go_enter Tryz.func132, Tryz.ntmps132
  go_wp2
  go_region_held3 (fun W => W.cell? ⟨d, 32789, none⟩ = some (.int .i64 s.nb)) (go_keep) (first
    | (go_at_call 124; refine Calls.mono (HT.out 1) ?_; rintro e w2 ⟨rfl, hl2, hs2⟩; have k3 : w2.cell? ⟨d, 32789, none⟩ = some (.int .i64 s.nb) := by obtain ⟨g', zs', gone', hd'⟩ := hl2.dk; exact hd'.nb)
    | fail)
  have k4 : w2.cell? ⟨d, 32788, none⟩ = some (.int .i64 s.least) := by obtain ⟨g', zs', gone', hd'⟩ := hl2.dk; exact hd'.least
  clear k1 k2 k3
  go_wp2
  go_ret2
  exact ⟨rfl, hl2, hs2.of_drewN⟩
set_option maxHeartbeats 800000 in
set_option maxRecDepth 100000 in
theorem takeN_no (h : Live w d lim n0 s L a o V) (hl : L.length < a + s.nb) (hle : s.least ≤ 100000) :
    Calls Tryz.prog 132 #[.pointer (some ⟨d, 0, none⟩)] w fun e w' => RdPost w d lim n0 s L o V (.tuple #[.int .i64 s.least, .bool false]) a e w' := by
  have HT : Hid (∀ n, Calls Tryz.prog 124 #[.pointer (some ⟨d, 0, none⟩), .int .i64 s.nb] (w.drewN n) fun e w' => RdPost (w.drewN n) d lim n0 s L o V (.tuple #[.int .i64 0, .bool false]) a e w') := fun n => live_take_no s.nb (h.drewN n) hl
  obtain ⟨g, zs, gone, hd⟩ := h.dk
  have k1 : w.cell? ⟨d, 32788, none⟩ = some (.int .i64 s.least) := hd.least
  have k2 : w.cell? ⟨d, 32789, none⟩ = some (.int .i64 s.nb) := hd.nb
  clear hd h
  go_enter Tryz.func132, Tryz.ntmps132
  go_wp2
  go_region_held3 (fun W => W.cell? ⟨d, 32789, none⟩ = some (.int .i64 s.nb)) (go_keep) (first
    | (go_at_call 124; refine Calls.mono (HT.out 1) ?_; rintro e w2 ⟨rfl, hl2, hs2⟩; have k3 : w2.cell? ⟨d, 32789, none⟩ = some (.int .i64 s.nb) := by obtain ⟨g', zs', gone', hd'⟩ := hl2.dk; exact hd'.nb)
    | fail)
  have k4 : w2.cell? ⟨d, 32788, none⟩ = some (.int .i64 s.least) := by obtain ⟨g', zs', gone', hd'⟩ := hl2.dk; exact hd'.least
  clear k1 k2 k3
  go_wp2
  go_ret2
  exact ⟨rfl, hl2, hs2.of_drewN⟩
end
end Go.Proofs.YtloagniacjfkfaaGreatDoor
/- What an item leaves; copies; a number's bits. -/
namespace Go.Proofs.YtloagniacjfkfaaGreatDoor
open Go.RowKit

def Ended (w : World) (d lim n0 : Nat) (s : St) (L : List Int) (a : Nat) (o : Ow) (V : Vs) : Prop :=
  ∃ rv zs, Dk w d none [] 0 { mkT s lim V with rest := rv } ∧ Sl w 5 rv o.g (vals zs) ∧ RI zs 0 L a ∧ Hold w s lim n0 V o ∧ L.length ≤ 1125899906842624
/-- Ahead of a stored block's numbers the bits up to a byte's beginning may stand there still. -/
def LiveA (w : World) (d lim n0 : Nat) (s : St) (L : List Int) (a : Nat) (o : Ow) (V : Vs) : Prop :=
  if s.now = 1 then ∃ a0, a = a0 + (L.length - a0) % 8 ∧ Live w d lim n0 s L a0 o V else Live w d lim n0 s L a o V
def AtS (w : World) (d lim n0 : Nat) (s : St) (L : List Int) (a : Nat) (o : Ow) (V : Vs) : Prop :=
  if s.now = 11 then Ended w d lim n0 s L a o V else LiveA w d lim n0 s L a o V
def ItPost (w : World) (d lim n0 : Nat) (s : St) (L : List Int) (a : Nat) (o : Ow) (r : Rs) (e : Ending) (w' : World) : Prop :=
  match r with
  | .short => e = .returned (.int .i64 2) ∧ ∃ o' V', LiveA w' d lim n0 s L a o' V' ∧ Step w w' d o o'
  | .bad er out => e = .returned (.int .i64 er) ∧ er ≠ 0 ∧ er ≠ 2 ∧ ∃ s' a' o' V', Live w' d lim n0 s' L a' o' V' ∧ s'.out = out ∧ s'.now ≠ 11 ∧ Step w w' d o o'
  | .ok s2 n => e = .returned (.int .i64 0) ∧ ∃ o' V', AtS w' d lim n0 s2 L (a + n) o' V' ∧ Step w w' d o o'
theorem AtS.of {w : World} {d lim n0 : Nat} {s : St} {L : List Int} {a : Nat} {o : Ow} {V : Vs} (h : Live w d lim n0 s L a o V) (h1 : s.now ≠ 1) (h2 : s.now ≠ 11) : AtS w d lim n0 s L a o V := by
  unfold AtS LiveA
  rw [if_neg h2, if_neg h1]
  exact h
theorem LiveA.of {w : World} {d lim n0 : Nat} {s : St} {L : List Int} {a : Nat} {o : Ow} {V : Vs} (h : Live w d lim n0 s L a o V) (h1 : s.now ≠ 1) : LiveA w d lim n0 s L a o V := by
  unfold LiveA
  rw [if_neg h1]
  exact h

section
variable {w : World} {d lim n0 : Nat} {s : St} {L : List Int} {a : Nat} {o : Ow} {V : Vs}
theorem Live.inv (h : Live w d lim n0 s L a o V) : Bytes s.out ∧ s.out.length ≤ lim := ⟨h.2.1.byt, h.2.1.le⟩
def AgPost (w : World) (d lim n0 : Nat) (s : St) (L : List Int) (a : Nat) (o : Ow) (r : List Int × Bool) (e : Ending) (w' : World) : Prop :=
  e = .returned (.int .i64 (if r.2 then 0 else 9)) ∧ ∃ o' V', Live w' d lim n0 { s with out := r.1 } L a o' V' ∧ Step w w' d o o'
theorem Live.win_at (h : Live w d lim n0 s L a o V) {dist : Nat} (h1 : 1 ≤ dist) (h2 : dist ≤ 32768) (h3 : dist ≤ s.out.length) : w.cell? ⟨d, 7 + (s.out.length - dist) % 32768, none⟩ = some (.int .u8 (s.out[s.out.length - dist]?.getD 0)) := by
  obtain ⟨⟨zs, gone, hd, hr⟩, hh, hll⟩ := h
  have := hd.kw ((s.out.length - dist) % 32768) (by omega)
  rw [this]
  have e : (mkT s lim V).win = V.win := rfl
  rw [e, hh.win (s.out.length - dist) (by omega) (by omega)]
theorem cpy_len (lim dist : Nat) : ∀ n out, (cpy lim dist n out).2 = false → (cpy lim dist n out).1.length = lim
  | 0, out, h => by simp [cpy] at h
  | n + 1, out, h => by
    rw [cpy] at h ⊢
    split at h
    · rename_i he; rw [if_pos he]; exact he
    · rename_i he; rw [if_neg he]; exact cpy_len lim dist n _ h
set_option maxHeartbeats 1600000 in
set_option maxRecDepth 20000 in
theorem again_any (n dist : Nat) (h : Live w d lim n0 s L a o V) (hlim : lim ≤ 1000000) (hn : n ≤ 1000000) (h1 : 1 ≤ dist) (h2 : dist ≤ 32768) (h3 : dist ≤ s.out.length) :
    Calls Tryz.prog 135 #[.pointer (some ⟨d, 0, none⟩), .int .i64 n, .int .i64 dist] w fun e w' => AgPost w d lim n0 s L a o (cpy lim dist n s.out) e w' := by
  have HL : Hid (Live w d lim n0 s L a o V) := h
  have k6 : w.cell? ⟨d, 6, none⟩ = some (.int .i64 s.out.length) := by obtain ⟨g, zs, gone, hd⟩ := h.dk; exact hd.k6
  have hle := h.inv.2
  have h3i : (dist : Int) ≤ s.out.length := by omega
  have hdec : decide (s.out.length < dist) = false := by simp; omega
  clear h
  go_enter Tryz.func135, Tryz.ntmps135
  go_wp2
  go_loopw [6, 15] (fun v i wr => v = .int .i64 0 ∧ ∃ (t : Nat) (out : List Int) (o' : Ow) (V' : Vs), t ≤ n ∧ i = .int .i64 t ∧ Hid (Live wr d lim n0 { s with out := out } L a o' V' ∧ Step w wr d o o' ∧ cpy lim dist (n - t) out = cpy lim dist n s.out ∧ dist ≤ out.length)) (fun _ i _ => n - (intOf i).toNat)
  case atStart => exact ⟨rfl, 0, s.out, o, V, Nat.zero_le _, rfl, HL.out, Step.refl _ _ _, by rw [Nat.sub_zero], h3⟩
  case round =>
    obtain ⟨rfl, t, out, o', V', ht, rfl, HR⟩ := hrel
    clear k6 h3i HL
    by_cases hlt : t < n
    · have hlti : (t : Int) < n := by omega
      obtain ⟨N, hN⟩ : ∃ N, out.length = N := ⟨_, rfl⟩
      have HN : Hid (out.length = N) := hN
      have hd3 : dist ≤ N := by rw [← hN]; exact HR.out.2.2.2
      have hNl : N ≤ lim := by rw [← hN]; exact HR.out.1.inv.2
      have k6 : wr.cell? ⟨d, 6, none⟩ = some (.int .i64 N) := by obtain ⟨g, zs, gone, hd⟩ := HR.out.1.dk; rw [← hN]; exact hd.k6
      obtain ⟨K, hK⟩ : ∃ K, (N - dist) % 32768 = K := ⟨_, rfl⟩
      have hK8 : (K : Int) < 32768 := by omega
      have hKi : ((N : Int) - dist).tmod 32768 = (K : Int) := by rw [Int.tmod_eq_emod_of_nonneg (by omega)]; omega
      have hwr : IntKind.i64.wrap ((N : Int) - dist) = (N : Int) - dist := by rw [IntKind.wrap_i64]; omega
      obtain ⟨b, hb⟩ : ∃ b, out[N - dist]?.getD 0 = b := ⟨_, rfl⟩
      have kw : wr.cell? ⟨d, 7 + K, none⟩ = some (.int .u8 b) := by
        have := HR.out.1.win_at (dist := dist) h1 h2 HR.out.2.2.2
        simp only at this
        rw [hN, hK, hb] at this
        exact this
      have hbb : 0 ≤ b ∧ b < 256 := by rw [← hb]; exact HR.out.1.inv.1.at _
      have HC : Hid (cpy lim dist (n - t) out = if N = lim then (out, false) else cpy lim dist (n - (t + 1)) (out ++ [b])) := by
        show _ = _
        rw [show n - t = (n - (t + 1)) + 1 by omega, cpy, hN, hb]
      clear hN hK hb
      go_wp2
      refine wp_region_still_tail 13 (by kernel_rfl) (by kernel_rfl) ?_
      simp only [List.take_succ_cons, List.take_zero, List.drop_succ_cons, List.drop_zero]
      rw [show ({ wr with drawn := wr.drawn + 1 } : World) = wr.drewN 1 from rfl]
      iterate 11 still_step
      with_reducible refine wpStill_step (fun K' hK' => ?_)
      go_simp
      refine hK' _ ?_
      clear hK' K'
      still_step
      with_reducible refine wpStill_nil ?_
      clear k6 kw hKi hwr hK8
      by_cases hf : N = lim
      · have HT := tell_no (d := d) b (HR.out.1.drewN 1) (by simp only; rw [HN.out]; exact hf)
        have HP : Hid (∀ m, AgPost w d lim n0 s L a o (cpy lim dist n s.out) (.returned (.int .i64 9)) (wr.drewN m)) := fun m => by
          rw [← HR.out.2.2.1, HC.out, if_pos hf]
          exact ⟨rfl, o', V', HR.out.1.drewN m, HR.out.2.1.drewN m⟩
        clear HC HR
        go_wp2_with fail
        refine HT.mono ?_
        rintro e w3 ⟨rfl, m, rfl⟩
        go_wp2
        go_ret
        exact HP.out _
      · have HT := tell_yes b (HR.out.1.drewN 1) (by simp only; rw [HN.out]; omega) hlim hbb.1 hbb.2
        have HP : Hid (∀ w3, (∃ o2 V2, Live w3 d lim n0 { s with out := out ++ [b] } L a o2 V2 ∧ Step (wr.drewN 1) w3 d o' o2) → ∃ o2 V2, Live w3 d lim n0 { s with out := out ++ [b] } L a o2 V2 ∧ Step w w3 d o o2 ∧ cpy lim dist (n - (t + 1)) (out ++ [b]) = cpy lim dist n s.out ∧ dist ≤ (out ++ [b]).length) := by
          rintro w3 ⟨o2, V2, l2, s2⟩
          refine ⟨o2, V2, l2, HR.out.2.1.trans s2.of_drewN, ?_, ?_⟩
          · rw [← HR.out.2.2.1, HC.out, if_neg hf]
          · rw [List.length_append]; have := HR.out.2.2.2; omega
        clear HC HR
        go_wp2_with fail
        refine HT.mono ?_
        rintro e w3 ⟨o2, V2, rfl, l2, s2⟩
        obtain ⟨o3, V3, r1, r2, r3, r4⟩ := HP.out w3 ⟨o2, V2, l2, s2⟩
        have HQ : Hid (Live w3 d lim n0 { s with out := out ++ [b] } L a o3 V3 ∧ Step w w3 d o o3 ∧ cpy lim dist (n - (t + 1)) (out ++ [b]) = cpy lim dist n s.out ∧ dist ≤ (out ++ [b]).length) := ⟨r1, r2, r3, r4⟩
        clear HP HT l2 s2 r1 r2 r3 r4
        go_wp2
        go_roundw
        case rel => exact ⟨rfl, t + 1, out ++ [b], o3, V3, by omega, by go_num, HQ.out⟩
        case measure => simp [intOf]; omega
    · obtain rfl : t = n := by omega
      have HP : Hid (AgPost w d lim n0 s L a o (cpy lim dist t s.out) (.returned (.int .i64 0)) wr) := by
        show AgPost _ _ _ _ _ _ _ _ _ _ _
        rw [← HR.out.2.2.1, Nat.sub_self]
        exact ⟨rfl, o', V', HR.out.1, HR.out.2.1⟩
      clear HR
      go_wp2
      go_ret
      exact HP.out
end
end Go.Proofs.YtloagniacjfkfaaGreatDoor
