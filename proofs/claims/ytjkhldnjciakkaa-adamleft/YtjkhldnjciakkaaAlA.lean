/- Lines that are gathered while what was told is written over. -/
import Derived.Test.YtjkhldnjciakkaaAmT
import Derived.Test.YtjkhldnjciakkaaAmN
import Derived.Test.YtjkhldnjciakkaaRgH
namespace Go.Proofs.Ytjkhldnjciakkaa
open Go.RowKit
/-- A range over a function that is left by 'exit d' or at its end: one end. -/
theorem wp_range_ixG1 {P : Program} {g : Operand} {ps : Array Tmp} {assign body : Code} {Q : Exit → Act → World → Prop} {a : Act} {w : World} {gf : Nat} {lb : Array Value} {Enc : Nat → World → World → Array Value → Prop} {Keep : World → Prop} {kp : Obj → Prop} {N d : Nat}
    (hg : a.eval g = .func (.func gf) #[] lb) (eg : ∀ args w, (callFunc gf args).run P w = .ok (.enter gf args) w) (hit : IxIterG P gf lb Enc Keep kp N) (hps : ∀ i Wp W args, Enc i Wp W args → args.size = ps.size)
    (I : Nat → World → Prop) (R : World → Prop) (hI : ∀ i W W', I i W → Bk w.heap.size W W' → I i W') (hR : ∀ W W', R W → Bk w.heap.size W W' → R W') (hN : ∀ W, I N W → R W) (hK : ∀ i W, I i W → Keep W) (h0 : I 0 w)
    (hb : ∀ (i : Nat) (Wp W : World) (args : Array Value), i < N → I i Wp → Below Wp.heap.size Wp W → Enc i Wp W args → (∃ r, W.heap[w.heap.size + 1]? = some (.loop r)) → (∃ r, W.heap[w.heap.size]? = some (.deferred r)) →
      assign.wpIn (Fence.wide.inRound (w.heap.size + 1)) 3 P (Exit.then (fun a₁ w₁ => w₁.heap[w.heap.size + 1]? = W.heap[w.heap.size + 1]? ∧ w₁.heap[w.heap.size]? = W.heap[w.heap.size]? ∧ KpO kp (w.heap.size + 1) W w₁ ∧
        ∀ o, Bk w.heap.size w₁ (w₁.putObj (w.heap.size + 1) o) → (w₁.putObj (w.heap.size + 1) o).heap[w.heap.size + 1]? = some o → (∃ r, (w₁.putObj (w.heap.size + 1) o).heap[w.heap.size]? = some (.deferred r)) → (∃ r, o = .loop r) → body.wpIn (Fence.wide.inRound (w.heap.size + 1)) 3 P (ixPostG kp (w.heap.size + 1) w.heap.size I (fun c W => c = .exit d ∧ R W) (i + 1) (w₁.putObj (w.heap.size + 1) o)) a₁ (w₁.putObj (w.heap.size + 1) o)) (fun _ _ _ => False))
        { tmps := (ps.zip args).foldl (fun t (p, v) => t.setIfInBounds p v) a.tmps, defers := [] } W)
    (hQ : ∀ a W, Q .normal a W → (Code.exit d).wp P Q a W)
    (hend : ∀ W, R W → W.heap[w.heap.size]? = some (.deferred (some [])) → (∃ r, W.heap[w.heap.size + 1]? = some (.loop r)) → Q .normal { a with defers := { target := .collected w.heap.size, args := #[] } :: a.defers } W) :
    (Code.rangeFunc g ps assign body).wp P Q a w :=
  wp_range_ixG hg eg hit hps I (fun c W => c = .exit d ∧ R W) hI (fun c W W' h hk => ⟨h.1, hR _ _ h.2 hk⟩) hK h0 hb (fun W h1 h2 h3 => hend W (hN W h1) h2 h3) (fun c W h h2 h3 => by
    obtain ⟨rfl, hr⟩ := h
    exact hQ _ _ (hend W hr h2 h3))
def OnlyN (Q : Exit → Act → World → Prop) (e : Exit) (a : Act) (w : World) : Prop := e = .normal ∧ Q .normal a w
theorem wp_region_held2 {P : Program} {id : Nat} {ops : Array Oper} {Q : Exit → Act → World → Prop} {a : Act} {w : World} (S : World → Prop) (hm : P.follows .mixedOrders = true) (hS : S w.drew) (h : S w.drew → wpAnyH P .any ops (OnlyN Q) S ops.size (Array.replicate ops.size false) a w.drew) : (Code.region id ops true).wp P Q a w :=
  Code.wp_mono (fun e a w h => by obtain ⟨rfl, h⟩ := h; exact h) (wp_region_held hm (h hS))
theorem onlyN_panic {Q : Exit → Act → World → Prop} {d : Option Tmp} {v : Value} : ∀ c (a : Act) w, OnlyN Q (.panic c) (a.put d v) w → OnlyN Q (.panic c) a w := fun _ _ _ h => by cases h.1
/-- What holds while lines are gathered, said of the row that they stand in. -/
structure LwE (w : World) (s sb : Nat) (W H : Int) (L : List Stp) (k : Nat) (v : Value) (es : List Le) (wr : World) : Prop where
  ob : wr.heap[w.heap.size]? = some (.cells #[v] 27 (0, 0))
  ls : LsM w.heap.size wr v es
  key : es.map Le.key = (lnsL L W H).take k
  bx : Bx wr s W H sb L
  be : Below w.heap.size w wr
theorem LwE.all {w : World} {s sb : Nat} {W H : Int} {L : List Stp} {k : Nat} {v : Value} {es : List Le} {wr : World} (h : LwE w s sb W H L k v es wr) : LwI w w.heap.size s sb W H L k wr := ⟨⟨v, es, h.ob, h.ls, h.key⟩, h.bx, h.be⟩
theorem LwI.some {w : World} {s sb : Nat} {W H : Int} {L : List Stp} {k : Nat} {wr : World} (h : LwI w w.heap.size s sb W H L k wr) : ∃ v es, LwE w s sb W H L k v es wr := by
  obtain ⟨v, es, h1, h2, h3⟩ := h.ob
  exact ⟨v, es, h1, h2, h3, h.bx, h.be⟩
theorem LwE.old {w : World} {s sb : Nat} {W H : Int} {L : List Stp} {k : Nat} {v : Value} {es : List Le} {wr w' : World} (h : LwE w s sb W H L k v es wr) (hb : Below wr.heap.size wr w') : LwE w s sb W H L k v es w' :=
  ⟨(hb.block _ (lt_of_block h.ob)).trans h.ob, h.ls.old hb, h.key, h.bx.old hb, h.be.trans (hb.mono h.be.size)⟩
/-- One line more. -/
theorem LwE.push {w : World} {s sb : Nat} {W H : Int} {L : List Stp} {k l D : Nat} {wr w7 : World} {v v7 : Value} {es : List Le} {e : Le} {va : Array Value} {r1 : Loop} {r2 : Option (List Deferred)}
    (h : LwE w s sb W H L k v es wr) (hk : (lnsL L W H)[k]? = some e.key) (he : SpIn w.heap.size wr e) (h7 : w7.ownsRow w.heap.size 43 2 v7 (es.length + 1) (leF es ++ e.enc)) (hg : (wr.alloc (.cells va 43)).grownBy w7 v.ownBlock) (hl : wr.heap[l]? = some (.loop r1)) (hD : wr.heap[D]? = some (.deferred r2)) :
    w7.cell? ⟨w.heap.size, 0, none⟩ = some v ∧ w7.frozen? ⟨w.heap.size, 0, none⟩ = false ∧ LwE w s sb W H L (k + 1) v7 (es ++ [e]) (w7.setCell ⟨w.heap.size, 0, none⟩ v7) ∧ (w7.setCell ⟨w.heap.size, 0, none⟩ v7).heap[l]? = some (.loop r1) ∧ (w7.setCell ⟨w.heap.size, 0, none⟩ v7).heap[D]? = some (.deferred r2) ∧
      (∀ (j : Nat) (o : Obj), wr.heap[j]? = some o → (∀ c f, o ≠ .cells c 43 f) → (∀ c f, o ≠ .cells c 27 f) → (w7.setCell ⟨w.heap.size, 0, none⟩ v7).heap[j]? = some o) ∧ wr.heap.size ≤ (w7.setCell ⟨w.heap.size, 0, none⟩ v7).heap.size := by
  have h1 := h.ob
  have h2 := h.ls
  have hbe := h.be
  have hx := h.bx
  have hba : Below wr.heap.size wr (wr.alloc (.cells va 43)) := (Below.refl _ wr).alloc (Nat.le_refl _) _
  have h2a := h2.old hba
  have kk : ∀ (j : Nat) (o : Obj), wr.heap[j]? = some o → (∀ c f, o ≠ .cells c 43 f) → w7.heap[j]? = some o := fun j o hj ho => by
    have ha := (hba.block j (lt_of_block hj)).trans hj
    refine (hg.block j (lt_of_block ha) (fun hb => ?_)).trans ha
    obtain ⟨-, c2, e2⟩ := h2a.tag hb.symm
    rw [ha] at e2
    simp only [Option.some.injEq] at e2
    exact ho _ _ e2
  have k1 := kk _ _ h1 (fun c f h => by cases h)
  have hc := one_cellA k1
  have oth : ∀ j, j ≠ w.heap.size → (w7.setCell ⟨w.heap.size, 0, none⟩ v7).heap[j]? = w7.heap[j]? := fun j hj => Below.heap_setCell _ _ _ _ hj
  have hp := h2a.push h7 hg (he.same fun g cur _ hq => (hba.block g (lt_of_block hq)).trans hq)
  have o2 : ∀ (j : Nat) (o : Obj), wr.heap[j]? = some o → (∀ c f, o ≠ .cells c 43 f) → (∀ c f, o ≠ .cells c 27 f) → (w7.setCell ⟨w.heap.size, 0, none⟩ v7).heap[j]? = some o := fun j o hj ho ho2 => by
    rw [oth j (fun e => by subst e; rw [h1] at hj; simp only [Option.some.injEq] at hj; exact ho2 _ _ hj.symm)]
    exact kk j o hj ho
  refine ⟨hc.1, hc.2, ⟨?_, ?_, ?_, ?_, ?_⟩, ?_, ?_, o2, ?_⟩
  · rw [heap_setCell_same w7 w.heap.size 0 _ _ _ k1]; rfl
  · exact hp.same fun j c t f _ hj ht => by
      rw [oth j (fun e => by subst e; rw [k1] at hj; simp only [Option.some.injEq, Obj.cells.injEq] at hj; obtain ⟨-, rfl, -⟩ := hj; rcases ht with h | h <;> exact absurd h (by decide))]
      exact hj
  · rw [List.map_append, h.key, take_more hk]; rfl
  · exact ⟨o2 _ _ hx.b0 (fun c f h => by cases h) (fun c f h => by cases h), o2 _ _ hx.b1 (fun c f h => by cases h) (fun c f h => by cases h), o2 _ _ hx.b2 (fun c f h => by cases h) (fun c f h => by cases h), o2 _ _ (show wr.heap[sb]? = some (.cells (stA L) 24 (0, 0)) from hx.st) (fun c f h => by cases h) (fun c f h => by cases h)⟩
  · have b1 := hbe.trans (hba.mono hbe.size)
    have b2 := b1.grown hg b1.size (fun j hj => (h2a.tag hj).1)
    exact b2.setCell (p := ⟨w.heap.size, 0, none⟩) (Nat.le_refl _) _
  · exact o2 _ _ hl (fun c f h => by cases h) (fun c f h => by cases h)
  · exact o2 _ _ hD (fun c f h => by cases h) (fun c f h => by cases h)
  · have hs := hg.size
    simp [World.setCell] at hs ⊢
    omega
/-- Block g alone was written over. -/
structure SetG (g n : Nat) (W W' : World) : Prop where
  os : W'.os = W.os
  tape : W'.tape = W.tape
  output : W'.output = W.output
  size : W'.heap.size = W.heap.size
  oth : ∀ j, j ≠ g → W'.heap[j]? = W.heap[j]?
  at' : ∃ cur, W'.heap[g]? = some (.cells cur 45 (0, 0)) ∧ 2 * n ≤ cur.size
theorem SetG.store {g n : Nat} {W W' : World} (h : SetG g n W W') (p : Nat) (v : Value) : SetG g n W (W'.setCell ⟨g, p, none⟩ v) := by
  obtain ⟨cur, h1, h2⟩ := h.at'
  refine ⟨h.os, h.tape, h.output, by simp [World.setCell]; exact h.size, fun j hj => (Below.heap_setCell _ _ _ _ hj).trans (h.oth j hj), ?_⟩
  rw [heap_setCell_same W' g p _ _ _ h1]
  exact ⟨_, rfl, by simpa using h2⟩
theorem SetG.cell {g n : Nat} {W W' : World} (h : SetG g n W W') {i : Nat} (hi : i < 2 * n) : (∃ v, W'.cell? ⟨g, i, none⟩ = some v) ∧ W'.frozen? ⟨g, i, none⟩ = false := by
  obtain ⟨cur, h1, h2⟩ := h.at'
  refine ⟨⟨cur[i]'(by omega), ?_⟩, ?_⟩
  · simp [World.cell?, h1, show i < cur.size by omega]
  · simp [World.frozen?, h1]
/-- What was gathered stays: its places lie in other blocks. -/
theorem LwE.set {w : World} {s sb : Nat} {W H : Int} {L : List Stp} {k : Nat} {v : Value} {es : List Le} {wr w' : World} {g n : Nat} (h : LwE w s sb W H L k v es wr) (hs : SetG g n wr w') (hg : w.heap.size ≤ g) (hgs : ∃ cur, wr.heap[g]? = some (.cells cur 45 (0, 0)))
    (hne : ∀ e ∈ es, e.L = [] ∨ ∃ q, e.a = some ⟨q, 0, none⟩ ∧ q ≠ g) : LwE w s sb W H L k v es w' := by
  obtain ⟨cg, hcg⟩ := hgs
  have nt : ∀ (j : Nat) (c : Array Value) (t : TypeId) (f : Nat × Nat), wr.heap[j]? = some (.cells c t f) → t ≠ 45 → w'.heap[j]? = some (.cells c t f) := fun j c t f hj ht => by
    rw [hs.oth j (fun e => by subst e; rw [hcg] at hj; simp only [Option.some.injEq, Obj.cells.injEq] at hj; exact ht hj.2.1.symm)]
    exact hj
  refine ⟨nt _ _ _ _ h.ob (by decide), ⟨⟨h.ls.own.1, h.ls.own.2.imp id ?_⟩, fun e he => ?_⟩, h.key, ⟨nt _ _ _ _ h.bx.b0 (by decide), nt _ _ _ _ h.bx.b1 (by decide), nt _ _ _ _ h.bx.b2 (by decide), nt _ _ _ _ (show wr.heap[sb]? = some (.cells (stA L) 24 (0, 0)) from h.bx.st) (by decide)⟩, ?_⟩
  · rintro ⟨q, cap, cur, q1, q2, q3, q4⟩
    exact ⟨q, cap, cur, q1, q2, nt _ _ _ _ q3 (by decide), q4⟩
  · obtain ⟨p1, p2, p3, p4⟩ := h.ls.sp e he
    refine ⟨p1, p2, p3, ?_⟩
    rcases p4 with p4 | ⟨q, cur, p4, p5, p6, p7⟩
    · exact .inl p4
    · rcases hne e he with hn | ⟨q', hn1, hn2⟩
      · exact .inl hn
      · rw [p4] at hn1
        simp only [Option.some.injEq, Addr.mk.injEq, and_true] at hn1
        subst hn1
        exact .inr ⟨q, cur, p4, p5, (hs.oth q hn2).trans p6, p7⟩
  · exact ⟨hs.os.trans h.be.os, hs.tape.trans h.be.tape, hs.output.trans h.be.output, by rw [hs.size]; exact h.be.size, fun j hj => (hs.oth j (by omega)).trans (h.be.block j hj)⟩
/-- The places of what was gathered lie ahead of what comes. -/
theorem LwE.ahead {w : World} {s sb : Nat} {W H : Int} {L : List Stp} {k : Nat} {v : Value} {es : List Le} {wr : World} {g : Nat} (h : LwE w s sb W H L k v es wr) (hg : wr.heap.size ≤ g) : ∀ e ∈ es, e.L = [] ∨ ∃ q, e.a = some ⟨q, 0, none⟩ ∧ q ≠ g := fun e he => by
  obtain ⟨-, -, -, p4⟩ := h.ls.sp e he
  rcases p4 with p4 | ⟨q, cur, p4, -, p6, -⟩
  · exact .inl p4
  · exact .inr ⟨q, p4, by have := lt_of_block p6; omega⟩
/-- Fewer of the lines that are read. -/
theorem LsR.take {W : World} {a : Option Addr} {es : List Le} (h : LsR W a es) (n : Nat) : LsR W a (es.take n) := by
  refine ⟨fun e he => h.1 e (List.mem_of_mem_take he), ?_⟩
  rcases h.2 with h2 | ⟨b, off, h1, h2⟩
  · exact .inl (by rw [h2]; simp)
  · refine .inr ⟨b, off, h1, fun i e he => h2 i e ?_⟩
    rw [List.getElem?_take] at he
    split at he
    · exact he
    · cases he
/-- A copy of a line's places. -/
theorem sp_copy {w' : World} {B M : Nat} {v' : Value} {S : List Int} {p : Int} (hl : S.length = 2 * M) (hM : M ≤ 2048) (h : w'.ownsRow B 45 2 v' M (ivalsA S)) (hv : v' ≠ .slice none 0 0) : ∃ g c, v' = .slice (some ⟨g, 0, none⟩) M c ∧ B ≤ g ∧ ∀ B', B' ≤ B → SpIn B' w' ⟨p, some ⟨g, 0, none⟩, M, c, S⟩ := by
  rcases h.2 with ⟨e, _⟩ | ⟨g, c, cur, e, hb, hh, q1, q2, q3, q4⟩
  · exact absurd e hv
  · refine ⟨g, c, e, hb, fun B' hB => ⟨hl, q1, hM, .inr ⟨g, cur, rfl, Nat.le_trans hB hb, hh, fun i hi => ?_⟩⟩⟩
    have hi' : i < M * 2 := by simp only at hi; omega
    have := congrArg (fun l => l[i]?) q4
    simp only [List.getElem?_take, if_pos hi'] at this
    rw [ivalsA_at _ i hi] at this
    simpa using this
theorem sp_news {W : World} {g : Nat} {cur : Array Value} {S : List Int} (h : ∀ j, j < S.length → cur[j]? = some (.int .i64 (S[j]?.getD 0))) (hh : W.heap[g]? = some (.cells cur 45 (0, 0))) : ∀ j u, (ivalsA S)[j]? = some u → W.cell? ((⟨g, 0, none⟩ : Addr).add j) = some u := fun j u hj => by
  have hl : j < S.length := by
    by_cases hq : j < S.length
    · exact hq
    · rw [List.getElem?_eq_none (by rw [ivalsA_len]; omega)] at hj; cases hj
  rw [ivalsA_at _ j hl] at hj
  rw [← hj, ← h j hl]
  by_cases hj0 : j = 0
  · subst hj0; simp [World.cell?, hh, Addr.add]
  · simp [World.cell?, hh, Addr.add, hj0]
theorem new2 (w : World) (x y : Value) : ∀ (j : Nat) u, ([x, y] : List Value)[j]? = some u → (w.alloc (.cells #[x, y] 43)).cell? ((⟨w.heap.size, 0, none⟩ : Addr).add j) = some u := by
  intro j u hj
  match j, hj with
  | 0, hj => simp at hj; subst hj; exact World.cell?_alloc_mark ..
  | 1, hj => simp at hj; subst hj; exact World.cell?_alloc_mark ..
theorem one2 (p : Int) (a : Option Addr) (n c : Nat) : ∀ u ∈ ([.int .i64 p, .slice a n c] : List Value), u.oneCell' = true := by
  intro u hu
  simp at hu
  rcases hu with rfl | rfl <;> rfl
theorem size_of_all {S : List Int} {cur : Array Value} {M : Nat} (hl : S.length = 2 * M) (h : ∀ j, j < S.length → cur[j]? = some (.int .i64 (S[j]?.getD 0))) : 2 * M ≤ cur.size := by
  by_cases hq : 2 * M ≤ cur.size
  · exact hq
  · have := h cur.size (by omega)
    simp at this
/-- The end of a round that wrote over what it was told. -/
theorem left_end {w Wc w8 wr : World} {s sb l D g M k Z : Nat} {W H : Int} {L : List Stp} {v : Value} {es : List Le} {cur : Array Value} {rb : Loop} {rd : Option (List Deferred)} (h : LwE w s sb W H L k v es w8) (hl : w8.heap[l]? = some (.loop rb)) (hD : w8.heap[D]? = some (.deferred rd)) (hk : KpO kpL l Wc w8) (hg : w8.heap[g]? = some (.cells cur 45 (0, 0)))
    (hne : ∀ e ∈ es, e.L = [] ∨ ∃ q, e.a = some ⟨q, 0, none⟩ ∧ q ≠ g) (cl : Wc.heap[l]? = some (.loop rb)) (cD : Wc.heap[D]? = some (.deferred rd)) (hgw : w.heap.size ≤ g) (hs : SetG g M w8 wr) (hZ : k ≤ Z) :
    wr.heap[l]? = Wc.heap[l]? ∧ wr.heap[D]? = Wc.heap[D]? ∧ KpO kpL l Wc wr ∧ LwI w w.heap.size s sb W H L k wr ∧ k ≤ Z := by
  have n1 : l ≠ g := fun e => by subst e; rw [hl] at hg; cases hg
  have n2 : D ≠ g := fun e => by subst e; rw [hD] at hg; cases hg
  refine ⟨(hs.oth l n1).trans (hl.trans cl.symm), (hs.oth D n2).trans (hD.trans cD.symm), ⟨by rw [hs.size]; exact hk.size, fun j o hj ho hp => ?_⟩, (h.set hs hgw ⟨_, hg⟩ hne).all, hZ⟩
  have q := hk.block j o hj ho hp
  rw [hs.oth j (fun e => by subst e; rw [hg] at q; simp only [Option.some.injEq] at q; subst q; exact hp.2.2 rfl)]
  exact q
theorem left_fin {w Wd w8 : World} {d1 d2 : Nat} (h : Below w.heap.size w Wd) (h1 : Wd.heap[d1]? = some (.deferred (some []))) (h2 : Wd.heap[d2]? = some (.deferred (some []))) (hb : Below Wd.heap.size Wd w8) (hw : w.heap.size ≤ d1) (hd : d1 < d2) :
    w8.heap[d2]? = some (.deferred (some [])) ∧ (w8.putObj d2 (.deferred none)).heap[d1]? = some (.deferred (some [])) ∧ Below w.heap.size w ((w8.putObj d2 (.deferred none)).putObj d1 (.deferred none)) := by
  have e2 := (hb.block _ (lt_of_block h2)).trans h2
  have e1 := (hb.block _ (lt_of_block h1)).trans h1
  have e3 : (w8.putObj d2 (.deferred none)).heap[d1]? = some (.deferred (some [])) := (World.putObj_heap_other (by omega)).trans e1
  have b0 := h.trans (hb.mono h.size)
  have k2 : Bk w.heap.size w8 (w8.putObj d2 (.deferred none)) := Bk.of_put _ (by omega) (no_cells_def e2)
  have k1 : Bk w.heap.size (w8.putObj d2 (.deferred none)) ((w8.putObj d2 (.deferred none)).putObj d1 (.deferred none)) := Bk.of_put _ hw (no_cells_def e3)
  exact ⟨e2, e3, k1.below (k2.below b0 (Nat.le_refl _) (Nat.le_refl _)) (Nat.le_refl _) (Nat.le_refl _)⟩
theorem plc_pos {s e : Int} (hs : 1 ≤ s) (he : 1 ≤ e) : 0 < plc 0 s e := by
  unfold plc
  rw [if_neg (by omega)]
  have := Int.ediv_nonneg (a := e - 0 - 1) (b := s) (by omega) (by omega)
  omega
/-- There is a line. -/
theorem lnN_pos (b : Bool) (X Y : Int) (hX : 0 ≤ X ∧ X < 40) (hY : 0 ≤ Y ∧ Y < 40) : 1 ≤ lnN (pngOf b) (1 + X) (1 + Y) := by
  have hm : (1 + X) * (1 + Y) ≤ 40 * 40 := Int.mul_le_mul (by omega) (by omega) (by omega) (by omega)
  have hp : picN (1 + X) (1 + Y) := ⟨by omega, by omega, by omega, by omega, by omega⟩
  have h1 : 1 ≤ (pngOf b).length := by cases b <;> decide
  have h0 : stAt (pngOf b) 0 = ⟨0, 0, 1, 1⟩ ∨ stAt (pngOf b) 0 = ⟨0, 0, 8, 8⟩ := by
    cases b
    · exact .inl rfl
    · exact .inr rfl
  have h2 : 1 ≤ hNt (pngOf b) (1 + X) (1 + Y) 0 := by
    unfold hNt higAt hig
    rcases h0 with h | h
    · rw [h]
      have q1 := plc_pos (s := 1) (e := 1 + X) (by omega) (by omega)
      have q2 := plc_pos (s := 1) (e := 1 + Y) (by omega) (by omega)
      simp only
      rw [if_pos ⟨q1, q2⟩]
      omega
    · rw [h]
      have q1 := plc_pos (s := 8) (e := 1 + X) (by omega) (by omega)
      have q2 := plc_pos (s := 8) (e := 1 + Y) (by omega) (by omega)
      simp only
      rw [if_pos ⟨q1, q2⟩]
      omega
  have h3 := bsN_le (hNt (pngOf b) (1 + X) (1 + Y)) h1
  rw [bsN, bsN] at h3
  unfold lnN psN
  rw [if_pos hp]
  omega
end Go.Proofs.Ytjkhldnjciakkaa
