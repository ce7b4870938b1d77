/- What was seen of chunks, in memory. -/
import Derived.Test.YtoofpkcgiodfcaaCp4
namespace Go.Proofs.Ytoofpkcgiodfcaa
open Go.RowKit
structure Sm where
  s : Sn
  a : Option Addr
  c : Nat
def Sm.enc (x : Sm) : List Value := [.string (strOfNums x.s.kind), .int .i64 x.s.size, .slice x.a x.s.data.length x.c, .bool x.s.fin]
theorem Sm.enc_one (x : Sm) : ∀ u ∈ x.enc, u.oneCell' = true := by
  intro u hu
  simp only [Sm.enc, List.mem_cons, List.not_mem_nil, or_false] at hu
  rcases hu with rfl | rfl | rfl | rfl <;> rfl
def flatS (T : List Sm) : List Value := T.flatMap Sm.enc
theorem flatS_append (l m : List Sm) : flatS (l ++ m) = flatS l ++ flatS m := by simp [flatS]
theorem flatS_one (x : Sm) : flatS [x] = x.enc := by simp [flatS]
theorem flatS_len (T : List Sm) : (flatS T).length = T.length * 4 := by
  induction T with
  | nil => rfl
  | cons x r ih =>
    have e : flatS (x :: r) = x.enc ++ flatS r := by simp [flatS]
    rw [e, List.length_append, ih, List.length_cons]
    show 4 + r.length * 4 = (r.length + 1) * 4
    omega
theorem flatS_at (T : List Sm) (i : Nat) (x : Sm) (hx : T[i]? = some x) (j : Nat) (hj : j < 4) : (flatS T)[i * 4 + j]? = x.enc[j]? := by
  induction T generalizing i with
  | nil => simp at hx
  | cons y r ih =>
    have e : flatS (y :: r) = y.enc ++ flatS r := by simp [flatS]
    have hl : y.enc.length = 4 := rfl
    rw [e]
    cases i with
    | zero =>
      simp at hx
      subst hx
      rw [Nat.zero_mul, Nat.zero_add, List.getElem?_append_left (by omega)]
    | succ i =>
      rw [List.getElem?_append_right (by omega), hl, show (i + 1) * 4 + j - 4 = i * 4 + j by omega]
      exact ih i (by simpa using hx)
theorem Try.infoSn : (Try.prog.info? 46).map (fun i => (i.zero, i.size, i.bytes)) = some (some (.agg #[.string ⟨#[]⟩, .int .i64 0, .slice none 0 0, .bool false]), 4, 56) := by kernel_rfl
def SmRow (w : World) (B : Nat) (v : Value) (S : List Sm) : Prop := w.ownsRow B 46 4 v S.length (flatS S)
theorem SmRow.shape {w : World} {base : Nat} {v : Value} {T : List Sm} (h : SmRow w base v T) : ∃ a c, v = .slice a T.length c ∧ T.length ≤ c ∧ c ≤ maxLen ∧ (a = none → c = 0) := by
  rcases h.2 with ⟨h, h0⟩ | ⟨g, cap, cur, h, hb, hh, h1, h2, h3, h4⟩
  · exact ⟨none, 0, by rw [h, h0], by omega, by unfold maxLen; omega, fun _ => rfl⟩
  · exact ⟨_, cap, h, h1, h2, by intro h; cases h⟩
theorem SmRow.blk {w : World} {base : Nat} {v : Value} {T : List Sm} (h : SmRow w base v T) : ∀ k, v.ownBlock = some k → base ≤ k ∧ k < w.heap.size ∧ ∃ c, w.heap[k]? = some (.cells c 46 (0, 0)) := by
  intro k hk
  rcases h.2 with ⟨h, h0⟩ | ⟨g, cap, cur, h, hb, hh, h1, h2, h3, h4⟩
  · rw [h] at hk; cases hk
  · rw [h] at hk; cases hk; exact ⟨hb, lt_of_block hh, _, hh⟩
theorem SmRow.same {w w' : World} {base : Nat} {v : Value} {T : List Sm} (h : SmRow w base v T) (hs : ∀ k, v.ownBlock = some k → w'.heap[k]? = w.heap[k]?) : SmRow w' base v T := by
  refine ⟨h.1, ?_⟩
  rcases h.2 with h | ⟨g, cap, cur, h, hb, hh, h1, h2, h3, h4⟩
  · exact .inl h
  · exact .inr ⟨g, cap, cur, h, hb, (hs g (by rw [h]; rfl)).trans hh, h1, h2, h3, h4⟩
theorem SmRow.cell {w : World} {base : Nat} {a : Option Addr} {n c : Nat} {T : List Sm} (h : SmRow w base (.slice a n c) T) (i : Nat) (x : Sm) (hx : T[i]? = some x) : ∃ b, a = some ⟨b, 0, none⟩ ∧ base ≤ b ∧ (∀ j, j < 4 → w.cell? ⟨b, i * 4 + j, none⟩ = x.enc[j]?) ∧ (∀ j, w.frozen? ⟨b, j, none⟩ = false) := by
  have hi : i < T.length := by
    by_cases hq : i < T.length
    · exact hq
    · rw [List.getElem?_eq_none (by omega)] at hx; cases hx
  rcases h.2 with ⟨h, h0⟩ | ⟨g, cap, cur, h, hb, hh, h1, h2, h3, h4⟩
  · omega
  · simp only [Value.slice.injEq] at h
    obtain ⟨rfl, _, _⟩ := h
    refine ⟨g, rfl, hb, fun j hj => ?_, fun j => by simp [World.frozen?, hh]⟩
    rw [← flatS_at T i x hx j hj, ← h4]
    have hl := flatS_len T
    have : i * 4 + j < T.length * 4 := by omega
    rw [List.getElem?_take, if_pos (by omega)]
    simp [World.cell?, hh]
/-- The block of a slice. -/
def dblk (a : Option Addr) : Option Nat := a.map (·.block)
theorem Sl.dblk {w : World} {e : TypeId} {a : Option Addr} {n c : Nat} {g : Option Nat} {xs : List Value} (h : Sl w e (.slice a n c) g xs) : g = dblk a := by
  rcases h with ⟨h, hg, _⟩ | ⟨b, off, cap, cur, h, hg, _⟩
  · simp only [Value.slice.injEq] at h
    rw [hg, h.1]; rfl
  · simp only [Value.slice.injEq] at h
    rw [hg, h.1]; rfl
def SmMem (B : Nat) (w : World) (S : List Sm) : Prop := (∀ x ∈ S, Sl w 5 (.slice x.a x.s.data.length x.c) (dblk x.a) (vals x.s.data) ∧ ∀ k, dblk x.a = some k → B ≤ k) ∧ S.Pairwise (fun x y => ∀ k, dblk x.a = some k → dblk y.a ≠ some k)
/-- 'append(l, Seen)'. -/
theorem wpList_push_seen {w : World} {ops : Array Oper} {rest : List Oper} {o : Oper} {a : Act} {Q : Exit → Act → World → Prop} (hgd : o.guard = none) (s x : Operand)
    (ho : o.op = .call { callee := .builtin .append, args := #[s, x], argTypes := #[27, 27] })
    (base : Nat) (v : Value) (T : List Sm) (n : Sm) (hs : a.eval s = v) (hp : SmRow w base v T) (ad : Addr) (c : Nat) (hx : a.eval x = .slice (some ad) 1 c) (hr : ∀ j u, n.enc[j]? = some u → w.cell? (ad.add j) = some u)
    (hlen : T.length ≤ 1000000000) (hbase : base ≤ w.heap.size)
    (h : ∀ v' w', SmRow w' base v' (T ++ [n]) → w.grownBy w' v.ownBlock → wpList Try.prog ops Q rest (a.put o.dst v') w') : wpList Try.prog ops Q (o :: rest) a w := by
  obtain ⟨i0, hi, hz0, hz1, hz2⟩ := info_parts Try.infoSn
  refine wpList_append_own w hgd s x 27 ho base 46 i0 _ 4 56 Try.underlying27 hi hz0 hz1 hz2 rfl (by decide) v T.length (flatS T) hs hp ad 1 c n.enc hx rfl hr n.enc_one (by unfold maxLen; omega) (by omega) hbase ?_
  intro v' w' hown hg _
  refine h v' w' ?_ hg
  unfold SmRow
  rw [List.length_append, flatS_append, flatS_one]
  exact hown
theorem gath_split : ∀ (A C : List Pq) {l G : List Sn}, gath l (A ++ C) = some G → ∃ m, gath l A = some m ∧ gath m C = some G
  | [], C, l, G, h => ⟨l, rfl, h⟩
  | q :: r, C, l, G, h => by
    simp only [List.cons_append, gath] at h ⊢
    cases hg : gath1 l q with
    | none => rw [hg] at h; cases h
    | some m =>
      rw [hg] at h
      exact gath_split r C h
theorem gath1_cases {l l' : List Sn} {q : Pq} (h : gath1 l q = some l') : ∃ l2 y, (if q.bg = true then l ++ [⟨q.kind, q.size, [], false⟩] else l) = l2 ++ [y] ∧ y.fin = false ∧ y.kind = q.kind ∧ y.size = q.size ∧ ¬ (q.bg = false ∧ q.en = false ∧ q.data = []) ∧ l' = l2 ++ [⟨q.kind, q.size, y.data ++ q.data, q.en⟩] := by
  unfold gath1 at h
  generalize (if q.bg = true then l ++ [⟨q.kind, q.size, [], false⟩] else l) = l1 at *
  cases hl : l1.getLast? with
  | none => rw [hl] at h; cases h
  | some x =>
    rw [hl] at h
    simp only at h
    split at h
    · cases h
    · rename_i hn
      simp only [not_or] at hn
      obtain ⟨n1, n2, n3, n4⟩ := hn
      simp only [Option.some.injEq] at h
      obtain ⟨l0, rfl⟩ : ∃ l0, l1 = l0 ++ [x] := by
        rw [List.getLast?_eq_some_iff] at hl
        exact hl
      have e2 : x.kind = q.kind := Classical.not_not.1 n2
      have e3 : x.size = q.size := Classical.not_not.1 n3
      refine ⟨l0, x, rfl, by simpa using n1, e2, e3, n4, ?_⟩
      rw [← h, List.dropLast_concat, e2, e3]
/-- What a call that gathers may change. -/
structure FrS (w wr : World) (o0 : Option Nat) (S0 : List Sm) : Prop where
  os : wr.os = w.os
  tape : wr.tape = w.tape
  output : wr.output = w.output
  size : w.heap.size ≤ wr.heap.size
  block : ∀ k, k < w.heap.size → o0 ≠ some k → (∀ x ∈ S0, dblk x.a ≠ some k) → wr.heap[k]? = w.heap[k]?
structure GaI (B : Nat) (w : World) (o0 : Option Nat) (S0 S : List Sm) (v : Value) (wr : World) : Prop where
  row : SmRow wr B v S
  mem : SmMem B wr S
  be : Below B w wr
  fr : FrS w wr o0 S0
  old : ∀ x ∈ S, ∀ k, dblk x.a = some k → (∃ y ∈ S0, dblk y.a = some k) ∨ w.heap.size ≤ k
  own : ∀ k, v.ownBlock = some k → o0 = some k ∨ w.heap.size ≤ k
section
variable {B : Nat} {w wr : World} {o0 : Option Nat} {S0 S : List Sm} {v : Value}
theorem GaI.quiet (h : GaI B w o0 S0 S v wr) {w' : World} (hb : Below wr.heap.size wr w') (hB : B ≤ w.heap.size) : GaI B w o0 S0 S v w' := by
  refine ⟨h.row.same fun k hk => hb.block k (h.row.blk k hk).2.1, ⟨fun x hx => ?_, h.mem.2⟩, chainB h.be hb (Nat.le_trans hB h.be.size), ⟨hb.os.trans h.fr.os, hb.tape.trans h.fr.tape, hb.output.trans h.fr.output, Nat.le_trans h.fr.size hb.size, fun k hk h1 h2 => (hb.block k (by have := h.fr.size; omega)).trans (h.fr.block k hk h1 h2)⟩, h.old, h.own⟩
  obtain ⟨h1, h2⟩ := h.mem.1 x hx
  exact ⟨h1.same fun k hk => hb.block k (h1.lt hk), h2⟩
/-- A chunk more. -/
theorem GaI.push (h : GaI B w o0 S0 S v wr) (hB : B ≤ w.heap.size) {v' : Value} {w' : World} {s : Sn} (hs : s.data = []) (hrow : SmRow w' B v' (S ++ [⟨s, none, 0⟩])) (hg : wr.grownBy w' v.ownBlock) (hv' : v'.ownBlock = v.ownBlock ∨ ∃ k, v'.ownBlock = some k ∧ wr.heap.size ≤ k) : GaI B w o0 S0 (S ++ [⟨s, none, 0⟩]) v' w' := by
  have tag : ∀ k c fr, wr.heap[k]? = some (.cells c 5 fr) → v.ownBlock ≠ some k := by
    intro k c fr hc e
    obtain ⟨_, _, c2, h2⟩ := h.row.blk k e
    rw [hc] at h2
    simp at h2
  have hBw : B ≤ wr.heap.size := Nat.le_trans hB h.be.size
  refine ⟨hrow, ⟨fun x hx => ?_, ?_⟩, h.be.grown hg hBw (fun k hk => (h.row.blk k hk).1), ⟨hg.os.trans h.fr.os, hg.tape.trans h.fr.tape, hg.output.trans h.fr.output, Nat.le_trans h.fr.size hg.size, fun k hk h1 h2 => ?_⟩, fun x hx => ?_, fun k hk => ?_⟩
  · rcases List.mem_append.1 hx with hx | hx
    · obtain ⟨h1, h2⟩ := h.mem.1 x hx
      refine ⟨h1.same fun k hk => ?_, h2⟩
      obtain ⟨c, hc⟩ := h1.tagB k hk
      exact hg.block k (h1.lt hk) (fun e => tag k c _ hc e.symm)
    · obtain rfl := List.mem_singleton.1 hx
      refine ⟨?_, by intro k hk; cases hk⟩
      show Sl w' 5 (.slice none s.data.length 0) none (vals s.data)
      rw [hs]
      exact Sl.nil _ _
  · refine List.pairwise_append.2 ⟨h.mem.2, by simp, fun x _ y hy k _ => ?_⟩
    obtain rfl := List.mem_singleton.1 hy
    simp [dblk]
  · have e := h.fr.block k hk h1 h2
    refine (hg.block k (by have := h.fr.size; omega) fun e2 => ?_).trans e
    rcases h.own k e2.symm with h3 | h3
    · exact h1 h3
    · omega
  · rcases List.mem_append.1 hx with hx | hx
    · exact h.old x hx
    · obtain rfl := List.mem_singleton.1 hx
      intro k hk
      cases hk
  · rcases hv' with e | ⟨j, e, hj⟩
    · exact h.own k (by rw [← e]; exact hk)
    · rw [e] at hk
      cases hk
      have := h.fr.size
      right; omega
/-- The last chunk has more data, and may end. -/
theorem GaI.more {S2 : List Sm} {y : Sm} {g c2 : Nat} (h : GaI B w o0 S0 (S2 ++ [y]) (.slice (some ⟨g, 0, none⟩) (S2 ++ [y]).length c2) wr) (hB : B ≤ w.heap.size) {d : List Int} {a7 : Option Addr} {c7 : Nat} {w7 : World} {g7 : Option Nat} {fin : Bool}
    (hs : Sl w7 5 (.slice a7 (y.s.data ++ d).length c7) g7 (vals (y.s.data ++ d))) (hg7 : g7 = dblk y.a ∨ ∃ k, g7 = some k ∧ wr.heap.size ≤ k) (hg : wr.grownBy w7 (dblk y.a)) {s' : Sn} (hs' : s' = ⟨y.s.kind, y.s.size, y.s.data ++ d, fin⟩) :
    GaI B w o0 S0 (S2 ++ [⟨s', a7, c7⟩]) (.slice (some ⟨g, 0, none⟩) (S2 ++ [(⟨s', a7, c7⟩ : Sm)]).length c2) ((w7.setCell ⟨g, S2.length * 4 + 2, none⟩ (.slice a7 (y.s.data ++ d).length c7)).setCell ⟨g, S2.length * 4 + 3, none⟩ (.bool fin)) := by
  subst hs'
  obtain ⟨hr1, hr2, c0, hr3⟩ := h.row.blk g rfl
  have hBw : B ≤ wr.heap.size := Nat.le_trans hB h.be.size
  obtain ⟨hy1, hy2⟩ := h.mem.1 y (by simp)
  have hgy : ∀ k, dblk y.a = some k → k ≠ g := by
    rintro k hk rfl
    obtain ⟨c, hc⟩ := hy1.tagB k hk
    rw [hr3] at hc
    simp at hc
  have hrow7 : SmRow w7 B (.slice (some ⟨g, 0, none⟩) (S2 ++ [y]).length c2) (S2 ++ [y]) := h.row.same fun k hk => by
    cases hk
    exact hg.block g hr2 (fun e => hgy g e.symm rfl)
  have hg7g : g7 ≠ some g := by
    rcases hg7 with e | ⟨k, e, hk⟩
    · rw [e]; intro hh; exact hgy g hh rfl
    · rw [e]; intro hh; cases hh; omega
  have d7 := hs.dblk
  have st1 := hrow7.stored (S2.length * 4 + 2) (.slice a7 (y.s.data ++ d).length c7)
  have st2 := st1.1.stored (S2.length * 4 + 3) (.bool fin)
  have hset : ((flatS (S2 ++ [y])).set (S2.length * 4 + 2) (.slice a7 (y.s.data ++ d).length c7)).set (S2.length * 4 + 3) (.bool fin) = flatS (S2 ++ [⟨⟨y.s.kind, y.s.size, y.s.data ++ d, fin⟩, a7, c7⟩]) := by
    rw [flatS_append, flatS_append, flatS_one, flatS_one, List.set_append_right _ _ (by rw [flatS_len]; omega), flatS_len, Nat.add_sub_cancel_left, List.set_append_right _ _ (by rw [flatS_len]; omega), flatS_len, Nat.add_sub_cancel_left]
    rfl
  have hlen : (S2 ++ [(⟨⟨y.s.kind, y.s.size, y.s.data ++ d, fin⟩, a7, c7⟩ : Sm)]).length = (S2 ++ [y]).length := by simp
  have hlast : ∀ k, k ≠ g → ((w7.setCell ⟨g, S2.length * 4 + 2, none⟩ (.slice a7 (y.s.data ++ d).length c7)).setCell ⟨g, S2.length * 4 + 3, none⟩ (.bool fin)).heap[k]? = w7.heap[k]? := by
    intro k hk
    rw [Below.heap_setCell _ _ _ _ hk, Below.heap_setCell _ _ _ _ hk]
  have hgB : ∀ k, dblk y.a = some k → B ≤ k := hy2
  refine ⟨?_, ⟨fun x hx => ?_, ?_⟩, ?_, ⟨hg.os.trans h.fr.os, hg.tape.trans h.fr.tape, hg.output.trans h.fr.output, ?_, fun k hk h1 h2 => ?_⟩, fun x hx k hk => ?_, fun k hk => h.own k hk⟩
  · unfold SmRow
    rw [hlen, ← hset]
    exact st2.1
  · rcases List.mem_append.1 hx with hx | hx
    · obtain ⟨h1, h2⟩ := h.mem.1 x (List.mem_append_left _ hx)
      refine ⟨h1.same fun k hk => ?_, h2⟩
      have hkg : k ≠ g := by
        rintro rfl
        obtain ⟨c, hc⟩ := h1.tagB k hk
        rw [hr3] at hc
        simp at hc
      rw [hlast k hkg]
      refine hg.block k (h1.lt hk) fun e => ?_
      exact (List.pairwise_append.1 h.mem.2).2.2 x hx y (by simp) k hk e.symm
    · obtain rfl := List.mem_singleton.1 hx
      refine ⟨?_, fun k hk => ?_⟩
      · show Sl _ 5 (.slice a7 (y.s.data ++ d).length c7) (dblk a7) (vals (y.s.data ++ d))
        rw [← d7]
        exact hs.same fun k hk => hlast k (fun e => hg7g (by rw [hk, e]))
      · rw [← d7] at hk
        rcases hg7 with e | ⟨j, e, hj⟩
        · exact hgB k (e ▸ hk)
        · rw [e] at hk; cases hk; omega
  · refine List.pairwise_append.2 ⟨(List.pairwise_append.1 h.mem.2).1, by simp, fun x hx z hz k hk => ?_⟩
    obtain rfl := List.mem_singleton.1 hz
    show dblk a7 ≠ some k
    rw [← d7]
    rcases hg7 with e | ⟨j, e, hj⟩
    · rw [e]; exact (List.pairwise_append.1 h.mem.2).2.2 x hx y (by simp) k hk
    · rw [e]
      intro hh
      cases hh
      have := (h.mem.1 x (List.mem_append_left _ hx)).1.lt hk
      omega
  · refine (h.be.grown hg hBw hgB).trans ⟨rfl, rfl, rfl, by simp [World.setCell], fun k hk => hlast k (by omega)⟩
  · have := hg.size
    have := h.fr.size
    simp [World.setCell]
    omega
  · have e := h.fr.block k hk h1 h2
    have hkg : k ≠ g := by
      intro e3
      rcases h.own g rfl with h3 | h3
      · exact h1 (by rw [e3]; exact h3)
      · omega
    rw [hlast k hkg]
    refine (hg.block k (by have := h.fr.size; omega) fun e2 => ?_).trans e
    rcases h.old y (by simp) k e2.symm with ⟨z, hz, hzk⟩ | hge
    · exact h2 z hz hzk
    · omega
  · rcases List.mem_append.1 hx with hx | hx
    · exact h.old x (List.mem_append_left _ hx) k hk
    · obtain rfl := List.mem_singleton.1 hx
      have hk' : g7 = some k := by rw [d7]; exact hk
      rcases hg7 with e | ⟨j, e, hj⟩
      · exact h.old y (by simp) k (e ▸ hk')
      · rw [e] at hk'; cases hk'
        have := h.fr.size
        right; omega
end
end Go.Proofs.Ytoofpkcgiodfcaa
