/- Packed chunks, pushed piece by piece and gathered: one round. -/
import Derived.Test.YtoofpkcgiodfcaaBp1
namespace Go.Proofs.Ytoofpkcgiodfcaa
open Go.RowKit
/-- Bytes of which no beginning is wrong. -/
def PGood (P : List Int) : Prop := Bytes P ∧ P.length ≤ 100000 ∧ ∀ i W er, ofAll (P.take i) = (W, er) → er = 0 ∨ er = 2
structure BbI (w : World) (P : List Int) (p t : Nat) (S : List Sm) (L : List Sn) (now : Nat) (cur : List Int) (ar : Option Addr) (cr : Nat) (v : Value) (wr : World) : Prop where
  tle : t ≤ P.length
  rd : CRd wr p (P.take t) L now cur
  mp : S.map Sm.s = L ++ here now cur
  row : SmRow wr (p + 1) v S
  mem : SmMem (p + 1) wr S
  rst : Rst p wr p (P.drop t) ar cr
  be : Below w.heap.size w wr
  pw : w.heap.size ≤ p
structure Bb2 (w : World) (P : List Int) (p t : Nat) (S : List Sm) (T : List Pm) (BT : Nat) (L : List Sn) (now : Nat) (cur : List Int) (ar : Option Addr) (cr : Nat) (v vt : Value) (wr : World) : Prop where
  tle : t ≤ P.length
  rd : CRd wr p (P.take t) L now cur
  ga : gath (S.map Sm.s) (T.map Pm.q) = some (L ++ here now cur)
  row : SmRow wr (p + 1) v S
  mem : SmMem (p + 1) wr S
  pc : PcI BT wr vt T S
  sl : S.length ≤ 100000
  sd : ∀ x ∈ S, x.s.data.length ≤ 100000
  tl : T.length ≤ 100001
  td : ∀ x ∈ T, x.q.data.length ≤ 100000
  rst : Rst p wr p (P.drop t) ar cr
  be : Below w.heap.size w wr
  pw : w.heap.size ≤ p
section
variable {w : World} {P : List Int} {p t : Nat} {S : List Sm} {L : List Sn} {now : Nat} {cur : List Int} {ar : Option Addr} {cr : Nat} {v : Value} {wr : World}
theorem BbI.small (h : BbI w P p t S L now cur ar cr v wr) (hP : PGood P) : S.length ≤ 100000 ∧ ∀ x ∈ S, x.s.data.length ≤ 100000 := by
  have h1 := h.rd.2.1.say h.rd.1
  obtain ⟨h2, h3⟩ := ofAll_small (P.take t)
  rw [h1, ← h.mp] at h2 h3
  rw [List.length_take] at h2 h3
  have := hP.2.1
  rw [List.length_map] at h2
  exact ⟨by omega, fun x hx => by have := h3 x.s (List.mem_map_of_mem hx); omega⟩
theorem BbI.push (h : BbI w P p t S L now cur ar cr v wr) (hP : PGood P) (K : Nat) (hK : K ≤ P.length - t) :
    Calls Try.prog 10 #[.pointer (some ⟨p, 0, none⟩), .slice ar K cr] wr fun e w' => ∃ at' ct T BT L' now' cur', e = .returned (.tuple #[.slice at' T.length ct, .int .i64 0]) ∧ Bb2 w P p (t + K) S T BT L' now' cur' (if cr = K then ar else Option.map (fun x => x.add K) ar) (cr - K) v (.slice at' T.length ct) w' := by
  have hPl := hP.2.1
  have htl := h.tle
  obtain ⟨r1, r2, r3, r4, r5⟩ := id h.rst
  rw [List.length_drop] at r1
  obtain ⟨bs, hbs⟩ : ∃ bs, (P.drop t).take K = bs := ⟨_, rfl⟩
  have hbl : bs.length = K := by rw [← hbs, List.length_take, List.length_drop]; omega
  have hpt : P.take t ++ bs = P.take (t + K) := by rw [← hbs, List.take_add]
  obtain ⟨s1, s2⟩ := h.small hP
  refine (push_any bs (by rw [← hbs]; intro z hz; exact hP.1 z (List.mem_of_mem_drop (List.mem_of_mem_take hz))) ar K cr hbl (by omega) (by omega) r2 r3 (by rw [← hbs]; exact r4.take K) (fun x hx hne => (r5 x hx (by intro e; rw [e] at hbs; simp at hbs; exact hne hbs)).1) h.rd).mono ?_
  rintro e w' ⟨vt, T, er, rfl, hpr, htok, hfr, htl2, hen, hcase⟩
  rw [hpt] at hcase
  have bad : ∀ W, ofAll (P.take (t + K)) = (W, er) → er = 0 ∨ er = 2 := fun W hW => hP.2.2 _ _ _ hW
  rcases hcase with ⟨rfl, L', now', cur', hcr, hg⟩ | ⟨her, _, W, hW, _⟩
  · obtain ⟨at', ct, rfl, _⟩ := hpr.shape
    have hkeep : ∀ k, p + 1 ≤ k → k < wr.heap.size → w'.heap[k]? = wr.heap[k]? := fun k h1 h2 => hfr.block k h2 (by omega) (by simp)
    have hsay := hcr.2.1.say hcr.1
    obtain ⟨g1, g2⟩ := ofAll_small (P.take (t + K))
    rw [hsay, List.length_take] at g1 g2
    have hrst : Rst p w' p (P.drop t) ar cr := ⟨h.rst.1, r2, r3, r4.same fun x hx hz => hfr.block _ (r4.lt x hx hz) (r5 x hx hz).1 (by simp), r5⟩
    have hcut := hrst.cut K (by rw [List.length_drop]; omega)
    rw [List.drop_drop] at hcut
    refine ⟨at', ct, T, wr.heap.size, L', now', cur', rfl, ⟨by omega, hcr, by rw [h.mp]; exact hg, h.row.same fun k hk => hkeep k (h.row.blk k hk).1 (h.row.blk k hk).2.1, ⟨fun x hx => ?_, h.mem.2⟩, ⟨hpr, fun x hx => ?_, fun x hx y hy k hk e => ?_⟩, s1, s2, by omega, fun x hx => ?_, hcut, ?_, h.pw⟩⟩
    · obtain ⟨h1, h2⟩ := h.mem.1 x hx
      exact ⟨h1.same fun k hk => hkeep k (h2 k hk) (h1.lt hk), h2⟩
    · obtain ⟨k0, h1, _⟩ := htok x hx
      have := h1.dblk
      rw [← this]
      exact h1
    · obtain ⟨k0, h1, h2⟩ := htok x hx
      have h3 := (h2 k (by rw [h1.dblk]; exact hk)).1
      have h4 := (h.mem.1 y hy).1.lt e
      omega
    · obtain ⟨s, hs, h1⟩ := (gath_data _ hg).1 x.q (List.mem_map_of_mem hx)
      have := g2 s hs
      omega
    · exact ⟨hfr.os.trans h.be.os, hfr.tape.trans h.be.tape, hfr.output.trans h.be.output, Nat.le_trans h.be.size hfr.size, fun k hk => (hfr.block k (by have := h.be.size; omega) (by have := h.pw; omega) (by simp)).trans (h.be.block k hk)⟩
  · have := bad W hW
    omega
end
section
variable {w : World} {P : List Int} {p t : Nat} {S : List Sm} {T : List Pm} {BT : Nat} {L : List Sn} {now : Nat} {cur : List Int} {ar : Option Addr} {cr : Nat} {al at' : Option Addr} {n cl ct : Nat} {wr : World}
theorem Bb2.gather (h : Bb2 w P p t S T BT L now cur ar cr (.slice al n cl) (.slice at' T.length ct) wr) :
    Calls Try.prog 13 #[.slice al n cl, .slice at' T.length ct] wr fun e w' => ∃ v' S', e = .returned (.tuple #[v', .bool true]) ∧ BbI w P p t S' L now cur ar cr v' w' := by
  have hp := h.rd.lt
  obtain ⟨a2, c2, hv, _⟩ := h.row.shape
  simp only [Value.slice.injEq] at hv
  obtain ⟨-, rfl, -⟩ := hv
  refine (lgather_any (p + 1) BT al at' cl ct S T (L ++ here now cur) wr h.row h.mem (by omega) h.pc (by have := h.sl; have := h.tl; omega) (fun x hx => by have := h.sd x hx; omega) (fun x hx => by have := h.td x hx; omega) h.ga _ rfl).mono ?_
  rintro e w' ⟨v', S', rfl, hm, hga⟩
  have hb : Below p wr w' := hga.be.mono (by omega)
  refine ⟨v', S', rfl, ⟨h.tle, h.rd.same (hga.be.block p (by omega)), hm, hga.row, hga.mem, h.rst.below hb, h.be.trans (hga.be.mono (by have := h.pw; omega)), h.pw⟩⟩
end
/-- At the end. -/
theorem BbI.fin {w : World} {P : List Int} {p t : Nat} {S : List Sm} {L : List Sn} {now : Nat} {cur : List Int} {ar : Option Addr} {cr : Nat} {v : Value} {wr : World} {G : List Sn} (h : BbI w P p t S L now cur ar cr v wr) (ht : P.length ≤ t) (hG : ofAll P = (G, 0)) : CRd wr p (P.take t) L 1 [] ∧ S.map Sm.s = G := by
  have h1 := h.rd.2.1.say h.rd.1
  rw [List.take_of_length_le ht, hG] at h1
  simp only [Prod.mk.injEq] at h1
  obtain ⟨e1, e2⟩ := h1
  by_cases hc : now = 1 ∧ cur = []
  · have := h.rd
    obtain ⟨rfl, rfl⟩ := hc
    exact ⟨this, by rw [h.mp, e1]⟩
  · rw [if_neg hc] at e2
    cases e2
theorem pack_good (F : Nat → Ck) (k : Nat) (hok : okK F k) (hz : ∀ i, i < k → (F i).z.length ≤ 5000) (hb : ∀ i, i < k → Bytes (F i).z) (hl : (packB F k).length ≤ 100000) : PGood (packB F k) := by
  refine ⟨?_, hl, fun i W er hs => pack_part F k hok hz (List.take_append_drop i _) hs⟩
  clear hl
  induction k with
  | zero => exact (bytes_of_all (by decide) : Bytes first8)
  | succ k ih =>
    rw [packB]
    exact (ih (fun i hi => hok i (by omega)) (fun i hi => hz i (by omega)) (fun i hi => hb i (by omega))).app (chB_bytes (kb_bytes _) (hb k (by omega)))
/-- The chunks that are wanted, in memory. -/
structure WaI (F : Nat → Ck) (k : Nat) (W : List Sm) (v : Value) (w wr : World) : Prop where
  row : SmRow wr w.heap.size v W
  mp : W.map Sm.s = snL F k
  dat : ∀ x ∈ W, Row w x.a x.s.data
  be : Below w.heap.size w wr
  len : W.length = k
theorem WaI.push {F : Nat → Ck} {k : Nat} {W : List Sm} {v v' : Value} {w wr w2 w' : World} (h : WaI F k W v w wr) (hb : Below wr.heap.size wr w2) (hrow : SmRow w' w.heap.size v' (W ++ [⟨⟨kb (F k).kind, (F k).z.length, (F k).z, true⟩, (F k).a, (F k).c⟩])) (hg : w2.grownBy w' v.ownBlock) (hr : Row w (F k).a (F k).z) : WaI F (k + 1) (W ++ [⟨⟨kb (F k).kind, (F k).z.length, (F k).z, true⟩, (F k).a, (F k).c⟩]) v' w w' := by
  have hb2 : Below w.heap.size w w2 := chainB h.be hb h.be.size
  refine ⟨hrow, by rw [List.map_append, h.mp, snL]; rfl, fun x hx => ?_, hb2.grown hg hb2.size (fun k hk => (h.row.blk k hk).1), by rw [List.length_append, h.len]; rfl⟩
  rcases List.mem_append.1 hx with hx | hx
  · exact h.dat x hx
  · obtain rfl := List.mem_singleton.1 hx
    exact hr
end Go.Proofs.Ytoofpkcgiodfcaa
