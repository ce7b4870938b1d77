/- The receiver: a text that is cut into items: what stands between. -/
import Derived.Test.YtmfciheenemapaaRqN
namespace Go.Proofs.Ytmfciheenemapaa
open Go.RowKit
def zAt (Tx : List Int) (K j : Nat) : List Int := (Tx.drop (j * K)).take K
def itP (tb off cap : Nat) (Tx : List Int) (K j : Nat) : Pt := ⟨some ⟨tb, off + j * K, none⟩, cap - j * K, zAt Tx K j⟩
def itQ (tb off cap : Nat) (Tx : List Int) (K n : Nat) : List Pt := (List.range n).map (itP tb off cap Tx K)
theorem zAt_len (Tx : List Int) (K j : Nat) : (zAt Tx K j).length = min K (Tx.length - j * K) := by simp [zAt]
theorem take_next (Tx : List Int) (K j : Nat) : Tx.take (j * K) ++ zAt Tx K j = Tx.take ((j + 1) * K) := by
  unfold zAt
  rw [← List.take_add, Nat.add_mul, Nat.one_mul]
theorem itP_ok {w : World} {tb off cap : Nat} {Tx : List Int} {K j : Nat} (hr : Row w (some ⟨tb, off, none⟩) Tx) (hb : Bytes Tx) (hL : Tx.length ≤ cap) (hc : cap ≤ maxLen) (hl : Tx.length ≤ 1000) (hj : j * K ≤ Tx.length) : PtOk w (itP tb off cap Tx K j) := by
  refine ⟨(hb.drop _).take _, ?_, ⟨?_, ?_⟩, (fun h => by cases h), ?_⟩
  · show (zAt Tx K j).length ≤ cap - j * K
    rw [zAt_len]; omega
  · show (zAt Tx K j).length ≤ _
    rw [zAt_len]; omega
  · show cap - j * K ≤ _
    unfold maxLen at hc; omega
  · show Row w (some ⟨tb, off + j * K, none⟩) (zAt Tx K j)
    have h1 := (hr.cut (j * K) cap (by omega) hL).take K
    by_cases e : cap = j * K
    · refine .inl (List.eq_nil_of_length_eq_zero ?_)
      rw [zAt_len]; omega
    · rw [if_neg e] at h1
      simpa [zAt, Addr.add_lit] using h1
structure WhI (w : World) (b m tb off cap : Nat) (Tx : List Int) (K n : Nat) (W : Int) (vi : Value) (gi : Option Nat) (nx : Nat) (H : List (Int × Pt)) (tv : Value) (gt : Option Nat) (wr : World) : Prop where
  rc : Rc wr b m n W nx H
  up : HUp ((nx : Int) + 1) H
  hz : ∀ p ∈ H, p.2.z = zAt Tx K p.1.toNat
  na : ∀ p ∈ H, ∀ x, p.2.a = some x → p.2.z ≠ [] → gt ≠ some x.block
  ts : Sl wr 5 tv gt (vals (Tx.take (nx * K)))
  is : Sl wr 32 vi gi (pvl (itQ tb off cap Tx K n))
  be : Below w.heap.size w wr
  fr : w.heap.size ≤ b ∧ w.heap.size ≤ m
  gI : ∀ k, gi = some k → k ≠ b ∧ k ≠ m
  gT : ∀ k, gt = some k → w.heap.size ≤ k ∧ k ≠ b ∧ k ≠ m ∧ gi ≠ some k
theorem WhI.old {w wr w' : World} {b m tb off cap K n nx : Nat} {Tx : List Int} {W : Int} {vi tv : Value} {gi gt : Option Nat} {H : List (Int × Pt)} (h : WhI w b m tb off cap Tx K n W vi gi nx H tv gt wr) (f : Below wr.heap.size wr w') : WhI w b m tb off cap Tx K n W vi gi nx H tv gt w' :=
  ⟨h.rc.old f, h.up, h.hz, h.na, h.ts.same fun k hk => f.block k (h.ts.lt hk), h.is.same fun k hk => f.block k (h.is.lt hk), h.be.trans (f.mono h.be.size), h.fr, h.gI, h.gT⟩
/-- While what was told is gathered. -/
structure WhM (w : World) (b m tb off cap : Nat) (Tx : List Int) (K n : Nat) (W : Int) (vi : Value) (gi : Option Nat) (nx nx' : Nat) (H : List (Int × Pt)) (P : List Pt) (v : Value) (t : Nat) (tv : Value) (gt : Option Nat) (wr : World) : Prop where
  rc : Rc wr b m n W nx' H
  up : HUp ((nx' : Int) + 1) H
  hz : ∀ p ∈ H, p.2.z = zAt Tx K p.1.toNat
  na : ∀ p ∈ H, ∀ x, p.2.a = some x → p.2.z ≠ [] → gt ≠ some x.block
  ts : Sl wr 5 tv gt (vals (Tx.take ((nx + t) * K)))
  is : Sl wr 32 vi gi (pvl (itQ tb off cap Tx K n))
  be : Below w.heap.size w wr
  fr : w.heap.size ≤ b ∧ w.heap.size ≤ m
  gI : ∀ k, gi = some k → k ≠ b ∧ k ≠ m
  gT : ∀ k, gt = some k → w.heap.size ≤ k ∧ k ≠ b ∧ k ≠ m ∧ gi ≠ some k
  sl : ∃ g, Sl wr 32 v g (pvl P) ∧ ∀ k, g = some k → gt ≠ some k
  pk : ∀ q ∈ P, PtOk wr q ∧ ∀ x, q.a = some x → q.z ≠ [] → gt ≠ some x.block
  eq : nx' = nx + P.length
  tl : ∀ (j : Nat) q, P[j]? = some q → q.z = zAt Tx K (nx + j)
theorem Rc.grow {w w' : World} {b m : Nat} {n W nx : Int} {H : List (Int × Pt)} (h : Rc w b m n W nx H) {gt : Option Nat} (hg : w.grownBy w' gt) (h1 : gt ≠ some b) (h2 : gt ≠ some m) (na : ∀ p ∈ H, ∀ x, p.2.a = some x → p.2.z ≠ [] → gt ≠ some x.block) : Rc w' b m n W nx H :=
  ⟨(hg.block b (lt_of_block h.c) (fun e => h1 e.symm)).trans h.c, h.m.same (hg.block m h.m.lt (fun e => h2 e.symm)), h.up, h.top, fun p hp =>
    ⟨(h.ok p hp).1, (h.ok p hp).2.1, (h.ok p hp).2.2.1, (h.ok p hp).2.2.2.1, (h.ok p hp).2.2.2.2.same fun x hx hz => hg.block x.block ((h.ok p hp).2.2.2.2.lt x hx hz) (fun e => na p hp x hx hz e.symm)⟩, h.nb⟩
theorem WhM.step {w wr w' : World} {b m tb off cap K n nx nx' t : Nat} {Tx : List Int} {W : Int} {vi tv tv' v : Value} {gi gt gt' : Option Nat} {H : List (Int × Pt)} {P : List Pt} {q : Pt} (h : WhM w b m tb off cap Tx K n W vi gi nx nx' H P v t tv gt wr) (hq : P[t]? = some q)
    (hs : Sl w' 5 tv' gt' (vals (Tx.take ((nx + t) * K) ++ q.z))) (hg : gt' = gt ∨ ∃ k, gt' = some k ∧ wr.heap.size ≤ k) (hgr : wr.grownBy w' gt) : WhM w b m tb off cap Tx K n W vi gi nx nx' H P v (t + 1) tv' gt' w' := by
  have e1 := h.tl t q hq
  rw [e1, take_next, Nat.add_assoc] at hs
  have hb : ∀ k, gt = some k → b ≠ k ∧ m ≠ k := fun k hk => ⟨fun e => (h.gT k hk).2.1 e.symm, fun e => (h.gT k hk).2.2.1 e.symm⟩
  have g1 : gt ≠ some b := fun e => (h.gT b e).2.1 rfl
  have g2 : gt ≠ some m := fun e => (h.gT m e).2.2.1 rfl
  obtain ⟨g5, s5, s6⟩ := h.sl
  have new : ∀ k, k < wr.heap.size → gt ≠ some k → gt' ≠ some k := fun k hk hn => by
    rcases hg with e | ⟨k', e, hk'⟩
    · rw [e]; exact hn
    · rw [e]; intro e2; simp at e2; omega
  have gt_ne : ∀ k, gi = some k → gt ≠ some k := fun k hk e => (h.gT k e).2.2.2 hk
  refine ⟨h.rc.grow hgr g1 g2 h.na, h.up, h.hz, fun p hp x hx hz => new _ ((h.rc.ok p hp).2.2.2.2.lt x hx hz) (h.na p hp x hx hz), hs, h.is.same fun k hk => hgr.block k (h.is.lt hk) (fun e => gt_ne k hk e.symm), ?_, h.fr, h.gI, fun k hk => ?_, ⟨g5, s5.same fun k hk => hgr.block k (s5.lt hk) (fun e => s6 k hk e.symm), fun k hk => new k (s5.lt hk) (s6 k hk)⟩, fun p hp => ?_, h.eq, h.tl⟩
  · exact h.be.grown hgr h.be.size (fun k hk => (h.gT k hk).1)
  · rcases hg with e | ⟨k', e, hk'⟩
    · rw [e] at hk; exact h.gT k hk
    · rw [e] at hk
      cases hk
      have l1 := lt_of_block h.rc.c
      have l2 := h.rc.m.lt
      refine ⟨Nat.le_trans h.be.size hk', by omega, by omega, fun e2 => ?_⟩
      have := h.is.lt e2
      omega
  · obtain ⟨p1, p2⟩ := h.pk p hp
    exact ⟨⟨p1.1, p1.2.1, p1.2.2.1, p1.2.2.2.1, p1.2.2.2.2.same fun x hx hz => hgr.block x.block (p1.2.2.2.2.lt x hx hz) (fun e => p2 x hx hz e.symm)⟩, fun x hx hz => new _ (p1.2.2.2.2.lt x hx hz) (p2 x hx hz)⟩
theorem WhM.fin {w wr : World} {b m tb off cap K n nx nx' t : Nat} {Tx : List Int} {W : Int} {vi tv v : Value} {gi gt : Option Nat} {H : List (Int × Pt)} {P : List Pt} (h : WhM w b m tb off cap Tx K n W vi gi nx nx' H P v t tv gt wr) (ht : t = P.length) : WhI w b m tb off cap Tx K n W vi gi nx' H tv gt wr := by
  have e := h.eq
  subst ht
  refine ⟨h.rc, h.up, h.hz, h.na, ?_, h.is, h.be, h.fr, h.gI, h.gT⟩
  rw [e]
  exact h.ts
theorem WhI.take {w wr w2 : World} {b m tb off cap K n nx : Nat} {Tx : List Int} {W : Int} {vi tv : Value} {gi gt : Option Nat} {H : List (Int × Pt)} (h : WhI w b m tb off cap Tx K n W vi gi nx H tv gt wr) {I : Nat} (hmc : mcB n W nx H I = true) {v : Value} (hT : TkY wr b m n W nx H I (zAt Tx K I) (.returned (.tuple #[v, .bool true])) w2) :
    ∃ P nx' H', WhM w b m tb off cap Tx K n W vi gi nx nx' H' P v 0 tv gt w2 ∧ (I = nx → nx < nx') := by
  obtain ⟨q, q1, q2, q3, v', g, e, q4, q5, q6, q7⟩ := hT
  simp only [Ending.returned.injEq, Value.tuple.injEq, Array.mk.injEq, List.cons.injEq, and_true] at e
  subst e
  obtain ⟨m1, m2, m3, m4⟩ := mcB_ex hmc
  have hupI : HUp (nx : Int) (hIns I q H) := h.rc.up.ins q m2 m1
  obtain ⟨r1, r2, r3, r4, r5⟩ := relN_spec _ _ hupI
  obtain ⟨n0, n1, n2, n3, n4, n5⟩ := h.rc.nb
  have hgl : ∀ k, gt = some k → k < wr.heap.size := fun k hk => h.ts.lt hk
  have hmem : ∀ p ∈ hIns I q H, p.2.z = zAt Tx K p.1.toNat ∧ PtOk w2 p.2 ∧ ∀ x, p.2.a = some x → p.2.z ≠ [] → gt ≠ some x.block := by
    intro p hp
    rcases (hIns_mem _ _ _ _).1 hp with rfl | hp
    · exact ⟨by simpa using q1, q3, fun x hx _ e => by have := q2 x hx; have := hgl _ e; omega⟩
    · exact ⟨h.hz p hp, q6.pt h.rc (h.rc.ok p hp), h.na p hp⟩
  obtain ⟨N', hN'⟩ : ∃ N' : Nat, (relN nx (hIns I q H)).2.1 = (N' : Int) := ⟨(relN nx (hIns I q H)).2.1.toNat, by rw [r1]; omega⟩
  rw [hN'] at q7 r5 r1
  have e1 : N' = nx + (relN nx (hIns I q H)).1.length := by omega
  refine ⟨(relN nx (hIns I q H)).1, N', (relN nx (hIns I q H)).2.2, ⟨q7, r5, fun p hp => (hmem p (r3 p hp)).1, fun p hp => (hmem p (r3 p hp)).2.2, ?_, ?_, ?_, h.fr, h.gI, h.gT, ⟨g, q4, fun k hk e => by have := q5 k hk; have := hgl k e; omega⟩, fun p hp => ?_, e1, fun j p hp => ?_⟩, fun hI => ?_⟩
  · rw [Nat.add_zero]
    exact h.ts.same fun k hk => q6.block k (hgl k hk) (h.gT k hk).2.1 (h.gT k hk).2.2.1
  · exact h.is.same fun k hk => q6.block k (h.is.lt hk) (h.gI k hk).1 (h.gI k hk).2
  · exact F2.below h.be q6 h.fr.1 h.fr.2 h.be.size
  · obtain ⟨k, hk⟩ := relN_mem _ _ _ hp
    exact (hmem (k, p) hk).2
  · have := (hmem _ (r2 j p hp)).1
    simp only at this
    rw [this]
    congr 1
  · subst hI
    rcases r4 (I, q) ((hIns_mem _ _ _ _).2 (.inl rfl)) with hm | hm
    · have := r5.mem _ hm
      simp only at this
      omega
    · simp only [hN'] at hm
      omega
end Go.Proofs.Ytmfciheenemapaa
