/- The receiver: what stands between two items of the law's row. -/
import Derived.Test.YtmfciheenemapaaRqM
namespace Go.Proofs.Ytmfciheenemapaa
open Go.RowKit
structure OrI (w : World) (b m cb ib N : Nat) (W nx : Int) (H : List (Int × Pt)) (A : Nat → Pt) (S : Nat → Bool) (wr : World) : Prop where
  rc : Rc wr b m N W nx H
  up : HUp (nx + 1) H
  cm : CmM wr cb ib N A S
  sv : ∀ k, k < N → S k = cameB nx H k
  av : ∀ p ∈ H, (A p.1.toNat).z = p.2.z
  be : Below w.heap.size w wr
  fr : w.heap.size ≤ b ∧ w.heap.size ≤ m ∧ w.heap.size ≤ cb ∧ w.heap.size ≤ ib
  ne : (cb ≠ b ∧ cb ≠ m) ∧ (ib ≠ b ∧ ib ≠ m)
theorem OrI.old {w wr w' : World} {b m cb ib N : Nat} {W nx : Int} {H : List (Int × Pt)} {A : Nat → Pt} {S : Nat → Bool} (h : OrI w b m cb ib N W nx H A S wr) (f : Below wr.heap.size wr w') : OrI w b m cb ib N W nx H A S w' :=
  ⟨h.rc.old f, h.up, h.cm.old f, h.sv, h.av, h.be.trans (f.mono h.be.size), h.fr, h.ne⟩
/-- While the told parts are looked at. -/
structure OrM (w : World) (b m cb ib N : Nat) (W nx nx' : Int) (H : List (Int × Pt)) (A : Nat → Pt) (S : Nat → Bool) (P : List Pt) (v : Value) (wr : World) : Prop where
  oi : OrI w b m cb ib N W nx' H A S wr
  sl : ∃ g, Sl wr 32 v g (pvl P)
  pk : ∀ q ∈ P, PtOk wr q
  eq : nx' = nx + P.length
  n0 : 0 ≤ nx
  tl : ∀ (j : Nat) q, P[j]? = some q → nx + j < N ∧ S (nx + j).toNat = true ∧ (A (nx + j).toNat).z = q.z
theorem OrM.old {w wr w' : World} {b m cb ib N : Nat} {W nx nx' : Int} {H : List (Int × Pt)} {A : Nat → Pt} {S : Nat → Bool} {P : List Pt} {v : Value} (h : OrM w b m cb ib N W nx nx' H A S P v wr) (f : Below wr.heap.size wr w') : OrM w b m cb ib N W nx nx' H A S P v w' := by
  obtain ⟨g, hg⟩ := h.sl
  exact ⟨h.oi.old f, ⟨g, hg.same fun k hk => f.block k (hg.lt hk)⟩, fun q hq => pt_old (h.pk q hq) f, h.eq, h.n0, h.tl⟩
theorem OrI.take {w wr w1 w2 : World} {b m cb ib N : Nat} {W nx : Int} {H : List (Int × Pt)} {A : Nat → Pt} {S : Nat → Bool} (h : OrI w b m cb ib N W nx H A S wr) (hw1 : Below wr.heap.size wr w1) {I : Nat} (hmc : mcB N W nx H I = true) {it : Pt} (hit : PtOk wr it) {v : Value} (hT : TkY w1 b m N W nx H I it.z (.returned (.tuple #[v, .bool true])) w2) :
    ∃ P nx' H', OrM w b m cb ib N W nx nx' H' (updR A I it) (updR S I true) P v ((w2.drew.setCell ⟨cb, I, none⟩ (.slice it.a it.z.length it.c)).setCell ⟨ib, I, none⟩ (.bool true)) := by
  obtain ⟨q, q1, q2, q3, v', g, e, q4, q5, q6, q7⟩ := hT
  simp only [Ending.returned.injEq, Value.tuple.injEq, Array.mk.injEq, List.cons.injEq, and_true] at e
  subst e
  obtain ⟨m1, m2, m3, m4⟩ := mcB_ex hmc
  have hI : I < N := by omega
  have h1 := h.old hw1
  have hupI : HUp nx (hIns I q H) := h.rc.up.ins q m2 m1
  obtain ⟨r1, r2, r3, r4, r5⟩ := relN_spec _ _ hupI
  obtain ⟨n0, n1, n2, n3, n4, n5⟩ := h.rc.nb
  have l1 := h1.cm.lt
  have hgc : ∀ k, g = some k → k ≠ cb ∧ k ≠ ib := fun k hk => by have := q5 k hk; omega
  have hfr := h.fr
  have cm2 : CmM w2.drew cb ib N A S := (h1.cm.f2 h1.rc q6 h.ne.1 h.ne.2).old (below_drewR w2)
  have it2 : PtOk w2.drew it := pt_old (q6.pt h1.rc (pt_old hit hw1)) (below_drewR w2)
  have cm3 := cm2.put hI it2
  obtain ⟨nb1, nb2⟩ := cm2.noby
  have nb3 : NoBy (w2.drew.setCell ⟨cb, I, none⟩ (.slice it.a it.z.length it.c)) ib := by
    obtain ⟨cs, t, hh, hv⟩ := nb2
    exact ⟨cs, t, (Below.heap_setCell _ _ _ ib (fun e => cm2.ne e.symm)).trans hh, hv⟩
  have rc3 := ((q7.old (below_drewR w2)).set nb1 h.ne.1.1 h.ne.1.2 I (.slice it.a it.z.length it.c)).set nb3 h.ne.2.1 h.ne.2.2 I (.bool true)
  have hmem : ∀ p ∈ hIns I q H, 0 ≤ p.1 ∧ p.1 < N ∧ (updR A I it p.1.toNat).z = p.2.z := by
    intro p hp
    unfold updR
    rcases (hIns_mem _ _ _ _).1 hp with rfl | hp
    · simp only [Int.toNat_natCast, if_true]
      exact ⟨by omega, by omega, q1.symm⟩
    · have h0 := h.rc.up.mem p hp
      have h2 := (h.rc.top p hp).2
      have hne : p.1.toNat ≠ I := by
        intro e
        have e' : p.1 = (I : Int) := by omega
        have : hHas H I = true := hHas_iff.2 ⟨p.2, by rw [← e']; exact hp⟩
        rw [this] at m1; cases m1
      rw [if_neg hne]
      exact ⟨by omega, h2, h.av p hp⟩
  refine ⟨(relN nx (hIns I q H)).1, (relN nx (hIns I q H)).2.1, (relN nx (hIns I q H)).2.2, ⟨rc3, r5, cm3, fun k hk => ?_, fun p hp => (hmem p (r3 p hp)).2.2, ?_, h.fr, h.ne⟩, ⟨g, ?_⟩, fun p hp => ?_, r1, n4, fun j p hp => ?_⟩
  · rw [came_rel hupI, came_ins, ← h.sv k hk]
    unfold updR
    rfl
  · have b1 := h.be.trans (hw1.mono h.be.size)
    have b2 := F2.below b1 q6 hfr.1 hfr.2.1 b1.size
    have b3 := b2.trans ((below_drewR w2).mono b2.size)
    exact (b3.setCell (by exact hfr.2.2.1) _).setCell (by exact hfr.2.2.2) _
  · refine q4.same fun k hk => ?_
    obtain ⟨x1, x2⟩ := hgc k hk
    exact (Below.heap_setCell _ _ _ k x2).trans (Below.heap_setCell _ _ _ k x1)
  · obtain ⟨k, hk⟩ := relN_mem _ _ _ hp
    have : PtOk w2.drew p := by
      refine pt_old ?_ (below_drewR w2)
      rcases (hIns_mem _ _ _ _).1 hk with e | hk
      · cases e; exact q3
      · exact q6.pt h1.rc (h1.rc.ok (k, p) hk)
    exact nb3.pt (nb1.pt this _) _
  · have hm := r2 j p hp
    obtain ⟨x0, x1, x2⟩ := hmem _ hm
    simp only at x0 x1 x2
    refine ⟨x1, ?_, x2⟩
    have hk : (nx + (j : Int)).toNat < N := by omega
    have : updR S I true (nx + (j : Int)).toNat = cameB nx (hIns I q H) (nx + (j : Int)).toNat := by
      rw [came_ins, ← h.sv _ hk]
      rfl
    rw [this]
    unfold cameB
    have e : (((nx + (j : Int)).toNat : Nat) : Int) = nx + j := by omega
    rw [e, hHas_iff.2 ⟨p, hm⟩]
    simp
/-- What is asked behind each item. -/
theorem OrI.ask {w wr : World} {b m cb ib N : Nat} {W nx : Int} {H : List (Int × Pt)} {A : Nat → Pt} {S : Nat → Bool} (h : OrI w b m cb ib N W nx H A S wr) : (nx < N → S nx.toNat = false) ∧ (H.length : Int) < W := by
  obtain ⟨n0, n1, n2, n3, n4, n5⟩ := h.rc.nb
  constructor
  · intro hlt
    rw [h.sv _ (by omega)]
    unfold cameB
    have e : ((nx.toNat : Nat) : Int) = nx := by omega
    rw [e, h.up.no (by omega)]
    simp
  · have := h.up.len (hi := nx + W) (fun p hp => (h.rc.top p hp).1) (by omega)
    omega
end Go.Proofs.Ytmfciheenemapaa
