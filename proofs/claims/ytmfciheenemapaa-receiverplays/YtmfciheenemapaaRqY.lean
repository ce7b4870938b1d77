/- Both receivers and one item: what the two Takes leave. -/
import Derived.Test.YtmfciheenemapaaRqX
namespace Go.Proofs.Ytmfciheenemapaa
open Go.RowKit
theorem NoBy.f2 {w w' : World} {k l : Nat} (hk : NoBy w k) (hl : NoBy w l) (f : F2 k l w w') {q : Pt} (hq : PtOk w q) : PtOk w' q :=
  ⟨hq.1, hq.2.1, hq.2.2.1, hq.2.2.2.1, hq.2.2.2.2.same fun x hx hz => f.block x.block (hq.2.2.2.2.lt x hx hz) (hk.row hq.2.2.2.2 hz x hx) (hl.row hq.2.2.2.2 hz x hx)⟩
theorem Rc.f2x {w w' : World} {b m cb ib N : Nat} {n W nx : Int} {H : List (Int × Pt)} {A : Nat → Pt} {S : Nat → Bool} (h : Rc w b m n W nx H) (hx : CmM w cb ib N A S) (f : F2 cb ib w w') (hc : cb ≠ b ∧ cb ≠ m) (hi : ib ≠ b ∧ ib ≠ m) : Rc w' b m n W nx H := by
  obtain ⟨n1, n2⟩ := hx.noby
  exact ⟨(f.block b (lt_of_block h.c) (fun e => hc.1 e.symm) (fun e => hi.1 e.symm)).trans h.c, h.m.same (f.block m h.m.lt (fun e => hc.2 e.symm) (fun e => hi.2 e.symm)), h.up, h.top, fun p hp => NoBy.f2 n1 n2 f (h.ok p hp), h.nb⟩
theorem Rx.f2 {w w' : World} {b m c cb ib N : Nat} {n W nx : Int} {H : List (Int × Pt)} {A : Nat → Pt} {S : Nat → Bool} {W' : Int} (h : Rx w c cb ib N W' A S) (hr : Rc w b m n W nx H) (f : F2 b m w w') (hc : cb ≠ b ∧ cb ≠ m) (hi : ib ≠ b ∧ ib ≠ m) (h0 : c ≠ b ∧ c ≠ m) : Rx w' c cb ib N W' A S :=
  ⟨(f.block c (lt_of_block h.ce) h0.1 h0.2).trans h.ce, h.cm.f2 hr f hc hi, h.ne, h.nb⟩
/-- What one item that may come changes, as numbers. -/
structure StD (N T T' I : Nat) (H H' : List (Int × Pt)) (A : Nat → Pt) (S : Nat → Bool) (q : Pt) (P : List Pt) : Prop where
  lt : T ≤ T'
  len : P.length = T' - T
  up : HUp ((T' : Int) + 1) H'
  fst : FstX N T' (updR S I true)
  sv : ∀ k, k < N → updR S I true k = cameB T' H' k
  av : ∀ q' : Pt, q'.z = q.z → ∀ p ∈ H', (updR A I q' p.1.toNat).z = p.2.z
  zs : ∀ q' : Pt, q'.z = q.z → ∀ i : Nat, (P[i]?).map Pt.z = ((xOut (updR A I q') T T')[i]?).map Pt.z
  pm : ∀ p ∈ P, p = q ∨ ∃ k, (k, p) ∈ H
  hm : ∀ p ∈ H', p.2 = q ∨ p ∈ H
theorem PlI.data {w wr : World} {b m c cb ib N : Nat} {W : Int} {T : Nat} {H : List (Int × Pt)} {A : Nat → Pt} {S : Nat → Bool} (h : PlI w b m c cb ib N W T H A S wr) {I : Nat} (hmc : mcB N W (T : Int) H (I : Int) = true) (q : Pt) : ∃ T' : Nat, (relN (T : Int) (hIns (I : Int) q H)).2.1 = (T' : Int) ∧ StD N T T' I H (relN (T : Int) (hIns (I : Int) q H)).2.2 A S q (relN (T : Int) (hIns (I : Int) q H)).1 := by
  obtain ⟨m1, m2, m3, m4⟩ := mcB_ex hmc
  have hI : I < N := by omega
  have hupI : HUp (T : Int) (hIns (I : Int) q H) := h.rc.up.ins q m2 m1
  obtain ⟨r1, r2, r3, r4, r5⟩ := relN_spec _ _ hupI
  obtain ⟨n0, n1, n2, n3, n4, n5⟩ := h.rc.nb
  have hmem : ∀ p ∈ hIns (I : Int) q H, 0 ≤ p.1 ∧ p.1 < N ∧ ∀ q' : Pt, q'.z = q.z → (updR A I q' p.1.toNat).z = p.2.z := by
    intro p hp
    rcases (hIns_mem _ _ _ _).1 hp with rfl | hp
    · refine ⟨by simp only; omega, by simp only; omega, fun q' e => ?_⟩
      unfold updR
      simp only [Int.toNat_natCast, if_true]
      exact e
    · have h0 := h.rc.up.mem p hp
      have h2 := (h.rc.top p hp).2
      have hne : p.1.toNat ≠ I := by
        intro e
        have e' : p.1 = (I : Int) := by omega
        have : hHas H (I : Int) = true := hHas_iff.2 ⟨p.2, by rw [← e']; exact hp⟩
        rw [this] at m1; cases m1
      refine ⟨by omega, h2, fun q' _ => ?_⟩
      unfold updR
      rw [if_neg hne]
      exact h.av p hp
  obtain ⟨P, hP⟩ : ∃ P, (relN (T : Int) (hIns (I : Int) q H)).1 = P := ⟨_, rfl⟩
  obtain ⟨X, hX⟩ : ∃ X, (relN (T : Int) (hIns (I : Int) q H)).2.1 = X := ⟨_, rfl⟩
  obtain ⟨H', hH⟩ : ∃ H', (relN (T : Int) (hIns (I : Int) q H)).2.2 = H' := ⟨_, rfl⟩
  have hsv : ∀ k, k < N → updR S I true k = cameB X H' k := fun k hk => by
    rw [← hX, ← hH, came_rel hupI, came_ins, ← h.sv k hk]
    unfold updR
    rfl
  rw [hX, hP] at r1
  rw [hX, hH] at r5
  rw [hP] at r2
  rw [hH] at r3
  rw [hP, hX, hH]
  have hT' : X = ((T + P.length : Nat) : Int) := by rw [r1]; omega
  rw [hT'] at r5 hsv ⊢
  have hTN : T + P.length ≤ N := by
    by_cases h0 : P.length = 0
    · omega
    · have hj : P.length - 1 < P.length := by omega
      have := r2 (P.length - 1) _ (List.getElem?_eq_getElem hj)
      have := (hmem _ this).2.1
      simp only at this
      omega
  have hzs : ∀ q' : Pt, q'.z = q.z → ∀ i : Nat, (P[i]?).map Pt.z = ((xOut (updR A I q') T (T + P.length))[i]?).map Pt.z := fun q' e i => by
    unfold xOut
    rw [List.getElem?_map, show T + P.length - T = P.length by omega]
    by_cases hi : i < P.length
    · rw [List.getElem?_range hi, List.getElem?_eq_getElem hi]
      simp only [Option.map_some]
      have := (hmem _ (r2 i _ (List.getElem?_eq_getElem hi))).2.2 q' e
      simp only at this
      rw [show ((T : Int) + (i : Int)).toNat = T + i by omega] at this
      rw [this]
    · rw [List.getElem?_eq_none (by omega), List.getElem?_eq_none (by simp; omega)]
      rfl
  refine ⟨T + P.length, rfl, ⟨by omega, by omega, r5, ⟨hTN, fun k hk => ?_, fun hk => ?_⟩, hsv, fun q' e p hp => (hmem p (r3 p hp)).2.2 q' e, hzs, fun p hp => ?_, fun p hp => ?_⟩⟩
  · rw [hsv k (by omega)]
    unfold cameB
    rw [decide_eq_true (by omega)]
    rfl
  · rw [hsv _ hk]
    unfold cameB
    rw [decide_eq_false (by omega), r5.no (by omega)]
    rfl
  · rw [← hP] at hp
    obtain ⟨k, hk⟩ := relN_mem _ _ _ hp
    rcases (hIns_mem _ _ _ _).1 hk with e | hk
    · cases e; exact .inl rfl
    · exact .inr ⟨k, hk⟩
  · rcases (hIns_mem _ _ _ _).1 (r3 p hp) with e | hk
    · rw [e]; exact .inl rfl
    · exact .inr hk
/-- Both sides behind an item that came. -/
theorem PlI.step {w wr w1 w2 w3 : World} {b m c cb ib N : Nat} {W : Int} {T T' I : Nat} {H H' : List (Int × Pt)} {A : Nat → Pt} {S : Nat → Bool} {q q' : Pt} {P : List Pt} (h : PlI w b m c cb ib N W T H A S wr) (hw1 : Below wr.heap.size wr w1) (f2 : F2 b m w1 w2) (rc2 : Rc w2 b m N W (T' : Int) H') (d : StD N T T' I H H' A S q P) (hq : q'.z = q.z) (rx2 : Rx w2 c cb ib N W A S) (f3 : F2 cb ib w2 w3) (rx3 : Rx w3 c cb ib N W (updR A I q') (updR S I true)) : PlI w b m c cb ib N W T' H' (updR A I q') (updR S I true) w3 := by
  have b1 := h.be.trans (hw1.mono h.be.size)
  have b2 := F2.below b1 f2 h.fr.1 h.fr.2.1 b1.size
  exact ⟨rc2.f2x rx2.cm f3 h.ne.1 h.ne.2.1, d.up, rx3, d.sv, d.av q' hq, F2.below b2 f3 h.fr.2.2.2.1 h.fr.2.2.2.2 b2.size, h.fr, h.ne⟩
theorem PsM.own {w w' : World} {a : Option Addr} {P : List Pt} {ob : Nat} (h : PsM w a P) (hg : w.grownBy w' (some ob)) (ha : ∀ x, a = some x → x.block ≠ ob) (hp : ∀ p ∈ P, Dn ob p) : PsM w' a P := by
  rcases h with h | ⟨b, off, rfl, h⟩
  · exact .inl h
  · refine .inr ⟨b, off, rfl, fun i q hq => ⟨?_, Dn.pt (h i q hq).2 (hp q (List.mem_of_getElem? hq)) hg⟩⟩
    have hc := (h i q hq).1
    exact (World.cell?_of_block (a := ⟨b, off + i, none⟩) (hg.block b (cell_lt hc) (by have := ha _ rfl; simpa using this))).trans hc
theorem xOut_mem {A : Nat → Pt} {T T' : Nat} {p : Pt} (h : p ∈ xOut A T T') : ∃ k, T ≤ k ∧ k < T' ∧ p = A k := by
  unfold xOut at h
  obtain ⟨j, hj, rfl⟩ := List.mem_map.1 h
  have := List.mem_range.1 hj
  exact ⟨T + j, by omega, by omega, rfl⟩
theorem xOut_len (A : Nat → Pt) (T T' : Nat) : (xOut A T T').length = T' - T := by unfold xOut; simp
/-- What may not come. -/
theorem PlI.no {w wr : World} {b m c cb ib N : Nat} {W : Int} {T : Nat} {H : List (Int × Pt)} {A : Nat → Pt} {S : Nat → Bool} (h : PlI w b m c cb ib N W T H A S wr) {i : Int} (hmc : mcB N W (T : Int) H i = false) : i < T ∨ N ≤ i ∨ W ≤ i - T ∨ S i.toNat = true := by
  by_cases c1 : i < T
  · exact .inl c1
  by_cases c2 : (N : Int) ≤ i
  · exact .inr (.inl c2)
  by_cases c3 : W ≤ i - T
  · exact .inr (.inr (.inl c3))
  refine .inr (.inr (.inr ?_))
  unfold mcB at hmc
  rw [decide_eq_true (by omega : (T : Int) ≤ i), decide_eq_true (by omega : i < (T : Int) + W), decide_eq_true (by omega : i < (N : Int))] at hmc
  simp at hmc
  rw [h.sv _ (by omega)]
  unfold cameB
  have e : ((i.toNat : Nat) : Int) = i := by omega
  rw [e, hmc]
  simp
end Go.Proofs.Ytmfciheenemapaa
