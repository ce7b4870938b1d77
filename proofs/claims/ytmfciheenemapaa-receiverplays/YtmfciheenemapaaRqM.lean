/- The receiver: what release tells; the law's two rows beside it. -/
import Derived.Test.YtmfciheenemapaaRqL
namespace Go.Proofs.Ytmfciheenemapaa
open Go.RowKit
theorem hHas_iff {H : List (Int × Pt)} {k : Int} : hHas H k = true ↔ ∃ q, (k, q) ∈ H := by
  unfold hHas
  rw [List.any_eq_true]
  constructor
  · rintro ⟨p, hp, e⟩
    have : p.1 = k := by simpa using e
    exact ⟨p.2, by rw [← this]; exact hp⟩
  · rintro ⟨q, hq⟩
    exact ⟨(k, q), hq, by simp⟩
theorem relN_spec : ∀ (H : List (Int × Pt)) (nx : Int), HUp nx H → (relN nx H).2.1 = nx + (relN nx H).1.length ∧ (∀ (j : Nat) q, (relN nx H).1[j]? = some q → (nx + j, q) ∈ H) ∧ (∀ p ∈ (relN nx H).2.2, p ∈ H) ∧ (∀ p ∈ H, p ∈ (relN nx H).2.2 ∨ p.1 < (relN nx H).2.1) ∧ HUp ((relN nx H).2.1 + 1) (relN nx H).2.2
  | [], nx, _ => by simp [relN, HUp]
  | (k, q) :: r, nx, h => by
    by_cases hk : k = nx
    · subst hk
      obtain ⟨h1, h2, h3, h4, h5⟩ := relN_spec r (k + 1) h.2
      have e : relN k ((k, q) :: r) = (q :: (relN (k + 1) r).1, (relN (k + 1) r).2) := by show (if k = k then _ else _) = _; rw [if_pos rfl]
      rw [e]
      simp only
      refine ⟨by rw [h1]; simp; omega, fun j p hp => ?_, fun p hp => List.mem_cons_of_mem _ (h3 p hp), fun p hp => ?_, h5⟩
      · match j, hp with
        | 0, hp => simp at hp; subst hp; simp
        | j + 1, hp =>
          simp only [List.getElem?_cons_succ] at hp
          have := h2 j p hp
          rw [show k + ((j + 1 : Nat) : Int) = k + 1 + (j : Int) by omega]
          exact List.mem_cons_of_mem _ this
      · rcases List.mem_cons.1 hp with rfl | hp
        · exact .inr (by rw [h1]; simp only; omega)
        · exact h4 p hp
    · have e : relN nx ((k, q) :: r) = ([], nx, (k, q) :: r) := by show (if k = nx then _ else _) = _; rw [if_neg hk]
      rw [e]
      have h1 : nx ≤ k := h.1
      exact ⟨by simp, by simp, fun p hp => hp, fun p hp => .inl hp, by simp only; omega, h.2⟩
/-- What has come: below the first that hasn't, and what is held. -/
def cameB (nx : Int) (H : List (Int × Pt)) (k : Nat) : Bool := decide ((k : Int) < nx) || hHas H k
theorem came_rel {H : List (Int × Pt)} {nx : Int} (h : HUp nx H) (k : Nat) : cameB (relN nx H).2.1 (relN nx H).2.2 k = cameB nx H k := by
  obtain ⟨h1, h2, h3, h4, h5⟩ := relN_spec H nx h
  unfold cameB
  by_cases c1 : (k : Int) < nx
  · have : (k : Int) < (relN nx H).2.1 := by omega
    simp [c1, this]
  · by_cases c2 : (k : Int) < (relN nx H).2.1
    · have hj : ((k : Int) - nx).toNat < (relN nx H).1.length := by omega
      have := h2 ((k : Int) - nx).toNat _ (List.getElem?_eq_getElem hj)
      have e : nx + (((k : Int) - nx).toNat : Int) = k := by omega
      rw [e] at this
      rw [hHas_iff.2 ⟨_, this⟩]
      simp [c2]
    · have : hHas (relN nx H).2.2 k = hHas H k := by
        rw [Bool.eq_iff_iff, hHas_iff, hHas_iff]
        constructor
        · rintro ⟨q, hq⟩; exact ⟨q, h3 _ hq⟩
        · rintro ⟨q, hq⟩
          rcases h4 _ hq with h | h
          · exact ⟨q, h⟩
          · simp only at h; omega
      simp [c1, c2, this]
theorem came_ins (nx : Int) (H : List (Int × Pt)) (i : Nat) (q : Pt) (k : Nat) : cameB nx (hIns i q H) k = if k = i then true else cameB nx H k := by
  unfold cameB
  by_cases e : k = i
  · subst e
    rw [if_pos rfl, hHas_iff.2 ⟨q, (hIns_mem _ _ _ _).2 (.inl rfl)⟩]
    simp
  · rw [if_neg e]
    have : hHas (hIns i q H) k = hHas H k := by
      rw [Bool.eq_iff_iff, hHas_iff, hHas_iff]
      constructor
      · rintro ⟨p, hp⟩
        rcases (hIns_mem _ _ _ _).1 hp with h | h
        · simp at h; omega
        · exact ⟨p, h⟩
      · rintro ⟨p, hp⟩; exact ⟨p, (hIns_mem _ _ _ _).2 (.inr hp)⟩
    rw [this]
def updR {α : Type} (f : Nat → α) (k : Nat) (v : α) : Nat → α := fun i => if i = k then v else f i
/-- A block whose cells are no bytes. -/
def NoBy (w : World) (k : Nat) : Prop := ∃ cs t, w.heap[k]? = some (.cells cs t (0, 0)) ∧ ∀ (i : Nat) v, cs[i]? = some v → ∀ y, v ≠ .int .u8 y
theorem NoBy.row {w : World} {k : Nat} (h : NoBy w k) {a : Option Addr} {zs : List Int} (hr : Row w a zs) (hz : zs ≠ []) : ∀ x, a = some x → x.block ≠ k := by
  rintro x hx rfl
  subst hx
  rcases hr with e | ⟨b, off, e, hc⟩
  · exact hz e
  · simp only [Option.some.injEq] at e
    subst e
    obtain ⟨cs, t, hh, hv⟩ := h
    have h0 := hc 0 (by cases zs with | nil => exact absurd rfl hz | cons _ _ => simp)
    simp only [World.cell?, hh] at h0
    exact hv _ _ h0 _ rfl
theorem NoBy.pt {w : World} {k i : Nat} (h : NoBy w k) {q : Pt} (hq : PtOk w q) (u : Value) : PtOk (w.setCell ⟨k, i, none⟩ u) q :=
  ⟨hq.1, hq.2.1, hq.2.2.1, hq.2.2.2.1, hq.2.2.2.2.same fun x hx hz => Below.heap_setCell w _ u x.block (fun e => h.row hq.2.2.2.2 hz x hx e)⟩
theorem Rc.set {w : World} {b m : Nat} {n W nx : Int} {H : List (Int × Pt)} (h : Rc w b m n W nx H) {k : Nat} (hn : NoBy w k) (h1 : k ≠ b) (h2 : k ≠ m) (i : Nat) (u : Value) : Rc (w.setCell ⟨k, i, none⟩ u) b m n W nx H :=
  ⟨(Below.heap_setCell w _ u b (fun e => h1 e.symm)).trans h.c, h.m.same (Below.heap_setCell w _ u m (fun e => h2 e.symm)), h.up, h.top, fun p hp => hn.pt (h.ok p hp) u, h.nb⟩
/-- The law's rows: which have come, and with which bytes. -/
structure CmM (w : World) (cb ib N : Nat) (A : Nat → Pt) (S : Nat → Bool) : Prop where
  c : ∃ cur : Array Value, w.heap[cb]? = some (.cells cur 32 (0, 0)) ∧ cur.size = N ∧ ∀ i, i < N → cur[i]? = some (.slice (A i).a (A i).z.length (A i).c)
  i : ∃ cur : Array Value, w.heap[ib]? = some (.cells cur 4 (0, 0)) ∧ cur.size = N ∧ ∀ i, i < N → cur[i]? = some (.bool (S i))
  ok : ∀ i, i < N → PtOk w (A i)
theorem CmM.lt {w : World} {cb ib N : Nat} {A : Nat → Pt} {S : Nat → Bool} (h : CmM w cb ib N A S) : cb < w.heap.size ∧ ib < w.heap.size := by
  obtain ⟨c1, h1, -⟩ := h.c
  obtain ⟨c2, h2, -⟩ := h.i
  exact ⟨lt_of_block h1, lt_of_block h2⟩
theorem CmM.ne {w : World} {cb ib N : Nat} {A : Nat → Pt} {S : Nat → Bool} (h : CmM w cb ib N A S) : cb ≠ ib := by
  obtain ⟨c1, h1, -⟩ := h.c
  obtain ⟨c2, h2, -⟩ := h.i
  rintro rfl
  rw [h1] at h2
  simp at h2
theorem CmM.noby {w : World} {cb ib N : Nat} {A : Nat → Pt} {S : Nat → Bool} (h : CmM w cb ib N A S) : NoBy w cb ∧ NoBy w ib := by
  obtain ⟨c1, h1, s1, q1⟩ := h.c
  obtain ⟨c2, h2, s2, q2⟩ := h.i
  refine ⟨⟨c1, _, h1, fun i v hv y => ?_⟩, ⟨c2, _, h2, fun i v hv y => ?_⟩⟩
  · have hi : i < N := by obtain ⟨hi, _⟩ := Array.getElem?_eq_some_iff.1 hv; omega
    rw [q1 i hi] at hv
    cases hv
    simp
  · have hi : i < N := by obtain ⟨hi, _⟩ := Array.getElem?_eq_some_iff.1 hv; omega
    rw [q2 i hi] at hv
    cases hv
    simp
theorem CmM.cells {w : World} {cb ib N : Nat} {A : Nat → Pt} {S : Nat → Bool} (h : CmM w cb ib N A S) {i : Nat} (hi : i < N) : w.cell? ⟨cb, i, none⟩ = some (.slice (A i).a (A i).z.length (A i).c) ∧ w.cell? ⟨ib, i, none⟩ = some (.bool (S i)) ∧ w.frozen? ⟨cb, i, none⟩ = false ∧ w.frozen? ⟨ib, i, none⟩ = false := by
  obtain ⟨c1, h1, s1, q1⟩ := h.c
  obtain ⟨c2, h2, s2, q2⟩ := h.i
  simp [World.cell?, World.frozen?, h1, h2, q1 i hi, q2 i hi]
theorem CmM.f2 {w w' : World} {cb ib N : Nat} {A : Nat → Pt} {S : Nat → Bool} (h : CmM w cb ib N A S) {b m : Nat} {n W nx : Int} {H : List (Int × Pt)} (hr : Rc w b m n W nx H) (f : F2 b m w w') (hc : cb ≠ b ∧ cb ≠ m) (hi : ib ≠ b ∧ ib ≠ m) : CmM w' cb ib N A S := by
  obtain ⟨l1, l2⟩ := h.lt
  obtain ⟨c1, h1, r1⟩ := h.c
  obtain ⟨c2, h2, r2⟩ := h.i
  exact ⟨⟨c1, (f.block cb l1 hc.1 hc.2).trans h1, r1⟩, ⟨c2, (f.block ib l2 hi.1 hi.2).trans h2, r2⟩, fun i hi => f.pt hr (h.ok i hi)⟩
theorem CmM.old {w w' : World} {cb ib N : Nat} {A : Nat → Pt} {S : Nat → Bool} (h : CmM w cb ib N A S) (f : Below w.heap.size w w') : CmM w' cb ib N A S := by
  obtain ⟨l1, l2⟩ := h.lt
  obtain ⟨c1, h1, r1⟩ := h.c
  obtain ⟨c2, h2, r2⟩ := h.i
  exact ⟨⟨c1, (f.block cb l1).trans h1, r1⟩, ⟨c2, (f.block ib l2).trans h2, r2⟩, fun i hi => pt_old (h.ok i hi) f⟩
theorem CmM.put {w : World} {cb ib N : Nat} {A : Nat → Pt} {S : Nat → Bool} (h : CmM w cb ib N A S) {k : Nat} (hk : k < N) {q : Pt} (hq : PtOk w q) : CmM ((w.setCell ⟨cb, k, none⟩ (.slice q.a q.z.length q.c)).setCell ⟨ib, k, none⟩ (.bool true)) cb ib N (updR A k q) (updR S k true) := by
  have hne := h.ne
  obtain ⟨n1, n2⟩ := h.noby
  obtain ⟨c1, h1, s1, q1⟩ := h.c
  obtain ⟨c2, h2, s2, q2⟩ := h.i
  have e1 := heap_setCell_same w cb k _ _ (.slice q.a q.z.length q.c) h1
  have e2 : (w.setCell ⟨cb, k, none⟩ (.slice q.a q.z.length q.c)).heap[ib]? = some (.cells c2 4 (0, 0)) := (Below.heap_setCell w _ _ ib (fun e => hne e.symm)).trans h2
  have e3 := heap_setCell_same _ ib k _ _ (.bool true) e2
  have n3 : NoBy (w.setCell ⟨cb, k, none⟩ (.slice q.a q.z.length q.c)) ib := by
    refine ⟨c2, _, e2, fun i v hv y => ?_⟩
    have hi : i < N := by obtain ⟨hi, _⟩ := Array.getElem?_eq_some_iff.1 hv; omega
    rw [q2 i hi] at hv
    cases hv
    simp
  refine ⟨⟨_, (Below.heap_setCell _ _ _ cb (fun e => hne e)).trans e1, by simpa using s1, fun i hi => ?_⟩, ⟨_, e3, by simpa using s2, fun i hi => ?_⟩, fun i hi => ?_⟩
  · unfold updR
    by_cases e : i = k
    · subst e; simp [s1, hi]
    · rw [if_neg e, Array.getElem?_setIfInBounds_ne (by omega)]
      exact q1 i hi
  · unfold updR
    by_cases e : i = k
    · subst e; simp [s2, hi]
    · rw [if_neg e, Array.getElem?_setIfInBounds_ne (by omega)]
      exact q2 i hi
  · unfold updR
    by_cases e : i = k
    · rw [if_pos e]; exact n3.pt (n1.pt hq _) _
    · rw [if_neg e]; exact n3.pt (n1.pt (h.ok i hi) _) _
end Go.Proofs.Ytmfciheenemapaa
