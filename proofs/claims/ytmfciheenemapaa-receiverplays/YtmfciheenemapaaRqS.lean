/- The document's receiver: Take. -/
import Derived.Test.YtmfciheenemapaaRqR
namespace Go.Proofs.Ytmfciheenemapaa
open Go.RowKit
theorem CmM.setS {w : World} {cb ib N : Nat} {A : Nat → Pt} {S : Nat → Bool} (h : CmM w cb ib N A S) {k : Nat} (hk : k < N) : CmM (w.setCell ⟨ib, k, none⟩ (.bool true)) cb ib N A (updR S k true) := by
  have hne := h.ne
  obtain ⟨n1, n2⟩ := h.noby
  obtain ⟨c1, h1, s1, q1⟩ := h.c
  obtain ⟨c2, h2, s2, q2⟩ := h.i
  refine ⟨⟨c1, (Below.heap_setCell _ _ _ cb (fun e => hne e)).trans h1, s1, q1⟩, ⟨_, heap_setCell_same w ib k _ _ (.bool true) h2, by simpa using s2, fun i hi => ?_⟩, fun i hi => n2.pt (h.ok i hi) _⟩
  unfold updR
  by_cases e : i = k
  · subst e; simp [s2, hi]
  · rw [if_neg e, Array.getElem?_setIfInBounds_ne (by omega)]
    exact q2 i hi
theorem CmM.setA {w : World} {cb ib N : Nat} {A : Nat → Pt} {S : Nat → Bool} (h : CmM w cb ib N A S) {k : Nat} (hk : k < N) {q : Pt} (hq : PtOk w q) : CmM (w.setCell ⟨cb, k, none⟩ (.slice q.a q.z.length q.c)) cb ib N (updR A k q) S := by
  have hne := h.ne
  obtain ⟨n1, n2⟩ := h.noby
  obtain ⟨c1, h1, s1, q1⟩ := h.c
  obtain ⟨c2, h2, s2, q2⟩ := h.i
  refine ⟨⟨_, heap_setCell_same w cb k _ _ (.slice q.a q.z.length q.c) h1, by simpa using s1, fun i hi => ?_⟩, ⟨c2, (Below.heap_setCell _ _ _ ib (fun e => hne e.symm)).trans h2, s2, q2⟩, fun i hi => ?_⟩
  · unfold updR
    by_cases e : i = k
    · subst e; simp [s1, hi]
    · rw [if_neg e, Array.getElem?_setIfInBounds_ne (by omega)]
      exact q1 i hi
  · unfold updR
    by_cases e : i = k
    · rw [if_pos e]; exact n1.pt hq _
    · rw [if_neg e]; exact n1.pt (h.ok i hi) _
set_option maxHeartbeats 6400000 in
theorem xtake_no {w : World} {c cb ib N : Nat} {W : Int} {A : Nat → Pt} {S : Nat → Bool} {T : Nat} (h : Rx w c cb ib N W A S) (hT : FstX N T S) (i : Int) (hi : (Lit.int .i64 i).wf = true) (v : Value) (hno : i < T ∨ N ≤ i ∨ W ≤ i - T ∨ S i.toNat = true) : Calls Try.prog 12 #[.pointer (some ⟨c, 0, none⟩), .int .i64 i, v] w fun e w' => e = .returned (.tuple #[.slice none 0 0, .bool false]) ∧ w' = w := by
  obtain ⟨k0, k1, k2⟩ := rx_cells h.ce
  have C1 := xnext_any h hT
  have hn := h.nb.1
  have hTN := hT.1
  have hw1 := h.nb.2
  by_cases c1 : i < T
  · clear h hT hno
    go_enter Try.func12, Try.ntmps12
    go_wp2_with (first | (go_at_call 15; refine Calls.mono C1 ?_; clear C1; rintro e w' ⟨rfl, rfl⟩))
    refine bodyPost_ret (v := .tuple #[.slice none 0 0, .bool false]) (by simp [results, Try.results12, go_sem]) rfl ⟨rfl, rfl⟩
  by_cases c2 : (N : Int) ≤ i
  · clear h hT hno
    go_enter Try.func12, Try.ntmps12
    go_wp2_with (first | (go_at_call 15; refine Calls.mono C1 ?_; clear C1; rintro e w' ⟨rfl, rfl⟩))
    refine bodyPost_ret (v := .tuple #[.slice none 0 0, .bool false]) (by simp [results, Try.results12, go_sem]) rfl ⟨rfl, rfl⟩
  obtain ⟨I, rfl⟩ : ∃ I : Nat, i = (I : Int) := ⟨i.toNat, by omega⟩
  have c5 : ¬ (N : Int) ≤ (I : Int) := c2
  have c6 : (I : Int) < (N : Int) := by omega
  by_cases c3 : W ≤ (I : Int) - T
  · clear h hT hno
    go_enter Try.func12, Try.ntmps12
    go_wp2_with (first | (go_at_call 15; refine Calls.mono C1 ?_; clear C1; rintro e w' ⟨rfl, rfl⟩))
    refine bodyPost_ret (v := .tuple #[.slice none 0 0, .bool false]) (by simp [results, Try.results12, go_sem]) rfl ⟨rfl, rfl⟩
  have hS : S I = true := by
    rcases hno with e | e | e | e
    · omega
    · omega
    · omega
    · simpa using e
  obtain ⟨-, y2, -, -⟩ := h.cm.cells (i := I) (by omega)
  rw [hS] at y2
  clear h hT hno hS
  go_enter Try.func12, Try.ntmps12
  go_wp2_with (first | (go_at_call 15; refine Calls.mono C1 ?_; clear C1; rintro e w' ⟨rfl, rfl⟩))
  refine bodyPost_ret (v := .tuple #[.slice none 0 0, .bool false]) (by simp [results, Try.results12, go_sem]) rfl ⟨rfl, rfl⟩
end Go.Proofs.Ytmfciheenemapaa
