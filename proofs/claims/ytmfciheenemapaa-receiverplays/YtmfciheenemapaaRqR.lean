/- The document's receiver: its cells; New, Next, Held. -/
import Derived.Test.YtmfciheenemapaaRqO
namespace Go.Proofs.Ytmfciheenemapaa
open Go.RowKit
structure Rx (w : World) (c cb ib N : Nat) (W : Int) (A : Nat → Pt) (S : Nat → Bool) : Prop where
  ce : w.heap[c]? = some (.cells #[.slice (some ⟨cb, 0, none⟩) N N, .slice (some ⟨ib, 0, none⟩) N N, .int .i64 W] 53 (0, 0))
  cm : CmM w cb ib N A S
  ne : c ≠ cb ∧ c ≠ ib
  nb : N ≤ 300 ∧ 1 ≤ W ∧ W ≤ 64
theorem Rx.old {w w' : World} {c cb ib N : Nat} {W : Int} {A : Nat → Pt} {S : Nat → Bool} (h : Rx w c cb ib N W A S) (f : Below w.heap.size w w') : Rx w' c cb ib N W A S :=
  ⟨(f.block _ (lt_of_block h.ce)).trans h.ce, h.cm.old f, h.ne, h.nb⟩
theorem rx_cells {w : World} {b : Nat} {v0 v1 v2 : Value} {t : TypeId} (h : w.heap[b]? = some (.cells #[v0, v1, v2] t (0, 0))) : w.cell? ⟨b, 0, none⟩ = some v0 ∧ w.cell? ⟨b, 1, none⟩ = some v1 ∧ w.cell? ⟨b, 2, none⟩ = some v2 := by
  refine ⟨?_, ?_, ?_⟩ <;> simp [World.cell?, h]
/-- T is the first that hasn't come. -/
def FstX (N T : Nat) (S : Nat → Bool) : Prop := T ≤ N ∧ (∀ k, k < T → S k = true) ∧ (T < N → S T = false)
set_option maxHeartbeats 3200000 in
theorem xnext_any {w : World} {c cb ib N : Nat} {W : Int} {A : Nat → Pt} {S : Nat → Bool} {T : Nat} (h : Rx w c cb ib N W A S) (hT : FstX N T S) : Calls Try.prog 15 #[.pointer (some ⟨c, 0, none⟩)] w fun e w' => e = .returned (.int .i64 (T : Int)) ∧ w' = w := by
  obtain ⟨k0, k1, k2⟩ := rx_cells h.ce
  have HX : Hid (Rx w c cb ib N W A S ∧ FstX N T S) := ⟨h, hT⟩
  have hN := h.nb.1
  clear h hT
  go_enter Try.func15, Try.ntmps15
  go_wp2
  go_loopw [3, 9] (fun _ iv wq => ∃ k : Nat, k ≤ T ∧ iv = .int .i64 (k : Int) ∧ w = wq) (fun _ iv _ => N - (intOf iv).toNat)
  case atStart => exact ⟨0, Nat.zero_le _, rfl, rfl⟩
  case round =>
    obtain ⟨k, hk, rfl, rfl⟩ := hrel
    have hTN := HX.out.2.1
    by_cases hlt : k < N
    · obtain ⟨-, y2, -, -⟩ := HX.out.1.cm.cells hlt
      by_cases hkT : k < T
      · rw [HX.out.2.2.1 k hkT] at y2
        go_wp2
        go_roundw
        case rel => exact ⟨k + 1, by omega, by go_num, by first | trivial | rfl⟩
        case measure => simp [intOf]; omega
      · obtain rfl : k = T := by omega
        rw [HX.out.2.2.2 hlt] at y2
        go_wp2
        go_ret
        exact ⟨rfl, rfl⟩
    · obtain rfl : T = N := by omega
      obtain rfl : k = T := by omega
      go_wp2
      go_ret
      exact ⟨rfl, rfl⟩
/-- How many from k on have come. -/
def cntX (S : Nat → Bool) (N k : Nat) : Nat := ((List.range N).drop k).countP S
theorem cntX_step (S : Nat → Bool) (N k : Nat) (h : k < N) : cntX S N k = (if S k then 1 else 0) + cntX S N (k + 1) := by
  unfold cntX
  rw [List.drop_eq_getElem_cons (by simpa using h), List.countP_cons]
  simp only [List.getElem_range]
  split <;> omega
theorem cntX_end (S : Nat → Bool) (N : Nat) : cntX S N N = 0 := by
  unfold cntX
  rw [List.drop_of_length_le (by simp)]
  rfl
theorem cntX_le (S : Nat → Bool) (N k : Nat) : cntX S N k ≤ N := by
  unfold cntX
  refine Nat.le_trans List.countP_le_length ?_
  simp
set_option maxHeartbeats 3200000 in
theorem xheld_any {w : World} {c cb ib N : Nat} {W : Int} {A : Nat → Pt} {S : Nat → Bool} {T : Nat} (h : Rx w c cb ib N W A S) (hT : FstX N T S) : Calls Try.prog 17 #[.pointer (some ⟨c, 0, none⟩)] w fun e w' => e = .returned (.int .i64 (cntX S N T : Int)) ∧ w' = w := by
  obtain ⟨k0, k1, k2⟩ := rx_cells h.ce
  have HX : Hid (Rx w c cb ib N W A S ∧ FstX N T S) := ⟨h, hT⟩
  have C1 := xnext_any h hT
  have hN := h.nb.1
  have hTN := hT.1
  clear h hT
  go_enter Try.func17, Try.ntmps17
  go_wp2_with (first | (go_at_call 15; refine Calls.mono C1 ?_; clear C1; rintro e w' ⟨rfl, rfl⟩))
  go_loopw [3, 4] (fun nv iv wq => ∃ k n : Nat, T ≤ k ∧ k ≤ N ∧ iv = .int .i64 (k : Int) ∧ nv = .int .i64 (n : Int) ∧ n ≤ 300 ∧ Hid (n + cntX S N k = cntX S N T) ∧ w' = wq) (fun _ iv _ => N - (intOf iv).toNat)
  case atStart => exact ⟨T, 0, Nat.le_refl _, hTN, rfl, rfl, by omega, Nat.zero_add _, rfl⟩
  case round =>
    obtain ⟨k, n, hk, hkN, rfl, rfl, hn, HC, rfl⟩ := hrel
    by_cases hlt : k < N
    · obtain ⟨-, y2, -, -⟩ := HX.out.1.cm.cells hlt
      have hs := cntX_step S N k hlt
      have hle := cntX_le S N T
      cases hS : S k
      · rw [hS] at y2 hs
        have HC2 : Hid (n + cntX S N (k + 1) = cntX S N T) := by have := HC.out; simp at hs; show _ = _; omega
        clear hs
        go_wp2
        go_roundw
        case rel => exact ⟨k + 1, n, by omega, by omega, by go_num, rfl, by omega, HC2.out, by first | trivial | rfl⟩
        case measure => simp [intOf]; omega
      · rw [hS] at y2 hs
        have HC2 : Hid (n + 1 + cntX S N (k + 1) = cntX S N T) := by have := HC.out; simp at hs; show _ = _; omega
        have hn2 : n + 1 ≤ 300 := by have := HC2.out; omega
        clear hs
        go_wp2
        go_roundw
        case rel => exact ⟨k + 1, n + 1, by omega, by omega, by go_num, by go_num, by omega, HC2.out, by first | trivial | rfl⟩
        case measure => simp [intOf]; omega
    · obtain rfl : k = N := by omega
      have e := HC.out
      rw [cntX_end, Nat.add_zero] at e
      subst e
      go_wp2
      go_ret
      exact ⟨rfl, rfl⟩
end Go.Proofs.Ytmfciheenemapaa
