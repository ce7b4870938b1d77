import Derived.Test.YtaenojkgdlpclaaRRd
import Derived.Test.YtaenojkgdlpclaaWritesB
import Derived.Deep.RegionLaw
import Derived.Deep.RegionHeld3
namespace Go.Proofs.Ytaenojkgdlpclaa
open Go.RowKit

/-- THE DOCUMENT'S READER at block x: its bits L, how many are gone. -/
def RRf (w : World) (x : Nat) (g : Option Nat) (L : List Int) (n : Nat) : Prop :=
  ∃ v, w.heap[x]? = some (.cells #[v, .int .i64 n] 30 (0, 0)) ∧ Sl w 3 v g (ivals L)
theorem RRf.sep {w : World} {r : Nat} {g : Option Nat} {zs : List Int} {gone : Nat} (h : RRf w r g zs gone) : g ≠ some r := by
  obtain ⟨v, hh, hs⟩ := h
  rintro rfl
  rcases hs with ⟨_, h, _⟩ | ⟨b, off, cap, cur, _, h, hb, _⟩
  · cases h
  · cases h; rw [hh] at hb; simp at hb
theorem RRf.same {w w' : World} {r : Nat} {g : Option Nat} {zs : List Int} {gone : Nat} (h : RRf w r g zs gone) (hr : w'.heap[r]? = w.heap[r]?) (hg : ∀ k, g = some k → w'.heap[k]? = w.heap[k]?) : RRf w' r g zs gone := by
  obtain ⟨v, hh, hs⟩ := h
  exact ⟨v, hr.trans hh, hs.same hg⟩
theorem RRf.lt {w : World} {r : Nat} {g : Option Nat} {zs : List Int} {gone : Nat} (h : RRf w r g zs gone) : r < w.heap.size := by
  obtain ⟨v, hh, _⟩ := h; exact lt_of_block hh
theorem RRf.glt {w : World} {r : Nat} {g : Option Nat} {zs : List Int} {gone : Nat} (h : RRf w r g zs gone) {k : Nat} (hk : g = some k) : k < w.heap.size := by
  obtain ⟨v, _, hs⟩ := h; exact hs.lt hk
theorem RRf.old {w w' : World} {r : Nat} {g : Option Nat} {zs : List Int} {gone : Nat} (h : RRf w r g zs gone) (hb : Below w.heap.size w w') : RRf w' r g zs gone :=
  h.same (hb.block _ h.lt) fun _ hk => hb.block _ (h.glt hk)
theorem RRf.drewN {w : World} {r : Nat} {g : Option Nat} {zs : List Int} {gone : Nat} (h : RRf w r g zs gone) (n : Nat) : RRf (w.drewN n) r g zs gone := h.same rfl fun _ _ => rfl

set_option maxHeartbeats 400000 in
theorem rhave_any (x : Nat) (g : Option Nat) (L : List Int) (n : Nat) (w : World) (h : RRf w x g L n) (hl : L.length ≤ 1000000) (hn : n ≤ L.length) :
    Calls Try.prog 23 #[.pointer (some ⟨x, 0, none⟩)] w fun e w' => e = .returned (.int .i64 ((L.length : Int) - n)) ∧ ∃ n, w' = w.drewN n := by
  obtain ⟨v, hh, hs⟩ := h
  obtain ⟨av, cv, hv, hl1, hl2, hl3⟩ := hs.shape
  subst hv
  rw [ivals_len] at hh
  obtain ⟨q0, q1, f0, f1⟩ := two_cells hh
  clear hh hs hl1 hl2 hl3
  go_enter Try.func23, Try.ntmps23
  go_wp2
  go_quiet (fail)
  go_wp2
  go_ret
  exact ⟨rfl, nq, rfl⟩
set_option maxHeartbeats 800000 in
theorem rlook_no (x : Nat) (g : Option Nat) (L : List Int) (n : Nat) (i : Int) (w : World) (h : RRf w x g L n) (hl : L.length ≤ 1000000) (hn : n ≤ L.length) (hi : i < 0 ∨ (L.length : Int) - n ≤ i) :
    Calls Try.prog 16 #[.pointer (some ⟨x, 0, none⟩), .int .i64 i] w fun e w' => e = .returned (.int .i64 (-1)) ∧ ∃ n, w' = w.drewN n := by
  have C := rhave_any x g L n w h hl hn
  clear h
  by_cases h0 : i < 0
  · clear hi
    go_enter Try.func16, Try.ntmps16
    go_wp2
    go_ret
    exact ⟨rfl, 0, rfl⟩
  · have h1 : (L.length : Int) - n ≤ i := by omega
    have h2 : 0 ≤ i := by omega
    clear hi h0
    go_enter Try.func16, Try.ntmps16
    go_wp2_with (go_at_call 23; refine C.mono ?_; rintro e w' ⟨rfl, nn, rfl⟩)
    go_ret
    exact ⟨rfl, nn, rfl⟩
set_option maxHeartbeats 800000 in
theorem rlook_yes (x : Nat) (g : Option Nat) (L : List Int) (n i : Nat) (w : World) (h : RRf w x g L n) (hl : L.length ≤ 1000000) (hi : n + i < L.length) :
    Calls Try.prog 16 #[.pointer (some ⟨x, 0, none⟩), .int .i64 i] w fun e w' => e = .returned (.int .i64 (L[n + i]?.getD 0)) ∧ ∃ n, w' = w.drewN n := by
  have C := rhave_any x g L n w h hl (by omega)
  obtain ⟨v, hh, hs⟩ := h
  obtain ⟨av, cv, hv, hl1, hl2, hl3⟩ := hs.shape
  subst hv
  rw [ivals_len] at hh hs hl1
  have hne : ∃ b off, av = some ⟨b, off, none⟩ := by
    rcases hs with ⟨h, _, hx⟩ | ⟨b, off, c, cur, h, _⟩
    · have : L.length = 0 := by simp [ivals] at hx; rw [hx]; rfl
      omega
    · simp only [Value.slice.injEq] at h; exact ⟨b, off, h.1⟩
  obtain ⟨b, off, rfl⟩ := hne
  have hck : w.cell? ⟨b, off + (n + i), none⟩ = some (.int .i64 (L[n + i]?.getD 0)) := by
    rw [hs.cell _ (by rw [ivals_len]; omega), ivals_at _ _ (by omega)]
  obtain ⟨q0, q1, _, _⟩ := two_cells hh
  clear hh hs hl2 hl3 hl1
  generalize hz : L[n + i]?.getD 0 = z at *
  clear hz
  have h1 : (i : Int) < (L.length : Int) - n := by omega
  go_enter Try.func16, Try.ntmps16
  go_wp2_with (go_at_call 23; refine C.mono ?_; rintro e w' ⟨rfl, nn, rfl⟩)
  go_quiet (fail)
  go_wp2
  go_ret
  exact ⟨rfl, nn + nq, by simp [World.drewN, Nat.add_assoc]⟩
end Go.Proofs.Ytaenojkgdlpclaa
