import Derived.Test.YtaenojkgdlpclaaRRe
namespace Go.Proofs.Ytaenojkgdlpclaa
open Go.RowKit

def RAlignPost (w : World) (x : Nat) (g : Option Nat) (L : List Int) (n k : Nat) (e : Ending) (w' : World) : Prop :=
  e = .returned (.int .i64 k) ∧ RRf w' x g L (n + k) ∧ Fr w w' x g
theorem RRf.set1 {w : World} {x : Nat} {g : Option Nat} {L : List Int} {n : Nat} (h : RRf w x g L n) (m : Nat) (u : Int) (hu : u = (m : Int)) : RRf (w.setCell ⟨x, 1, none⟩ (.int .i64 u)) x g L m := by
  have hp := h.sep
  obtain ⟨v, hh, hs⟩ := h
  subst hu
  exact ⟨v, two_set1 hh, hs.same fun k hk => Below.heap_setCell w _ _ k (fun e => hp (by rw [hk, e]))⟩
set_option maxHeartbeats 1600000 in
theorem ralign_any (x : Nat) (g : Option Nat) (L : List Int) (n k : Nat) (w : World) (h : RRf w x g L n) (hn : n ≤ 1000000) (hk : k = (8 - n % 8) % 8) :
    Calls Try.prog 18 #[.pointer (some ⟨x, 0, none⟩)] w fun e w' => RAlignPost w x g L n k e w' := by
  have HR : Hid (RRf w x g L n) := h
  have HK : Hid (k = (8 - n % 8) % 8) := hk
  clear h hk
  go_enter Try.func18, Try.ntmps18
  go_wp2
  go_loopw [3] (fun c wr => ∃ j : Nat, j ≤ k ∧ c = .int .i64 j ∧ RRf wr x g L (n + j) ∧ Fr w wr x g) (fun c _ => k - (intOf c).toNat)
  case atStart => exact ⟨0, Nat.zero_le _, rfl, HR.out, Fr.refl _ _ _⟩
  case round =>
    clear HR
    obtain ⟨j, hj, rfl, hr, hf⟩ := hrel
    have HR : Hid (RRf wr x g L (n + j) ∧ Fr w wr x g) := ⟨hr, hf⟩
    obtain ⟨v, hh, hs⟩ := hr
    obtain ⟨q0, q1, f0, f1⟩ := two_cells hh
    clear hh hs hf
    rw [Int.natCast_add] at q1
    by_cases hlt : j < k
    · have hm : (((n : Int) + (j : Int)) % 8 != 0) = true := by
        rw [bne_iff_ne]; have := HK.out; omega
      have hkb : k < 8 := by have := HK.out; omega
      go_wp2
      go_roundw
      case rel => exact ⟨j + 1, by omega, by go_num, HR.out.1.set1 _ _ (by omega), HR.out.2.trans (Fr.set x 1 _ g) (.inl rfl)⟩
      case measure => simp [intOf]; omega
    · obtain rfl : j = k := by omega
      have hm : (((n : Int) + (j : Int)) % 8 != 0) = false := by
        have : ((n : Int) + (j : Int)) % 8 = 0 := by have := HK.out; omega
        rw [this]; rfl
      have hkb : j < 8 := by have := HK.out; omega
      go_wp2
      go_ret
      exact ⟨rfl, HR.out.1, HR.out.2⟩

set_option maxHeartbeats 800000 in
theorem rtake_no (x : Nat) (g : Option Nat) (L : List Int) (n : Nat) (m : Int) (w : World) (h : RRf w x g L n) (hl : L.length ≤ 1000000) (hn : n ≤ L.length) (hm : m < 0 ∨ 32 < m ∨ (L.length : Int) - n < m) :
    Calls Try.prog 14 #[.pointer (some ⟨x, 0, none⟩), .int .i64 m] w fun e w' => e = .returned (.tuple #[.int .i64 0, .bool false]) ∧ ∃ n, w' = w.drewN n := by
  have C := rhave_any x g L n w h hl hn
  clear h
  by_cases h0 : m < 0
  · clear hm
    go_enter Try.func14, Try.ntmps14
    go_wp2
    go_ret2
    exact ⟨rfl, 0, rfl⟩
  · by_cases h1 : 32 < m
    · clear hm
      go_enter Try.func14, Try.ntmps14
      go_wp2
      go_ret2
      exact ⟨rfl, 0, rfl⟩
    · have h2 : (L.length : Int) - n < m := by omega
      clear hm
      go_enter Try.func14, Try.ntmps14
      go_wp2_with (go_at_call 23; refine C.mono ?_; rintro e w' ⟨rfl, nn, rfl⟩)
      go_ret2
      exact ⟨rfl, nn, rfl⟩
end Go.Proofs.Ytaenojkgdlpclaa
