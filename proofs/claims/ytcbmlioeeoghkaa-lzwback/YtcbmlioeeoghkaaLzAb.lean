/- LZW: the law's own loop over a decoder of least bits that may not be. -/
import Derived.Test.YtcbmlioeeoghkaaLzZ
namespace Go.Proofs.Ytcbmlioeeoghkaa
open Go.RowKit
def LabPost (w : World) (l : Int) (e : Ending) (w' : World) : Prop :=
  ∃ d a c, e = .returned (.tuple #[.slice a 0 c, .int .i64 1, .pointer (some ⟨d, 0, none⟩)]) ∧ LBad w' d l ∧ Below w.heap.size w w'
set_option maxHeartbeats 3200000 in
set_option maxRecDepth 20000 in
theorem lall_bad (a : Option Addr) (m cap : Nat) (N : Nat) (l lim : Int) (w : World) (hl : ¬ (2 ≤ l ∧ l ≤ 8)) (hc : m ≤ cap) (hcap : cap ≤ 9223372036854775807) :
    Calls Try.prog 17 #[.slice a m cap, .int .i64 N, .int .i64 l, .int .i64 lim] w fun e w' => LabPost w l e w' := by
  have HN := lnew_no l hl lim w
  have HL : Hid (¬ (2 ≤ l ∧ l ≤ 8)) := hl
  clear hl
  go_enter Try.func17, Try.ntmps17
  go_wp2_with fail
  refine HN.mono ?_
  clear HN
  rintro e w1 ⟨rfl, hd, hb1⟩
  obtain ⟨D, hD⟩ : ∃ D, w.heap.size = D := ⟨_, rfl⟩
  have HD : Hid (w.heap.size = D ∧ LBad w1 D l ∧ Below w.heap.size w w1) := ⟨hD, by rw [← hD]; exact hd, hb1⟩
  rw [hD]
  clear hD hd hb1
  go_wp2
  go_loopg [0, 12, 13, 14, 15] 0 (fun _ b out _ _ _ wr => b = .slice a m cap ∧ out = .slice none 0 0 ∧ wr = w1)
  case atStart => exact ⟨rfl, rfl, rfl⟩
  case round =>
    obtain ⟨rfl, rfl, rfl⟩ := hrel
    go_upto_region 3 with fail
    go_cut [13] (fun v wx => wx = wr ∧ ∃ K : Nat, v = .int .i64 K ∧ K ≤ m)
    case first =>
      rcases (show (N : Int) < (m : Int) ∨ m < N ∨ N = m by omega) with hlt | hlt | hlt
      · go_wp2
        go_meet
        exact ⟨rfl, N, rfl, by omega⟩
      · have hlt2 : (m : Int) < (N : Int) := by omega
        go_wp2
        go_meet
        exact ⟨rfl, m, rfl, by omega⟩
      · subst hlt
        go_wp2
        go_meet
        exact ⟨rfl, N, rfl, by omega⟩
    case rest =>
      obtain ⟨hwc, K, rfl, hKM⟩ := hcut
      rw [hwc]
      clear hwc wc
      have hKMi : (K : Int) ≤ (m : Int) := by omega
      have hKci : (K : Int) ≤ (cap : Int) := by omega
      have hKc : K ≤ cap := by omega
      have C1 := lpush_bad HD.out.2.1 HL.out (.slice a K cap)
      go_wp2_with fail
      refine C1.mono ?_
      clear C1
      rintro e w' ⟨rfl, hw'⟩
      subst w'
      have HE : Hid (∀ v7 w7 g7, Sl w7 5 v7 g7 (vals ([] ++ [])) → wr.grownBy w7 none → ∃ a c, v7 = .slice a 0 c ∧ LabPost w l (.returned (.tuple #[.slice a 0 c, .int .i64 1, .pointer (some ⟨D, 0, none⟩)])) w7) := by
        intro v7 w7 g7 h1 h2
        obtain ⟨a7, c7, hv7, -⟩ := h1.shape
        obtain ⟨q1, q2, q3⟩ := HD.out
        obtain ⟨lf, q2⟩ := q2
        refine ⟨a7, c7, hv7, D, a7, c7, rfl, ⟨lf, (h2.block D (lt_of_block q2) (by simp)).trans q2⟩, ?_⟩
        exact q3.grown h2 q3.size (fun k hk => by cases hk)
      by_cases hcK : cap = K
      · subst hcK
        obtain rfl : m = cap := by omega
        go_wp2
        go_region_law (first
          | (refine step_more rfl _ _ rfl (.slice none 0 0) none [] rfl (Sl.nil _ _) none 0 0 [] rfl (fun _ => rfl) rfl (.inl rfl) (by decide) ?_; intro v7 w7 g7 hs7 hg7 hgr7; obtain ⟨a7, c7, hv7, HP⟩ := HE.out v7 w7 g7 hs7 ⟨hgr7.os, hgr7.tape, hgr7.output, hgr7.size, hgr7.block⟩; have HPP : Hid (LabPost w l (.returned (.tuple #[.slice a7 0 c7, .int .i64 1, .pointer (some ⟨D, 0, none⟩)])) w7) := HP; subst hv7; clear hs7 hg7 hgr7 HP)
          | fail)
        all_goals
          go_wp2
          all_goals
            go_ret3
            exact HPP.out
      · have hcKi : ¬ (cap : Int) = (K : Int) := by omega
        go_wp2
        go_region_law (first
          | (refine step_more rfl _ _ rfl (.slice none 0 0) none [] rfl (Sl.nil _ _) none 0 0 [] rfl (fun _ => rfl) rfl (.inl rfl) (by decide) ?_; intro v7 w7 g7 hs7 hg7 hgr7; obtain ⟨a7, c7, hv7, HP⟩ := HE.out v7 w7 g7 hs7 ⟨hgr7.os, hgr7.tape, hgr7.output, hgr7.size, hgr7.block⟩; have HPP : Hid (LabPost w l (.returned (.tuple #[.slice a7 0 c7, .int .i64 1, .pointer (some ⟨D, 0, none⟩)])) w7) := HP; subst hv7; clear hs7 hg7 hgr7 HP)
          | fail)
        all_goals
          go_wp2
          all_goals
            go_ret3
            exact HPP.out
end Go.Proofs.Ytcbmlioeeoghkaa
