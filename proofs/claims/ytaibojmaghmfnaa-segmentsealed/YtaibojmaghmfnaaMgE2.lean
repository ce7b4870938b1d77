/- The bounds of a message's numbers. -/
import Derived.Test.YtaibojmaghmfnaaMgE
namespace Go.Proofs.Ytaibojmaghmfnaa
open Go.RowKit
def bn_ask (m : Ms) : Bool := wi m.fi 0 15 && wi m.ap 0 1048576
set_option maxHeartbeats 1600000 in
theorem bounds_ask (m : Ms) (w : World) (hd : m.dn ≤ 140737488355328) : Calls Try.prog 55 #[m.V] w fun e w' => e = .returned (.bool (bn_ask m)) ∧ Below w.heap.size w w' := by
  obtain ⟨k, bo, fi, su, si, ap, bd, ix, pa, co, ra, rn, rc, da, dn, dc⟩ := m
  unfold bn_ask Ms.V Ms.c12
  simp only at *
  cases h0 : wi fi 0 15
  ·
    go_enter Try.func55, Try.ntmps55
    go_wp2_with (first | (go_at_call 56; refine (isFile_any _ _).mono ?_; rintro e w' ⟨rfl, rfl⟩) | (go_at_call 66; refine (isIndex_any _ _).mono ?_; rintro e w' ⟨rfl, rfl⟩) | (go_at_call 57; refine (swithin_any _ _ _ _).mono ?_; rintro e w' ⟨rfl, rfl⟩))
    go_ret
    exact ⟨by simp, (Below.refl _ _).alloc (Nat.le_refl _) _⟩
  ·
    cases h1 : wi ap 0 1048576
    ·
      go_enter Try.func55, Try.ntmps55
      go_wp2_with (first | (go_at_call 56; refine (isFile_any _ _).mono ?_; rintro e w' ⟨rfl, rfl⟩) | (go_at_call 66; refine (isIndex_any _ _).mono ?_; rintro e w' ⟨rfl, rfl⟩) | (go_at_call 57; refine (swithin_any _ _ _ _).mono ?_; rintro e w' ⟨rfl, rfl⟩))
      go_ret
      exact ⟨by simp, (Below.refl _ _).alloc (Nat.le_refl _) _⟩
    ·
      go_enter Try.func55, Try.ntmps55
      go_wp2_with (first | (go_at_call 56; refine (isFile_any _ _).mono ?_; rintro e w' ⟨rfl, rfl⟩) | (go_at_call 66; refine (isIndex_any _ _).mono ?_; rintro e w' ⟨rfl, rfl⟩) | (go_at_call 57; refine (swithin_any _ _ _ _).mono ?_; rintro e w' ⟨rfl, rfl⟩))
      go_ret
      exact ⟨by simp, (Below.refl _ _).alloc (Nat.le_refl _) _⟩
def bn_offer (m : Ms) : Bool := wi m.fi 0 15 && wi m.si 1 1048576 && wi m.ap 0 m.si && wi m.bd 1 1024
set_option maxHeartbeats 1600000 in
theorem bounds_offer (m : Ms) (w : World) (hd : m.dn ≤ 140737488355328) : Calls Try.prog 61 #[m.V] w fun e w' => e = .returned (.bool (bn_offer m)) ∧ Below w.heap.size w w' := by
  obtain ⟨k, bo, fi, su, si, ap, bd, ix, pa, co, ra, rn, rc, da, dn, dc⟩ := m
  unfold bn_offer Ms.V Ms.c12
  simp only at *
  cases h0 : wi fi 0 15
  ·
    go_enter Try.func61, Try.ntmps61
    go_wp2_with (first | (go_at_call 56; refine (isFile_any _ _).mono ?_; rintro e w' ⟨rfl, rfl⟩) | (go_at_call 66; refine (isIndex_any _ _).mono ?_; rintro e w' ⟨rfl, rfl⟩) | (go_at_call 57; refine (swithin_any _ _ _ _).mono ?_; rintro e w' ⟨rfl, rfl⟩))
    go_ret
    exact ⟨by simp, (Below.refl _ _).alloc (Nat.le_refl _) _⟩
  ·
    cases h1 : wi si 1 1048576
    ·
      go_enter Try.func61, Try.ntmps61
      go_wp2_with (first | (go_at_call 56; refine (isFile_any _ _).mono ?_; rintro e w' ⟨rfl, rfl⟩) | (go_at_call 66; refine (isIndex_any _ _).mono ?_; rintro e w' ⟨rfl, rfl⟩) | (go_at_call 57; refine (swithin_any _ _ _ _).mono ?_; rintro e w' ⟨rfl, rfl⟩))
      go_ret
      exact ⟨by simp, (Below.refl _ _).alloc (Nat.le_refl _) _⟩
    ·
      cases h2 : wi ap 0 si
      ·
        go_enter Try.func61, Try.ntmps61
        go_wp2_with (first | (go_at_call 56; refine (isFile_any _ _).mono ?_; rintro e w' ⟨rfl, rfl⟩) | (go_at_call 66; refine (isIndex_any _ _).mono ?_; rintro e w' ⟨rfl, rfl⟩) | (go_at_call 57; refine (swithin_any _ _ _ _).mono ?_; rintro e w' ⟨rfl, rfl⟩))
        go_ret
        exact ⟨by simp, (Below.refl _ _).alloc (Nat.le_refl _) _⟩
      ·
        cases h3 : wi bd 1 1024
        ·
          go_enter Try.func61, Try.ntmps61
          go_wp2_with (first | (go_at_call 56; refine (isFile_any _ _).mono ?_; rintro e w' ⟨rfl, rfl⟩) | (go_at_call 66; refine (isIndex_any _ _).mono ?_; rintro e w' ⟨rfl, rfl⟩) | (go_at_call 57; refine (swithin_any _ _ _ _).mono ?_; rintro e w' ⟨rfl, rfl⟩))
          go_ret
          exact ⟨by simp, (Below.refl _ _).alloc (Nat.le_refl _) _⟩
        ·
          go_enter Try.func61, Try.ntmps61
          go_wp2_with (first | (go_at_call 56; refine (isFile_any _ _).mono ?_; rintro e w' ⟨rfl, rfl⟩) | (go_at_call 66; refine (isIndex_any _ _).mono ?_; rintro e w' ⟨rfl, rfl⟩) | (go_at_call 57; refine (swithin_any _ _ _ _).mono ?_; rintro e w' ⟨rfl, rfl⟩))
          go_ret
          exact ⟨by simp, (Below.refl _ _).alloc (Nat.le_refl _) _⟩
def bn_data (m : Ms) : Bool := wi m.ix 0 2147483647 && wi m.pa 0 8 && wi (m.dn : Int) 1 1024
set_option maxHeartbeats 1600000 in
theorem bounds_data (m : Ms) (w : World) (hd : m.dn ≤ 140737488355328) : Calls Try.prog 65 #[m.V] w fun e w' => e = .returned (.bool (bn_data m)) ∧ Below w.heap.size w w' := by
  obtain ⟨k, bo, fi, su, si, ap, bd, ix, pa, co, ra, rn, rc, da, dn, dc⟩ := m
  unfold bn_data Ms.V Ms.c12
  simp only at *
  cases h0 : wi ix 0 2147483647
  ·
    go_enter Try.func65, Try.ntmps65
    go_wp2_with (first | (go_at_call 56; refine (isFile_any _ _).mono ?_; rintro e w' ⟨rfl, rfl⟩) | (go_at_call 66; refine (isIndex_any _ _).mono ?_; rintro e w' ⟨rfl, rfl⟩) | (go_at_call 57; refine (swithin_any _ _ _ _).mono ?_; rintro e w' ⟨rfl, rfl⟩))
    go_ret
    exact ⟨by simp, (Below.refl _ _).alloc (Nat.le_refl _) _⟩
  ·
    cases h1 : wi pa 0 8
    ·
      go_enter Try.func65, Try.ntmps65
      go_wp2_with (first | (go_at_call 56; refine (isFile_any _ _).mono ?_; rintro e w' ⟨rfl, rfl⟩) | (go_at_call 66; refine (isIndex_any _ _).mono ?_; rintro e w' ⟨rfl, rfl⟩) | (go_at_call 57; refine (swithin_any _ _ _ _).mono ?_; rintro e w' ⟨rfl, rfl⟩))
      go_ret
      exact ⟨by simp, (Below.refl _ _).alloc (Nat.le_refl _) _⟩
    ·
      cases h2 : wi (dn : Int) 1 1024
      ·
        go_enter Try.func65, Try.ntmps65
        go_wp2_with (first | (go_at_call 56; refine (isFile_any _ _).mono ?_; rintro e w' ⟨rfl, rfl⟩) | (go_at_call 66; refine (isIndex_any _ _).mono ?_; rintro e w' ⟨rfl, rfl⟩) | (go_at_call 57; refine (swithin_any _ _ _ _).mono ?_; rintro e w' ⟨rfl, rfl⟩))
        go_ret
        exact ⟨by simp, (Below.refl _ _).alloc (Nat.le_refl _) _⟩
      ·
        go_enter Try.func65, Try.ntmps65
        go_wp2_with (first | (go_at_call 56; refine (isFile_any _ _).mono ?_; rintro e w' ⟨rfl, rfl⟩) | (go_at_call 66; refine (isIndex_any _ _).mono ?_; rintro e w' ⟨rfl, rfl⟩) | (go_at_call 57; refine (swithin_any _ _ _ _).mono ?_; rintro e w' ⟨rfl, rfl⟩))
        go_ret
        exact ⟨by simp, (Below.refl _ _).alloc (Nat.le_refl _) _⟩
def bn_no (m : Ms) : Bool := wi m.fi 0 15 && wi m.co 0 255
set_option maxHeartbeats 1600000 in
theorem bounds_no (m : Ms) (w : World) (hd : m.dn ≤ 140737488355328) : Calls Try.prog 76 #[m.V] w fun e w' => e = .returned (.bool (bn_no m)) ∧ Below w.heap.size w w' := by
  obtain ⟨k, bo, fi, su, si, ap, bd, ix, pa, co, ra, rn, rc, da, dn, dc⟩ := m
  unfold bn_no Ms.V Ms.c12
  simp only at *
  cases h0 : wi fi 0 15
  ·
    go_enter Try.func76, Try.ntmps76
    go_wp2_with (first | (go_at_call 56; refine (isFile_any _ _).mono ?_; rintro e w' ⟨rfl, rfl⟩) | (go_at_call 66; refine (isIndex_any _ _).mono ?_; rintro e w' ⟨rfl, rfl⟩) | (go_at_call 57; refine (swithin_any _ _ _ _).mono ?_; rintro e w' ⟨rfl, rfl⟩))
    go_ret
    exact ⟨by simp, (Below.refl _ _).alloc (Nat.le_refl _) _⟩
  ·
    cases h1 : wi co 0 255
    ·
      go_enter Try.func76, Try.ntmps76
      go_wp2_with (first | (go_at_call 56; refine (isFile_any _ _).mono ?_; rintro e w' ⟨rfl, rfl⟩) | (go_at_call 66; refine (isIndex_any _ _).mono ?_; rintro e w' ⟨rfl, rfl⟩) | (go_at_call 57; refine (swithin_any _ _ _ _).mono ?_; rintro e w' ⟨rfl, rfl⟩))
      go_ret
      exact ⟨by simp, (Below.refl _ _).alloc (Nat.le_refl _) _⟩
    ·
      go_enter Try.func76, Try.ntmps76
      go_wp2_with (first | (go_at_call 56; refine (isFile_any _ _).mono ?_; rintro e w' ⟨rfl, rfl⟩) | (go_at_call 66; refine (isIndex_any _ _).mono ?_; rintro e w' ⟨rfl, rfl⟩) | (go_at_call 57; refine (swithin_any _ _ _ _).mono ?_; rintro e w' ⟨rfl, rfl⟩))
      go_ret
      exact ⟨by simp, (Below.refl _ _).alloc (Nat.le_refl _) _⟩
def bn_ack (m : Ms) (G : List (Int × Int)) : Bool := wi m.ix 0 2147483647 && decide (m.rn ≤ 4) && ordP m.ix G
set_option maxHeartbeats 1600000 in
theorem bounds_ack (m : Ms) (G : List (Int × Int)) (D : List Int) (w : World) (hm : MsM w m G D) : Calls Try.prog 71 #[m.V] w fun e w' => e = .returned (.bool (bn_ack m G)) ∧ Below w.heap.size w w' := by
  have CO : Hid (∀ u, Below w.heap.size w u → Calls Try.prog 72 #[.int .i64 m.ix, .slice m.ra m.rn m.rc] u fun e w' => e = .returned (.bool (ordP m.ix G)) ∧ Below u.heap.size u w') := fun u hu => inOrder_any m.ix m.ra m.rn m.rc G u hm.gn hm.rb (hm.g.old hu)
  have hrb := hm.rb
  clear hm
  obtain ⟨k, bo, fi, su, si, ap, bd, ix, pa, co, ra, rn, rc, da, dn, dc⟩ := m
  unfold bn_ack Ms.V Ms.c12
  simp only at *
  have HB : Hid (Below w.heap.size w (w.alloc (.cells (#[.int .i64 k, .int .u32 bo, .int .i64 fi, .int .u32 su, .int .i64 si, .int .i64 ap, .int .i64 bd, .int .i64 ix, .int .i64 pa, .int .i64 co, .slice ra rn rc, .slice da dn dc]) 26))) := (Below.refl _ _).alloc (Nat.le_refl _) _
  cases h0 : wi ix 0 2147483647
  · go_enter Try.func71, Try.ntmps71
    go_wp2_with (first | (go_at_call 56; refine (isFile_any _ _).mono ?_; rintro e w' ⟨rfl, rfl⟩) | (go_at_call 66; refine (isIndex_any _ _).mono ?_; rintro e w' ⟨rfl, rfl⟩) | (go_at_call 57; refine (swithin_any _ _ _ _).mono ?_; rintro e w' ⟨rfl, rfl⟩))
    go_ret
    exact ⟨by simp, HB.out⟩
  · by_cases h1 : rn ≤ 4
    · have h1i : (rn : Int) ≤ 4 := by omega
      cases h2 : ordP ix G
      · rw [h2] at CO
        go_enter Try.func71, Try.ntmps71
        go_wp2_with (first | (go_at_call 72; refine (CO.out _ HB.out).mono ?_; rintro e w' ⟨rfl, hb⟩; have HC : Hid _ := HB.out.trans (hb.mono HB.out.size); clear hb) | (go_at_call 56; refine (isFile_any _ _).mono ?_; rintro e w' ⟨rfl, rfl⟩) | (go_at_call 66; refine (isIndex_any _ _).mono ?_; rintro e w' ⟨rfl, rfl⟩) | (go_at_call 57; refine (swithin_any _ _ _ _).mono ?_; rintro e w' ⟨rfl, rfl⟩))
        go_ret
        exact ⟨by simp, HC.out⟩
      · rw [h2] at CO
        go_enter Try.func71, Try.ntmps71
        go_wp2_with (first | (go_at_call 72; refine (CO.out _ HB.out).mono ?_; rintro e w' ⟨rfl, hb⟩; have HC : Hid _ := HB.out.trans (hb.mono HB.out.size); clear hb) | (go_at_call 56; refine (isFile_any _ _).mono ?_; rintro e w' ⟨rfl, rfl⟩) | (go_at_call 66; refine (isIndex_any _ _).mono ?_; rintro e w' ⟨rfl, rfl⟩) | (go_at_call 57; refine (swithin_any _ _ _ _).mono ?_; rintro e w' ⟨rfl, rfl⟩))
        go_ret
        exact ⟨by simp [h1], HC.out⟩
    · have h1i : ¬ (rn : Int) ≤ 4 := by omega
      go_enter Try.func71, Try.ntmps71
      go_wp2_with (first | (go_at_call 56; refine (isFile_any _ _).mono ?_; rintro e w' ⟨rfl, rfl⟩) | (go_at_call 66; refine (isIndex_any _ _).mono ?_; rintro e w' ⟨rfl, rfl⟩) | (go_at_call 57; refine (swithin_any _ _ _ _).mono ?_; rintro e w' ⟨rfl, rfl⟩))
      go_ret
      exact ⟨by simp, HB.out⟩
end Go.Proofs.Ytaibojmaghmfnaa
