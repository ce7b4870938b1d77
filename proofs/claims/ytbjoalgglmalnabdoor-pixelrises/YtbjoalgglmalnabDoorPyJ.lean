/- A grey pixel's colour: the program. -/
import Derived.Test.YtbjoalgglmalnabDoorPyH
namespace Go.Proofs.YtbjoalgglmalnabDoor
open Go.RowKit
def lvN (d : Nat) (v : Int) : Int := v * (65535 / (2 ^ d - 1))
set_option maxHeartbeats 800000 in
theorem level_any (v : Int) (d : Nat) (w : World) (hd : isDp d) (h0 : 0 ≤ v) (h1 : v < 2 ^ d) : Calls Tryd.prog 18 #[.int .i64 v, .int .i64 d] w fun e w' => e = .returned (.int .u16 (lvN d v)) ∧ w' = w := by
  unfold isDp at hd
  have hd' : d = 1 ∨ d = 2 ∨ d = 4 ∨ d = 8 ∨ d = 16 := by omega
  unfold lvN
  rcases hd' with rfl | rfl | rfl | rfl | rfl
  · have h2 : v < 2 := h1
    rw [show (65535 : Int) / (2 ^ 1 - 1) = 65535 from by decide]
    go_enter Tryd.func18, Tryd.ntmps18
    go_wp2
    go_ret
    exact ⟨rfl, rfl⟩
  · have h2 : v < 4 := h1
    rw [show (65535 : Int) / (2 ^ 2 - 1) = 21845 from by decide]
    go_enter Tryd.func18, Tryd.ntmps18
    go_wp2
    go_ret
    exact ⟨rfl, rfl⟩
  · have h2 : v < 16 := h1
    rw [show (65535 : Int) / (2 ^ 4 - 1) = 4369 from by decide]
    go_enter Tryd.func18, Tryd.ntmps18
    go_wp2
    go_ret
    exact ⟨rfl, rfl⟩
  · have h2 : v < 256 := h1
    rw [show (65535 : Int) / (2 ^ 8 - 1) = 257 from by decide]
    go_enter Tryd.func18, Tryd.ntmps18
    go_wp2
    go_ret
    exact ⟨rfl, rfl⟩
  · have h2 : v < 65536 := h1
    rw [show (65535 : Int) / (2 ^ 16 - 1) = 1 from by decide]
    go_enter Tryd.func18, Tryd.ntmps18
    go_wp2
    go_ret
    exact ⟨by rw [Int.mul_one]; rfl, rfl⟩
theorem list_ne_at {l m : List Int} {j : Nat} (h : l[j]?.getD 0 ≠ m[j]?.getD 0) : l ≠ m := fun e => h (by rw [e])
set_option maxHeartbeats 1600000 in
theorem equal_any (a : Option Addr) (n c : Nat) (a' : Option Addr) (n' c' : Nat) (l m : List Int) (w : World) (hn : l.length = n) (hn' : m.length = n') (hl : IRow w a l) (hm : IRow w a' m) (hb : n ≤ 17592186044416) : Calls Tryd.prog 23 #[.slice a n c, .slice a' n' c'] w fun e w' => e = .returned (.bool (decide (l = m))) ∧ Below w.heap.size w w' := by
  have HR : Hid (l.length = n ∧ m.length = n' ∧ IRow w a l ∧ IRow w a' m) := ⟨hn, hn', hl, hm⟩
  have H0 : Hid (Below w.heap.size w w) := Below.refl _ _
  by_cases hnn : n = n'
  · subst hnn
    clear hn hn' hl hm
    go_enter Tryd.func23, Tryd.ntmps23
    go_wp2
    go_loopw [4, 5, 13] (fun v4 _ v wr => v4 = .bool false ∧ ∃ j : Nat, j ≤ n ∧ v = .int .i64 j ∧ Hid (l.take j = m.take j) ∧ Hid (Below w.heap.size w wr)) (fun _ _ v _ => n - (intOf v).toNat)
    case atStart => exact ⟨rfl, 0, Nat.zero_le _, rfl, rfl, H0⟩
    case round =>
      obtain ⟨rfl, j, hj, rfl, HT, HB⟩ := hrel
      by_cases hlt : j < n
      · obtain ⟨b, off, rfl, h1⟩ := (HR.out.2.2.1.old HB.out).at j (by rw [HR.out.1]; exact hlt)
        obtain ⟨b', off', rfl, h2⟩ := (HR.out.2.2.2.old HB.out).at j (by rw [HR.out.2.1]; exact hlt)
        have HN : Hid ((l[j]?.getD 0 = m[j]?.getD 0 → l.take (j + 1) = m.take (j + 1)) ∧ (l[j]?.getD 0 ≠ m[j]?.getD 0 → decide (l = m) = false)) := by
          refine ⟨fun e => ?_, fun e => decide_eq_false (list_ne_at e)⟩
          rw [take_snoc l j (by rw [HR.out.1]; exact hlt), take_snoc m j (by rw [HR.out.2.1]; exact hlt), HT.out, e]
        clear HT
        generalize l[j]?.getD 0 = x at *
        generalize m[j]?.getD 0 = y at *
        by_cases e : x = y
        · subst e
          have HT : Hid (l.take (j + 1) = m.take (j + 1)) := HN.out.1 rfl
          clear HN
          go_wp2
          go_quiet (fail)
          go_wp2
          go_roundw
          case rel => first | exact ⟨_, _, _, ⟨rfl, j + 1, hlt, rfl, HT, bqdrewX HB.out _⟩, rfl, rfl, by go_num⟩ | exact ⟨rfl, j + 1, hlt, by go_num, HT, bqdrewX HB.out _⟩
          case measure => simp [intOf]; omega
        · have HF : Hid (decide (l = m) = false) := HN.out.2 e
          have hne : (x != y) = true := by simpa using e
          clear HN
          go_wp2
          go_quiet (fail)
          go_wp2
          go_ret
          exact ⟨by rw [HF.out]; rfl, bqdrewX HB.out _⟩
      · obtain rfl : j = n := by omega
        have HF : Hid (decide (l = m) = true) := decide_eq_true (by have := HT.out; rw [List.take_of_length_le (by rw [HR.out.1]; exact Nat.le_refl _), List.take_of_length_le (by rw [HR.out.2.1]; exact Nat.le_refl _)] at this; exact this)
        clear HT
        go_wp2
        go_ret
        exact ⟨by rw [HF.out]; rfl, HB.out⟩
  · rw [decide_eq_false (fun e => hnn (by rw [← hn, ← hn', e]))]
    have hne : ((n : Int) != (n' : Int)) = true := by simp; omega
    clear hn hn' hl hm
    go_enter Tryd.func23, Tryd.ntmps23
    go_wp2
    go_ret
    exact ⟨rfl, H0.out⟩
def cvN (K l : List Int) : Int := if K = l then 0 else 65535
set_option maxHeartbeats 800000 in
theorem cover_any (r : Rs) (A K S : List Int) (la : Option Addr) (ln lc : Nat) (l : List Int) (w : World) (hm : RsM w r A K S) (hl : IRow w la l) (hln : l.length = ln) : Calls Tryd.prog 19 #[r.V, .slice la ln lc] w fun e w' => e = .returned (.int .u16 (cvN K l)) ∧ Below w.heap.size w w' := by
  have HQ : Hid (QR w r.c9 _) := QR.box w r.c9
  have CE := equal_any r.ca r.cn r.cc la ln lc K l _ hm.kn hln (hm.k.old HQ.out.1) (hl.old HQ.out.1) hm.bd.2.1
  unfold cvN
  clear hm hl hln
  obtain ⟨W, H, C, D, L, ta, tn, tc, aa, an, ac, ca, cn, cc, sa, sn, sc⟩ := r
  unfold Rs.V at *
  unfold Rs.c9 at *
  simp only at *
  by_cases e : K = l
  · rw [if_pos e]
    rw [decide_eq_true e] at CE
    clear e
    go_enter Tryd.func19, Tryd.ntmps19
    go_wp2_with fail
    refine CE.mono ?_
    rintro e w1 ⟨rfl, hb1⟩
    have HF : Hid (Below w.heap.size w w1) := (HQ.out.old hb1).1
    clear hb1
    go_wp2
    go_ret
    exact ⟨rfl, HF.out⟩
  · rw [if_neg e]
    rw [decide_eq_false e] at CE
    clear e
    go_enter Tryd.func19, Tryd.ntmps19
    go_wp2_with fail
    refine CE.mono ?_
    rintro e w1 ⟨rfl, hb1⟩
    have HF : Hid (Below w.heap.size w w1) := (HQ.out.old hb1).1
    clear hb1
    go_wp2
    go_ret
    exact ⟨rfl, HF.out⟩
end Go.Proofs.YtbjoalgglmalnabDoor
