/- Little; numbers are read as they were put. -/
import Derived.Test.YtinmkhdangknbaaTkB
import Derived.Test.YtinmkhdangknbaaOcB
import Derived.Test.YtinmkhdangknbaaRfB
namespace Go.Proofs.Ytinmkhdangknbaa
open Go.RowKit
set_option maxHeartbeats 400000 in
theorem little_any (a : Option Addr) (n cap : Nat) (zs : List Int) (w : World) (hn : zs.length = n) (h4 : n ≤ 4) (hb : Bytes zs) (hr : Row w a zs) :
    Calls Try.prog 50 #[.slice a n cap] w fun e w' => e = .returned (.int .i64 (litN zs)) ∧ w' = w := by
  have HN : Hid (zs.length = n) := hn
  have HB : Hid (Bytes zs) := hb
  rcases hr with rfl | ⟨b, off, rfl, hc⟩
  · simp at hn
    subst hn
    clear h4 hb
    go_enter Try.func50, Try.ntmps50
    go_wp2
    go_loop [3, 8] (fun v i => v = .int .u64 0 ∧ i = .int .i64 0) (fun _ _ => 0)
    case atStart => exact ⟨rfl, rfl⟩
    case round =>
      obtain ⟨rfl, rfl⟩ := hrel
      go_wp2
      go_ret
      exact ⟨ret_int rfl, rfl⟩
  · clear hn hb
    go_enter Try.func50, Try.ntmps50
    go_wp2
    go_loop [3, 4, 5, 8] (fun v _ _ i => ∃ k : Nat, k ≤ n ∧ i = .int .i64 k ∧ v = .int .u64 (litN (zs.take k))) (fun _ _ _ i => n - (intOf i).toNat)
    case atStart => exact ⟨0, Nat.zero_le _, rfl, rfl⟩
    case round =>
      obtain ⟨k, hk, rfl, rfl⟩ := hrel
      have hbd := litN_le (HB.out.take k) (by simp; omega)
      by_cases hlt : k < n
      · have hck := hc k (by have := HN.out; omega)
        have hzk := HB.out.at k
        have HS : Hid (litN (zs.take (k + 1)) = litN (zs.take k) + (zs[k]?.getD 0) * 256 ^ k) := by rw [take_snoc zs k (by have := HN.out; omega), litN_snoc]; simp; rw [Nat.min_eq_left (by have := HN.out; omega)]; trivial
        have hbk := litN_bound (HB.out.take k)
        have HO : Hid _ := or_at (litN (zs.take k)) (zs[k]?.getD 0) k (by omega) hbk.1 (by have h := hbk.2; rwa [List.length_take, Nat.min_eq_left (by have := HN.out; omega)] at h) hzk.1 hzk.2
        clear hbk
        go_wp2
        go_round
        case rel => exact ⟨k + 1, by omega, by go_num, by rw [HS.out, ← HO.out]⟩
        case measure => simp [intOf]; omega
      · go_wp2
        go_ret
        exact ⟨ret_int (by rw [List.take_of_length_le (by have := HN.out; omega)]), rfl⟩
set_option maxHeartbeats 400000 in
theorem Little_any (a : Option Addr) (len cap : Nat) (p n : Int) (zs : List Int) (w : World) (hn : zs.length = len) (hl : len ≤ cap) (hm : cap ≤ maxLen) (wn : (Lit.int .i64 n).wf = true) (hb : Bytes zs) (hr : Row w a zs) :
    Calls Try.prog 35 #[.slice a len cap, .int .i64 p, .int .i64 n] w fun e w' => e = .returned (.tuple #[.int .i64 (litN (cutL zs p n)), .int .i64 (cutE zs.length p n)]) ∧ w' = w := by
  have C := cut_any a len cap p n zs w hn hl hm wn hr
  have HB : Hid (Bytes (cutL zs p n) ∧ (cutL zs p n).length ≤ 4) := ⟨cutL_bytes hb p n, cutL_len zs p n⟩
  generalize cutL zs p n = l at *
  generalize cutE zs.length p n = er at *
  clear hn hr hb hl hm
  go_enter Try.func35, Try.ntmps35
  go_wp2_with fail
  refine C.mono ?_
  clear C
  rintro e w' ⟨a', cap', rfl, hrow, rfl⟩
  go_wp2_with fail
  refine (little_any a' l.length cap' l _ rfl HB.out.2 HB.out.1 hrow).mono ?_
  rintro e w1 ⟨rfl, rfl⟩
  go_wp2
  go_ret2
  exact ⟨rfl, rfl⟩
theorem lit_octs (v : Int) (n : Nat) (h4 : n ≤ 4) (h0 : 0 ≤ v) (h1 : v < 256 ^ n) : litN (octs v n) = v := by
  match n, h4 with
  | 0, _ => simp [octs, litN] at *; omega
  | 1, _ => simp [octs, litN, oct, List.range_succ] at *; omega
  | 2, _ => simp [octs, litN, oct, List.range_succ] at *; omega
  | 3, _ => simp [octs, litN, oct, List.range_succ] at *; omega
  | 4, _ => simp [octs, litN, oct, List.range_succ] at *; omega
theorem bN_bg (n : Nat) (v : Int) (r : List Int) (h4 : n ≤ 4) (h0 : 0 ≤ v) (h1 : v < 256 ^ n) : bN n (.ok (bg n v ++ r)) = v := by
  have hl := bg_len n v
  unfold bN
  rw [bL_more (by rw [List.length_append]; omega), List.take_append_of_le_length (by omega), List.take_of_length_le (by omega)]
  unfold bg
  rw [bigN_reverse]
  exact lit_octs v n h4 h0 h1
theorem bS_bg (n : Nat) (v : Int) (r : List Int) : bS n (.ok (bg n v ++ r)) = .ok r := by
  have hl := bg_len n v
  rw [bS_more (by rw [List.length_append]; omega), List.drop_append_of_le_length (by omega), List.drop_of_length_le (by omega), List.nil_append]
theorem bS_bg0 (n : Nat) (v : Int) : bS n (.ok (bg n v)) = .ok [] := by have := bS_bg n v []; rwa [List.append_nil] at this
theorem bN_bg0 (n : Nat) (v : Int) (h4 : n ≤ 4) (h0 : 0 ≤ v) (h1 : v < 256 ^ n) : bN n (.ok (bg n v)) = v := by have := bN_bg n v [] h4 h0 h1; rwa [List.append_nil] at this
theorem octs_len (v : Int) (n : Nat) : (octs v n).length = n := by simp [octs]
end Go.Proofs.Ytinmkhdangknbaa
