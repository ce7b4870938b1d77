import Derived.Test.YtmmgkfeedhnlbaaCrD
import Derived.Test.YtmmgkfeedhnlbaaPtA
namespace Go.Proofs.Ytmmgkfeedhnlbaa
open Go.RowKit
theorem crcM_nil : (crcM (BitVec.ofNat 32 0) []).toNat = 0 := by decide
set_option maxHeartbeats 800000 in
theorem noughts_any (x : BitVec 32) (w : World) : Calls Try.prog 20 #[.int .u32 (x.toNat : Int)] w fun e w' => e = .returned (.int .u32 ((hvn 8 x).toNat : Int)) ∧ w' = w := by
  go_enter Try.func20, Try.ntmps20
  go_wp2
  go_loop [0, 3, 4] (fun y j _ => ∃ q : Nat, q ≤ 8 ∧ j = .int .i64 q ∧ y = .int .u32 ((hvn q x).toNat : Int)) (fun _ j _ => 8 - (intOf j).toNat)
  case atStart => exact ⟨0, Nat.zero_le _, rfl, rfl⟩
  case round =>
    obtain ⟨q, hq, rfl, rfl⟩ := hrel
    by_cases hlt2 : q < 8
    · have HQ : Hid (hvn (q + 1) x = hv (hvn q x)) := hvn_succ _ _
      generalize hvn q x = Y at *
      have hy : (Y.toNat : Int) ≤ 4294967295 := by have := Y.isLt; omega
      by_cases hodd : (Y.toNat : Int) % 2 = 1
      · have HO : Hid _ := hv_odd Y hodd
        go_wp2
        go_round
        case rel => exact ⟨q + 1, by omega, by go_num, by rw [HQ.out, HO.out]⟩
        case measure => simp [intOf]; omega
      · have HO : Hid _ := hv_even Y hodd
        go_wp2
        go_round
        case rel => exact ⟨q + 1, by omega, by go_num, by rw [HQ.out, HO.out]⟩
        case measure => simp [intOf]; omega
    · obtain rfl : q = 8 := by omega
      go_wp2
      go_ret
      exact ⟨rfl, rfl⟩
set_option maxHeartbeats 800000 in
theorem rjoin_nat (a b : BitVec 32) (m : Int) (n : Nat) (w : World) (hmn : max m 0 = (n : Int)) (hn : (n : Int) ≤ 9223372036854775807) : Calls Try.prog 16 #[.int .u32 (a.toNat : Int), .int .u32 (b.toNat : Int), .int .i64 m] w fun e w' => e = .returned (.int .u32 ((joinW a b n).toNat : Int)) ∧ w' = w := by
  have HM : Hid (max m 0 = (n : Int)) := hmn
  clear hmn
  go_enter Try.func16, Try.ntmps16
  go_wp2
  go_loop [0, 7] (fun y i => ∃ k : Nat, k ≤ n ∧ i = .int .i64 k ∧ y = .int .u32 ((hvn (8 * k) a).toNat : Int)) (fun _ i => n - (intOf i).toNat)
  case atStart => exact ⟨0, Nat.zero_le _, rfl, rfl⟩
  case round =>
    obtain ⟨k, hk, rfl, rfl⟩ := hrel
    by_cases hlt : k < n
    · have hlt' : (k : Int) < m := by have := HM.out; omega
      have HQ : Hid (hvn (8 * (k + 1)) a = hvn 8 (hvn (8 * k) a)) := by show _ = _; rw [← hvn_add]; rfl
      generalize hvn (8 * k) a = Y at *
      go_wp2_with fail
      refine (noughts_any _ _).mono ?_
      rintro e w' ⟨rfl, rfl⟩
      go_wp2_with fail
      go_round
      case rel => exact ⟨k + 1, by omega, by go_num, by rw [HQ.out]⟩
      case measure => simp [intOf]; omega
    · obtain rfl : k = n := by omega
      have hge : m ≤ (k : Int) := by have := HM.out; omega
      have HX : Hid _ := bits_xor (hvn (8 * k) a) b
      go_wp2
      go_ret
      exact ⟨ret_int (by rw [HX.out]; rfl), rfl⟩
set_option maxHeartbeats 400000 in
theorem rof_any (a : Option Addr) (len cap : Nat) (zs : List Int) (w : World) (hn : zs.length = len) (hl : len ≤ 140737488355328) (hb : Bytes zs) (hr : Row w a zs) :
    Calls Try.prog 13 #[.slice a len cap] w fun e w' => e = .returned (.int .u32 ((crcM (BitVec.ofNat 32 0) zs).toNat : Int)) ∧ w' = w := by
  have HM := rmore_any (BitVec.ofNat 32 0) a len cap zs w hn hl hb hr
  clear hn hl hb hr
  generalize crcM (BitVec.ofNat 32 0) zs = r at *
  go_enter Try.func13, Try.ntmps13
  go_wp2_with fail
  refine HM.mono ?_
  rintro e w' ⟨rfl, rfl⟩
  go_wp2
  go_ret
  exact ⟨rfl, rfl⟩
set_option maxHeartbeats 800000 in
theorem of_any (a : Option Addr) (len cap : Nat) (F : Nat → Pt) (w : World) (h : PtArg w a len cap F) :
    Calls Try.prog 12 #[.slice a len cap] w fun e w' => e = .returned (.int .u32 ((crcM (BitVec.ofNat 32 0) (catF F len)).toNat : Int)) ∧ w' = w := by
  obtain ⟨hl, hm, hF⟩ := h
  unfold maxLen at hm
  have HF : Hid (0 < len → ∃ b off, a = some ⟨b, off, none⟩ ∧ ∀ i, i < len → w.cell? ⟨b, off + i, none⟩ = some (.slice (F i).a (F i).z.length (F i).c) ∧ PtOk w (F i)) := hF
  clear hF
  go_enter Try.func12, Try.ntmps12
  go_wp2
  go_loop [3, 5, 8] (fun s _ t => ∃ k : Nat, k ≤ len ∧ t = .int .i64 k ∧ s = .int .u32 ((crcM (BitVec.ofNat 32 0) (catF F k)).toNat : Int)) (fun _ _ t => len - (intOf t).toNat)
  case atStart => exact ⟨0, Nat.zero_le _, rfl, by rw [show (crcM (BitVec.ofNat 32 0) (catF F 0)).toNat = 0 from crcM_nil]; rfl⟩
  case round =>
    obtain ⟨k, hk, rfl, rfl⟩ := hrel
    by_cases hlt : k < len
    · obtain ⟨b, off, rfl, hc⟩ := HF.out (by omega)
      obtain ⟨hck, hq1, hq2, hq3, hq4, hq5⟩ := hc k hlt
      have HA : Hid (crcM (BitVec.ofNat 32 0) (catF F (k + 1)) = crcM (crcM (BitVec.ofNat 32 0) (catF F k)) (F k).z) := crcM_append _ _ _
      have HM := more_any (crcM (BitVec.ofNat 32 0) (catF F k)) (F k).a (F k).z.length (F k).c (F k).z w rfl (by omega) hq1 hq5
      rw [← HA.out] at HM
      clear hc hq1 hq5
      generalize crcM (BitVec.ofNat 32 0) (catF F k) = X at *
      obtain ⟨Y, hY⟩ : ∃ Y, crcM (BitVec.ofNat 32 0) (catF F (k + 1)) = Y := ⟨_, rfl⟩
      rw [hY] at HM
      have HY : Hid (crcM (BitVec.ofNat 32 0) (catF F (k + 1)) = Y) := hY
      clear hY HA
      generalize F k = f at *
      obtain ⟨fa, fc, fz⟩ := f
      simp only at hck hq2 hq3 hq4 HM
      go_wp2_with fail
      refine HM.mono ?_
      rintro e w' ⟨rfl, rfl⟩
      go_wp2_with fail
      go_round
      case rel => exact ⟨k + 1, by omega, by go_num, by rw [HY.out]⟩
      case measure => simp [intOf]; omega
    · obtain rfl : k = len := by omega
      go_wp2
      go_ret
      exact ⟨rfl, rfl⟩
end Go.Proofs.Ytmmgkfeedhnlbaa
