import Derived.Test.YtaibojmaghmfnaaCrD
import Derived.Test.YtaibojmaghmfnaaPtA
namespace Go.Proofs.Ytaibojmaghmfnaa
open Go.RowKit
theorem crcM_nil : (crcM (BitVec.ofNat 32 0) []).toNat = 0 := by decide
set_option maxHeartbeats 400000 in
theorem rof_any (a : Option Addr) (len cap : Nat) (zs : List Int) (w : World) (hn : zs.length = len) (hl : len ≤ 140737488355328) (hb : Bytes zs) (hr : Row w a zs) :
    Calls Try.prog 28 #[.slice a len cap] w fun e w' => e = .returned (.int .u32 ((crcM (BitVec.ofNat 32 0) zs).toNat : Int)) ∧ w' = w := by
  have HM := rmore_any (BitVec.ofNat 32 0) a len cap zs w hn hl hb hr
  clear hn hl hb hr
  generalize crcM (BitVec.ofNat 32 0) zs = r at *
  go_enter Try.func28, Try.ntmps28
  go_wp2_with fail
  refine HM.mono ?_
  rintro e w' ⟨rfl, rfl⟩
  go_wp2
  go_ret
  exact ⟨rfl, rfl⟩
set_option maxHeartbeats 800000 in
theorem of_any (a : Option Addr) (len cap : Nat) (F : Nat → Pt) (w : World) (h : PtArg w a len cap F) :
    Calls Try.prog 22 #[.slice a len cap] w fun e w' => e = .returned (.int .u32 ((crcM (BitVec.ofNat 32 0) (catF F len)).toNat : Int)) ∧ w' = w := by
  obtain ⟨hl, hm, hF⟩ := h
  unfold maxLen at hm
  have HF : Hid (0 < len → ∃ b off, a = some ⟨b, off, none⟩ ∧ ∀ i, i < len → w.cell? ⟨b, off + i, none⟩ = some (.slice (F i).a (F i).z.length (F i).c) ∧ PtOk w (F i)) := hF
  clear hF
  go_enter Try.func22, Try.ntmps22
  go_wp2
  go_loop [3, 5, 8] (fun s _ t => ∃ k : Nat, k ≤ len ∧ t = .int .i64 k ∧ s = .int .u32 ((crcM (BitVec.ofNat 32 0) (catF F k)).toNat : Int)) (fun _ _ t => len - (intOf t).toNat)
  case atStart => exact ⟨0, Nat.zero_le _, rfl, by rw [show (crcM (BitVec.ofNat 32 0) (catF F 0)).toNat = 0 from crcM_nil]; rfl⟩
  case round =>
    obtain ⟨k, hk, rfl, rfl⟩ := hrel
    by_cases hlt : k < len
    · obtain ⟨b, off, rfl, hc⟩ := HF.out (by omega)
      obtain ⟨hck, hq1, hq2, hq3, hq4, hq5⟩ := hc k hlt
      have HA : Hid (crcM (BitVec.ofNat 32 0) (catF F (k + 1)) = crcM (crcM (BitVec.ofNat 32 0) (catF F k)) (F k).z) := crcM_append _ _ _
      have HM := more_any (crcM (BitVec.ofNat 32 0) (catF F k)) (F k).a (F k).z.length (F k).c (F k).z w rfl (by omega) hq1 hq5
      rw [← HA.out] at HM
      clear hc hq1 hq5
      generalize crcM (BitVec.ofNat 32 0) (catF F k) = X at *
      obtain ⟨Y, hY⟩ : ∃ Y, crcM (BitVec.ofNat 32 0) (catF F (k + 1)) = Y := ⟨_, rfl⟩
      rw [hY] at HM
      have HY : Hid (crcM (BitVec.ofNat 32 0) (catF F (k + 1)) = Y) := hY
      clear hY HA
      generalize F k = f at *
      obtain ⟨fa, fc, fz⟩ := f
      simp only at hck hq2 hq3 hq4 HM
      go_wp2_with fail
      refine HM.mono ?_
      rintro e w' ⟨rfl, rfl⟩
      go_wp2_with fail
      go_round
      case rel => exact ⟨k + 1, by omega, by go_num, by rw [HY.out]⟩
      case measure => simp [intOf]; omega
    · obtain rfl : k = len := by omega
      go_wp2
      go_ret
      exact ⟨rfl, rfl⟩
end Go.Proofs.Ytaibojmaghmfnaa
