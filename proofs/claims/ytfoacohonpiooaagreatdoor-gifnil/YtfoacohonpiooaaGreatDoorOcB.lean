/- octets' Big over bytes in memory (the walks of Wk, Cut and Two, over Bas's Row). -/
import Derived.Test.YtfoacohonpiooaaGreatDoorBas
namespace Go.Proofs.YtfoacohonpiooaaGreatDoor
open Go.RowKit
set_option maxHeartbeats 400000 in
theorem big_any (a : Option Addr) (n cap : Nat) (zs : List Int) (w : World) (hn : zs.length = n) (h4 : n ≤ 4) (hb : Bytes zs) (hr : Row w a zs) :
    Calls Tryz.prog 76 #[.slice a n cap] w fun e w' => e = .returned (.int .i64 (bigN zs)) ∧ w' = w := by
  have HN : Hid (zs.length = n) := hn
  have HB : Hid (Bytes zs) := hb
  rcases hr with rfl | ⟨b, off, rfl, hc⟩
  · simp at hn
    subst hn
    clear h4 hb
    go_enter Tryz.func76, Tryz.ntmps76
    go_wp2
    go_loop [3, 8] (fun v i => v = .int .u64 0 ∧ i = .int .i64 0) (fun _ _ => 0)
    case atStart => exact ⟨rfl, rfl⟩
    case round =>
      obtain ⟨rfl, rfl⟩ := hrel
      go_wp2
      go_ret
      exact ⟨ret_int rfl, rfl⟩
  · clear hn hb
    go_enter Tryz.func76, Tryz.ntmps76
    go_wp2
    go_loop [3, 5, 8] (fun v _ i => ∃ k : Nat, k ≤ n ∧ i = .int .i64 k ∧ v = .int .u64 (bigN (zs.take k))) (fun _ _ i => n - (intOf i).toNat)
    case atStart => exact ⟨0, Nat.zero_le _, rfl, rfl⟩
    case round =>
      obtain ⟨k, hk, rfl, rfl⟩ := hrel
      have hbd := bigN_le (HB.out.take k) (by simp; omega)
      by_cases hlt : k < n
      · have hck := hc k (by have := HN.out; omega)
        have hzk := HB.out.at k
        have h3 := big_lt (HB.out.take k) (by simp; omega)
        have HS : Hid (bigN (zs.take (k + 1)) = bigN (zs.take k) * 256 + (zs[k]?.getD 0)) := by rw [take_snoc zs k (by have := HN.out; omega), bigN_snoc]; trivial
        have HO : Hid _ := or_step (bigN (zs.take k)) ((zs[k]?.getD 0)) hbd.1 (by omega) hzk.1 hzk.2
        go_wp2
        go_round
        case rel => exact ⟨k + 1, by omega, by go_num, by rw [HS.out, ← HO.out]⟩
        case measure => simp [intOf]; omega
      · go_wp2
        go_ret
        exact ⟨ret_int (by rw [List.take_of_length_le (by have := HN.out; omega)]), rfl⟩

def cutE (len : Nat) (p n : Int) : Int := if n < 1 ∨ 4 < n ∨ p < 0 then 1 else if (len : Int) - n < p then 2 else 0
def cutL (zs : List Int) (p n : Int) : List Int := if cutE zs.length p n = 0 then (zs.drop p.toNat).take n.toNat else []
theorem cutL_bytes {zs : List Int} (h : Bytes zs) (p n : Int) : Bytes (cutL zs p n) := by
  unfold cutL; split
  · exact (h.drop _).take _
  · exact Bytes.nil
theorem cutL_len (zs : List Int) (p n : Int) : (cutL zs p n).length ≤ 4 := by
  unfold cutL
  by_cases h : cutE zs.length p n = 0
  · rw [if_pos h]
    have : n ≤ 4 := by
      by_cases h1 : n < 1 ∨ 4 < n ∨ p < 0
      · unfold cutE at h; rw [if_pos h1] at h; omega
      · omega
    simp; omega
  · rw [if_neg h]; simp
/-- What 'cut' comes to. -/
def CutPost (w : World) (zs : List Int) (err : Int) (e : Ending) (w' : World) : Prop :=
  ∃ a' cap', e = .returned (.tuple #[.slice a' zs.length cap', .int .i64 err]) ∧ Row w a' zs ∧ w' = w

end Go.Proofs.YtfoacohonpiooaaGreatDoor
