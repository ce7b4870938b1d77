/- octets' Big over bytes in memory (the walks of Wk, Cut and Two, over Bas's Row). -/
import Derived.Test.YtaibojmaghmfnaaBas
namespace Go.Proofs.Ytaibojmaghmfnaa
open Go.RowKit
set_option maxHeartbeats 400000 in
theorem big_any (a : Option Addr) (n cap : Nat) (zs : List Int) (w : World) (hn : zs.length = n) (h4 : n ≤ 4) (hb : Bytes zs) (hr : Row w a zs) :
    Calls Try.prog 80 #[.slice a n cap] w fun e w' => e = .returned (.int .i64 (bigN zs)) ∧ w' = w := by
  have HN : Hid (zs.length = n) := hn
  have HB : Hid (Bytes zs) := hb
  rcases hr with rfl | ⟨b, off, rfl, hc⟩
  · simp at hn
    subst hn
    clear h4 hb
    go_enter Try.func80, Try.ntmps80
    go_wp2
    go_loop [3, 8] (fun v i => v = .int .u64 0 ∧ i = .int .i64 0) (fun _ _ => 0)
    case atStart => exact ⟨rfl, rfl⟩
    case round =>
      obtain ⟨rfl, rfl⟩ := hrel
      go_wp2
      go_ret
      exact ⟨ret_int rfl, rfl⟩
  · clear hn hb
    go_enter Try.func80, Try.ntmps80
    go_wp2
    go_loop [3, 5, 8] (fun v _ i => ∃ k : Nat, k ≤ n ∧ i = .int .i64 k ∧ v = .int .u64 (bigN (zs.take k))) (fun _ _ i => n - (intOf i).toNat)
    case atStart => exact ⟨0, Nat.zero_le _, rfl, rfl⟩
    case round =>
      obtain ⟨k, hk, rfl, rfl⟩ := hrel
      have hbd := bigN_le (HB.out.take k) (by simp; omega)
      by_cases hlt : k < n
      · have hck := hc k (by have := HN.out; omega)
        have hzk := HB.out.at k
        have h3 := big_lt (HB.out.take k) (by simp; omega)
        have HS : Hid (bigN (zs.take (k + 1)) = bigN (zs.take k) * 256 + (zs[k]?.getD 0)) := by rw [take_snoc zs k (by have := HN.out; omega), bigN_snoc]; trivial
        have HO : Hid _ := or_step (bigN (zs.take k)) ((zs[k]?.getD 0)) hbd.1 (by omega) hzk.1 hzk.2
        go_wp2
        go_round
        case rel => exact ⟨k + 1, by omega, by go_num, by rw [HS.out, ← HO.out]⟩
        case measure => simp [intOf]; omega
      · go_wp2
        go_ret
        exact ⟨ret_int (by rw [List.take_of_length_le (by have := HN.out; omega)]), rfl⟩

def cutE (len : Nat) (p n : Int) : Int := if n < 1 ∨ 4 < n ∨ p < 0 then 1 else if (len : Int) - n < p then 2 else 0
def cutL (zs : List Int) (p n : Int) : List Int := if cutE zs.length p n = 0 then (zs.drop p.toNat).take n.toNat else []
theorem cutL_bytes {zs : List Int} (h : Bytes zs) (p n : Int) : Bytes (cutL zs p n) := by
  unfold cutL; split
  · exact (h.drop _).take _
  · exact Bytes.nil
theorem cutL_len (zs : List Int) (p n : Int) : (cutL zs p n).length ≤ 4 := by
  unfold cutL
  by_cases h : cutE zs.length p n = 0
  · rw [if_pos h]
    have : n ≤ 4 := by
      by_cases h1 : n < 1 ∨ 4 < n ∨ p < 0
      · unfold cutE at h; rw [if_pos h1] at h; omega
      · omega
    simp; omega
  · rw [if_neg h]; simp
/-- What 'cut' comes to. -/
def CutPost (w : World) (zs : List Int) (err : Int) (e : Ending) (w' : World) : Prop :=
  ∃ a' cap', e = .returned (.tuple #[.slice a' zs.length cap', .int .i64 err]) ∧ Row w a' zs ∧ w' = w

set_option maxHeartbeats 400000 in
theorem cut_any (a : Option Addr) (len cap : Nat) (p n : Int) (zs : List Int) (w : World) (hn : zs.length = len) (hl : len ≤ cap) (hm : cap ≤ maxLen) (wn : (Lit.int .i64 n).wf = true) (hr : Row w a zs) :
    Calls Try.prog 46 #[.slice a len cap, .int .i64 p, .int .i64 n] w fun e w' => CutPost w (cutL zs p n) (cutE zs.length p n) e w' := by
  have HN : Hid (zs.length = len) := hn
  have HR : Hid (Row w a zs) := hr
  clear hn hr
  unfold maxLen at hm
  by_cases h1 : n < 1 ∨ 4 < n ∨ p < 0
  · have e1 : cutE zs.length p n = 1 := by unfold cutE; rw [if_pos h1]
    have e2 : cutL zs p n = [] := by unfold cutL; rw [e1]; rfl
    rw [e1, e2]
    clear e1 e2
    by_cases h2 : n < 1
    · go_enter Try.func46, Try.ntmps46
      go_wp2
      go_ret2
      exact (show CutPost _ _ _ _ _ by unfold CutPost; exact ⟨none, 0, rfl, .inl rfl, rfl⟩)
    · by_cases h3 : 4 < n
      · go_enter Try.func46, Try.ntmps46
        go_wp2
        go_ret2
        exact (show CutPost _ _ _ _ _ by unfold CutPost; exact ⟨none, 0, rfl, .inl rfl, rfl⟩)
      · have h4 : p < 0 := by omega
        clear h1
        go_enter Try.func46, Try.ntmps46
        go_wp2
        go_ret2
        exact (show CutPost _ _ _ _ _ by unfold CutPost; exact ⟨none, 0, rfl, .inl rfl, rfl⟩)
  · have b1 : 1 ≤ n := by omega
    have b2 : n ≤ 4 := by omega
    have b3 : 0 ≤ p := by omega
    by_cases h2 : (len : Int) - n < p
    · have e1 : cutE zs.length p n = 2 := by unfold cutE; rw [if_neg h1, if_pos (by rw [HN.out]; exact h2)]
      have e2 : cutL zs p n = [] := by unfold cutL; rw [e1]; rfl
      rw [e1, e2]
      clear e1 e2 h1
      go_enter Try.func46, Try.ntmps46
      go_wp2
      go_ret2
      exact (show CutPost _ _ _ _ _ by unfold CutPost; exact ⟨none, 0, rfl, .inl rfl, rfl⟩)
    · have e1 : cutE zs.length p n = 0 := by unfold cutE; rw [if_neg h1, if_neg (by rw [HN.out]; exact h2)]
      have e2 : cutL zs p n = (zs.drop p.toNat).take n.toNat := by unfold cutL; rw [if_pos e1]
      rw [e1, e2]
      clear e1 e2 h1
      obtain ⟨P, rfl⟩ := Int.eq_ofNat_of_zero_le b3
      obtain ⟨n, rfl⟩ := Int.eq_ofNat_of_zero_le (show 0 ≤ n by omega)
      have b4 : P + n ≤ len := by omega
      have b5 : P + n ≤ cap := by omega
      rcases HR.out with h | ⟨b, off, rfl, hc⟩
      · have := HN.out; rw [h] at this; simp at this; omega
      · have HC : Hid _ := hc
        clear hc HR
        go_enter Try.func46, Try.ntmps46
        go_wp2
        go_ret2
        unfold CutPost
        have hL := HN.out
        refine ⟨some ⟨b, off + P, none⟩, cap - P, by simp; omega, .inr ⟨b, off + P, rfl, fun i hi => ?_⟩, rfl⟩
        simp at hi
        have hq := HC.out (P + i) (by omega)
        rw [Nat.add_assoc, hq]
        have hi' : i < n := by omega
        simp [List.getElem?_drop, hi']
end Go.Proofs.Ytaibojmaghmfnaa
