/- The reference's CheckCounts. -/
import Derived.Test.YtjellgkojmgmjaaHhB
import Derived.Test.YtjellgkojmgmjaaHiC
namespace Go.Proofs.Ytjellgkojmgmjaa
open Go.RowKit

def checkC (cs : List Int) (most : Int) : Int := if okCounts cs && decide (1 ≤ most ∧ most ≤ 15) then (if 2 ^ most.toNat < wordsN cs then 5 else 0) else 1
theorem checkC_arg {cs : List Int} {most : Int} (h : okCounts cs = false ∨ most < 1 ∨ 15 < most) : checkC cs most = 1 := by
  unfold checkC
  rw [if_neg]
  rcases h with h | h | h
  · simp [h]
  · simp; omega
  · simp; omega
set_option maxHeartbeats 1600000 in
theorem checkCounts_any (a : Option Addr) (len cap : Nat) (cs : List Int) (most : Int) (w : World) (hn : cs.length = len) (hl : len ≤ 140737488355328) (hr : IRow w a cs) :
    Calls Try.prog 24 #[.slice a len cap, .int .i64 most] w fun e w' => e = .returned (.int .i64 (checkC cs most)) ∧ w' = w := by
  have HN : Hid (cs.length = len) := hn
  have HR : Hid (IRow w a cs) := hr
  clear hn hr
  by_cases hlong : 288 < len
  · have hz : (288 : Int) < (len : Int) := by omega
    have HO : Hid (checkC cs most = 1) := checkC_arg (.inl (okCounts_long (by rw [HN.out]; exact hlong)))
    go_enter Try.func24, Try.ntmps24
    go_wp2
    go_ret
    exact ⟨ret_int HO.out.symm, rfl⟩
  · have hz : ¬ (288 : Int) < (len : Int) := by omega
    by_cases hm1 : most < 1
    · have HO : Hid (checkC cs most = 1) := checkC_arg (.inr (.inl hm1))
      go_enter Try.func24, Try.ntmps24
      go_wp2
      go_ret
      exact ⟨ret_int HO.out.symm, rfl⟩
    · by_cases hm2 : 15 < most
      · have HO : Hid (checkC cs most = 1) := checkC_arg (.inr (.inr hm2))
        go_enter Try.func24, Try.ntmps24
        go_wp2
        go_ret
        exact ⟨ret_int HO.out.symm, rfl⟩
      · obtain ⟨m, rfl⟩ := Int.eq_ofNat_of_zero_le (show 0 ≤ most by omega)
        have hmb : 1 ≤ m ∧ m ≤ 15 := by omega
        have d1 : decide ((288 : Int) < (len : Int)) = false := by simp; omega
        have d2 : decide ((m : Int) < 1) = false := by simp; omega
        have d3 : decide ((15 : Int) < (m : Int)) = false := by simp; omega
        have hwm : IntKind.u64.wrap (m : Int) = (m : Int) := by rw [IntKind.wrap_u64]; omega
        have hpw : wrap64 ((2 : Int) ^ m) = ((2 ^ m : Nat) : Int) := by
          have h1 : 2 ^ m ≤ 2 ^ 15 := Nat.pow_le_pow_right (by omega) hmb.2
          have e : (2 : Int) ^ m = ((2 ^ m : Nat) : Int) := by rw [Int.natCast_pow]; rfl
          rw [e]
          generalize 2 ^ m = P at h1 ⊢
          unfold wrap64; omega
        go_enter Try.func24, Try.ntmps24
        go_wp2
        go_loop [5, 21] (fun ws i => ∃ k : Nat, k ≤ len ∧ i = .int .i64 k ∧ ws = .int .i64 (wordsN (cs.take k)) ∧ Hid (∀ j, j < k → 0 ≤ cs[j]?.getD 0 ∧ cs[j]?.getD 0 ≤ 2147483648)) (fun _ i => len - (intOf i).toNat)
        case atStart => exact ⟨0, Nat.zero_le _, rfl, rfl, fun j hj => by omega⟩
        case round =>
          obtain ⟨k, hk, rfl, rfl, HA⟩ := hrel
          have hw2 : wordsN (cs.take k) ≤ 288 := by
            have h1 := wordsN_le (cs.take k)
            rw [List.length_take] at h1
            omega
          by_cases hlt : k < len
          · obtain ⟨b, off, rfl, hck⟩ := HR.out.at k (by have := HN.out; omega)
            have HW : Hid (wordsN (cs.take (k + 1)) = wordsN (cs.take k) + if 0 < cs[k]?.getD 0 then 1 else 0) := by show _ = _; rw [take_snocI cs k (by have := HN.out; omega), wordsN_snoc]
            generalize wordsN (cs.take k) = W at *
            by_cases h0 : cs[k]?.getD 0 < 0
            · have HO : Hid (checkC cs m = 1) := checkC_arg (.inl (okCounts_no k (by rw [HN.out]; exact hlt) (.inl h0)))
              generalize cs[k]?.getD 0 = z at *
              go_wp2
              go_ret
              exact ⟨ret_int HO.out.symm, rfl⟩
            · by_cases h1 : 2147483648 < cs[k]?.getD 0
              · have HO : Hid (checkC cs m = 1) := checkC_arg (.inl (okCounts_no k (by rw [HN.out]; exact hlt) (.inr h1)))
                generalize cs[k]?.getD 0 = z at *
                go_wp2
                go_ret
                exact ⟨ret_int HO.out.symm, rfl⟩
              · have HB : Hid (∀ j, j < k + 1 → 0 ≤ cs[j]?.getD 0 ∧ cs[j]?.getD 0 ≤ 2147483648) := fun j hj => by
                  by_cases hjk : j < k
                  · exact HA.out j hjk
                  · obtain rfl : j = k := by omega
                    omega
                clear HA
                generalize cs[k]?.getD 0 = z at h0 h1 hck HW
                by_cases hp : 0 < z
                · have HX : Hid (wordsN (cs.take (k + 1)) = W + 1) := by show _ = _; rw [HW.out, if_pos hp]
                  clear HW
                  go_wp2
                  go_round
                  case rel => exact ⟨k + 1, by omega, by go_num, by rw [HX.out]; go_num, HB.out⟩
                  case measure => simp [intOf]; omega
                · have HX : Hid (wordsN (cs.take (k + 1)) = W) := by show _ = _; rw [HW.out, if_neg hp]; rfl
                  clear HW
                  go_wp2
                  go_round
                  case rel => exact ⟨k + 1, by omega, by go_num, by rw [HX.out], HB.out⟩
                  case measure => simp [intOf]; omega
          · have e : cs.take k = cs := List.take_of_length_le (by have := HN.out; omega)
            have hok : okCounts cs = true := okCounts_yes (by rw [HN.out]; omega) (fun j hj => HA.out j (by rw [HN.out] at hj; omega))
            have HO : Hid (checkC cs m = if 2 ^ m < wordsN cs then 5 else 0) := by
              show _ = _
              unfold checkC
              rw [hok, if_pos (by simp; omega), Int.toNat_natCast]
            rw [e] at *
            clear e hok HA
            obtain ⟨P, hP⟩ : ∃ P, 2 ^ m = P := ⟨_, rfl⟩
            rw [hP] at HO hpw
            have hPb : P ≤ 32768 := by rw [← hP]; exact Nat.pow_le_pow_right (by omega) hmb.2
            clear hP
            generalize wordsN cs = W at *
            by_cases hc : P < W
            · have hcz : (P : Int) < (W : Int) := by omega
              go_wp2
              go_ret
              exact ⟨ret_int (by rw [HO.out, if_pos hc]), rfl⟩
            · have hcz : ¬ (P : Int) < (W : Int) := by omega
              go_wp2
              go_ret
              exact ⟨ret_int (by rw [HO.out, if_neg hc]), rfl⟩
end Go.Proofs.Ytjellgkojmgmjaa
