import Derived.Test.YtmmgkfeedhnlbaaCrC
namespace Go.Proofs.Ytmmgkfeedhnlbaa
open Go.RowKit
theorem shrn_toNat (x : BitVec 32) (j : Nat) : ((x >>> j).toNat : Int) = (x.toNat : Int) / 2 ^ j := by
  rw [BitVec.toNat_ushiftRight, Nat.shiftRight_eq_div_pow]
  simp
theorem bit_one (x : BitVec 32) (j : Nat) (h : x.getLsbD j = true) : bits .and .u32 ((x.toNat : Int) / 2 ^ j) 1 = 1 := by
  rw [← shrn_toNat, bits_and1]
  have := lsb_mod (x >>> j)
  rw [BitVec.getLsbD_ushiftRight, Nat.add_zero, h] at this
  have := of_decide_eq_true this.symm
  rw [this]
  rfl
theorem bit_nil (x : BitVec 32) (j : Nat) (h : x.getLsbD j = false) : bits .and .u32 ((x.toNat : Int) / 2 ^ j) 1 = 0 := by
  rw [← shrn_toNat, bits_and1]
  have := lsb_mod (x >>> j)
  rw [BitVec.getLsbD_ushiftRight, Nat.add_zero, h] at this
  have := of_decide_eq_false this.symm
  have : (x >>> j).toNat % 2 = 0 := by omega
  rw [this]
  rfl
set_option maxHeartbeats 1600000 in
theorem times_any (a b : BitVec 32) (w : World) : Calls Try.prog 19 #[.int .u32 (a.toNat : Int), .int .u32 (b.toNat : Int)] w fun e w' => e = .returned (.int .u32 ((mul a b).toNat : Int)) ∧ w' = w := by
  have ha : (a.toNat : Int) ≤ 4294967295 := by have := a.isLt; omega
  go_enter Try.func19, Try.ntmps19
  go_wp2
  go_loop [1, 5, 6, 7] (fun y o _ t => ∃ k : Nat, k ≤ 32 ∧ t = .int .i64 k ∧ o = .int .u32 ((mulK a b k).toNat : Int) ∧ y = .int .u32 ((hvn k b).toNat : Int)) (fun _ _ _ t => 32 - (intOf t).toNat)
  case atStart => exact ⟨0, Nat.zero_le _, rfl, rfl, rfl⟩
  case round =>
    obtain ⟨k, hk, rfl, rfl, rfl⟩ := hrel
    by_cases hlt : k < 32
    · obtain ⟨j, hj⟩ : ∃ j : Nat, j + k = 31 := ⟨31 - k, by omega⟩
      have hjk : (31 : Int) - (k : Int) = (j : Int) := by omega
      have HQ : Hid (hvn (k + 1) b = hv (hvn k b)) := hvn_succ _ _
      have HX : Hid _ := bits_xor (mulK a b k) (hvn k b)
      cases hbit : a.getLsbD j with
      | true =>
        have hb1 := bit_one a j hbit
        have HM : Hid (mulK a b (k + 1) = mulK a b k ^^^ hvn k b) := by
          show _ = _
          rw [mulK, show 31 - k = j by omega, hbit, if_pos rfl]
        clear hbit
        go_wp2_with (go_at_call 18; refine (halved_any _ _).mono ?_; rintro e w' ⟨rfl, rfl⟩)
        go_round
        case rel => exact ⟨k + 1, by omega, by go_num, by rw [HM.out, HX.out], by rw [HQ.out]⟩
        case measure => simp [intOf]; omega
      | false =>
        have hb1 := bit_nil a j hbit
        have HM : Hid (mulK a b (k + 1) = mulK a b k) := by
          show _ = _
          rw [mulK, show 31 - k = j by omega, hbit, if_neg (by decide), BitVec.xor_zero]
        clear hbit
        go_wp2_with (go_at_call 18; refine (halved_any _ _).mono ?_; rintro e w' ⟨rfl, rfl⟩)
        go_round
        case rel => exact ⟨k + 1, by omega, by go_num, by rw [HM.out], by rw [HQ.out]⟩
        case measure => simp [intOf]; omega
    · obtain rfl : k = 32 := by omega
      go_wp2
      go_ret
      exact ⟨rfl, rfl⟩
theorem i64_and1 (n : Int) : bits .and .i64 n 1 = n % 2 := by
  have h1 : (BitVec.ofInt 64 1).toNat = 2 ^ 1 - 1 := by decide
  have key : (BitVec.ofInt 64 n &&& BitVec.ofInt 64 1).toNat = (n % ((2 ^ 64 : Nat) : Int)).toNat % 2 ^ 1 := by
    rw [BitVec.toNat_and, BitVec.toNat_ofInt, h1, Nat.and_two_pow_sub_one_eq_mod]
  show IntKind.i64.wrap ((BitVec.ofInt 64 n &&& BitVec.ofInt 64 1).toNat : Nat) = n % 2
  rw [key, IntKind.wrap_i64]
  omega
/-- What Join answers: n bytes (at least 0) are the second's. -/
def joinW (a b : BitVec 32) (n : Nat) : BitVec 32 := hvn (8 * n) a ^^^ b
theorem hvn_comm (m n : Nat) (x : BitVec 32) : hvn m (hvn n x) = hvn (m + n) x := by rw [Nat.add_comm, hvn_add]
theorem byte_one : (hvn 8 one).toNat = 8388608 := by decide
set_option maxHeartbeats 400000 in
theorem join_nat (a b : BitVec 32) (m : Int) (n : Nat) (w : World) (hmn : max m 0 = (n : Int)) (hn : (n : Int) ≤ 9223372036854775807) : Calls Try.prog 15 #[.int .u32 (a.toNat : Int), .int .u32 (b.toNat : Int), .int .i64 m] w fun e w' => e = .returned (.int .u32 ((joinW a b n).toNat : Int)) ∧ w' = w := by
  have HM : Hid (max m 0 = (n : Int)) := hmn
  have hmx : (if m < 0 then (0 : Int) else m) = (n : Int) := by split <;> omega
  clear hmn
  go_enter Try.func15, Try.ntmps15
  go_wp2
  go_loop [0, 7, 8] (fun x s l => ∃ p q r : Nat, q + p * r = n ∧ (r : Int) ≤ 9223372036854775807 ∧ l = .int .i64 r ∧ s = .int .u32 ((hvn (8 * p) one).toNat : Int) ∧ x = .int .u32 ((hvn (8 * q) a).toNat : Int)) (fun _ _ l => (intOf l).toNat)
  case atStart => exact ⟨1, 0, n, by omega, hn, rfl, by rw [show 8 * 1 = 8 from rfl, byte_one]; rfl, rfl⟩
  case round =>
    clear hmx HM
    obtain ⟨p, q, r, he, hr, rfl, rfl, rfl⟩ := hrel
    have HE : Hid (q + p * r = n) := he
    clear he
    by_cases hr0 : 0 < r
    · obtain ⟨t, ht⟩ : ∃ t : Nat, r = 2 * t ∨ r = 2 * t + 1 := ⟨r / 2, by omega⟩
      have HT1 := times_any (hvn (8 * q) a) (hvn (8 * p) one)
      have HT2 := times_any (hvn (8 * p) one) (hvn (8 * p) one)
      rw [mul_pow, hvn_comm, show 8 * p + 8 * q = 8 * (q + p) by omega] at HT1
      rw [mul_pow, hvn_comm, show 8 * p + 8 * p = 8 * (p + p) by omega] at HT2
      have hand := i64_and1 (r : Int)
      obtain ⟨S2, hS2⟩ : ∃ S2, hvn (8 * (p + p)) one = S2 := ⟨_, rfl⟩
      obtain ⟨X2, hX2⟩ : ∃ X2, hvn (8 * (q + p)) a = X2 := ⟨_, rfl⟩
      obtain ⟨X, hX⟩ : ∃ X, hvn (8 * q) a = X := ⟨_, rfl⟩
      rw [hS2] at HT2
      rw [hX2] at HT1
      rw [hX] at HT1 ⊢
      generalize hvn (8 * p) one = S at *
      have HS2 : Hid (hvn (8 * (p + p)) one = S2) := hS2
      have HX2 : Hid (hvn (8 * (q + p)) a = X2) := hX2
      have HXX : Hid (hvn (8 * q) a = X) := hX
      clear hS2 hX2 hX
      have h3 : (r : Int) / 2 = (t : Int) := by omega
      rcases ht with ht | ht
      · have HR : Hid (r = 2 * t) := ht
        have h2 : (r : Int) % 2 = 0 := by omega
        rw [h2] at hand
        have hlt2 : t < r := by omega
        clear h2 ht
        go_wp2_with fail
        refine (HT2 _).mono ?_
        rintro e w' ⟨rfl, rfl⟩
        go_wp2_with fail
        go_round
        case rel => exact ⟨p + p, q, t, by rw [← HE.out, HR.out, Nat.add_mul, Nat.two_mul, Nat.mul_add], by omega, by first | rfl | go_num, by rw [HS2.out], by rw [HXX.out]⟩
        case measure => simp [intOf]; omega
      · have HR : Hid (r = 2 * t + 1) := ht
        have h2 : (r : Int) % 2 = 1 := by omega
        rw [h2] at hand
        have hlt2 : t < r := by omega
        clear h2 ht
        go_wp2_with fail
        refine (HT1 _).mono ?_
        rintro e w' ⟨rfl, rfl⟩
        go_wp2_with fail
        refine (HT2 _).mono ?_
        rintro e w' ⟨rfl, rfl⟩
        go_wp2_with fail
        go_round
        case rel => exact ⟨p + p, q + p, t, by rw [← HE.out, HR.out, Nat.add_mul, Nat.two_mul, Nat.mul_add, Nat.mul_add]; omega, by omega, by first | rfl | go_num, by rw [HS2.out], by rw [HX2.out]⟩
        case measure => simp [intOf]; omega
    · obtain rfl : r = 0 := by omega
      have hq : q = n := by have := HE.out; simpa using this
      subst hq
      have HX : Hid _ := bits_xor (hvn (8 * q) a) b
      go_wp2
      go_ret
      exact ⟨ret_int (by rw [HX.out]; rfl), rfl⟩
end Go.Proofs.Ytmmgkfeedhnlbaa
