/- What the program's and the reference's functions of layer 3 answer. -/
import Derived.Test.YtaibojmaghmfnaaSmB
import Derived.Test.YtaibojmaghmfnaaCrM
namespace Go.Proofs.Ytaibojmaghmfnaa
open Go.RowKit

theorem Row.at {w : World} {a : Option Addr} {zs : List Int} (h : Row w a zs) (k : Nat) (hk : k < zs.length) : ∃ b off, a = some ⟨b, off, none⟩ ∧ w.cell? ⟨b, off + k, none⟩ = some (.int .u8 (zs[k]?.getD 0)) := by
  rcases h with h | ⟨b, off, e, hc⟩
  · subst h; simp at hk
  · exact ⟨b, off, e, hc k hk⟩
theorem ofInt_toNat (x : BitVec 32) : BitVec.ofInt 32 (x.toNat : Int) = x := by
  rw [BitVec.ofInt_natCast]; simp
theorem bits_xor (x y : BitVec 32) : bits .xor .u32 (x.toNat : Int) (y.toNat : Int) = ((x ^^^ y).toNat : Int) := by
  show IntKind.u32.wrap ((BitVec.ofInt 32 (x.toNat : Int) ^^^ BitVec.ofInt 32 (y.toNat : Int)).toNat : Nat) = _
  rw [ofInt_toNat, ofInt_toNat, IntKind.wrap_u32]
  have := (x ^^^ y).isLt
  omega
theorem bits_and1 (x : BitVec 32) : bits .and .u32 (x.toNat : Int) 1 = ((x.toNat % 2 : Nat) : Int) := by
  have e : (BitVec.ofInt 32 1) = (BitVec.ofNat 32 1) := by decide
  show IntKind.u32.wrap ((BitVec.ofInt 32 (x.toNat : Int) &&& BitVec.ofInt 32 1).toNat : Nat) = _
  rw [ofInt_toNat, e, BitVec.toNat_and, IntKind.wrap_u32]
  have h1 : ((BitVec.ofNat 32 1)).toNat = 2 ^ 1 - 1 := by decide
  rw [h1, Nat.and_two_pow_sub_one_eq_mod]
  omega
theorem wd_toNat (z : Int) (h0 : 0 ≤ z) (h1 : z < 4294967296) : ((wd z).toNat : Int) = z := by
  unfold wd
  rw [BitVec.toNat_ofInt, Int.emod_eq_of_lt h0 (by omega)]
  omega
theorem lsb_mod (x : BitVec 32) : x.getLsbD 0 = decide (x.toNat % 2 = 1) := by
  rw [BitVec.getLsbD]
  simp
theorem shr_toNat (x : BitVec 32) : (x >>> 1).toNat = x.toNat / 2 := by
  rw [BitVec.toNat_ushiftRight, Nat.shiftRight_eq_div_pow]
/-- 'x>>1 ^ (x&1)*folded'. -/
theorem hv_prog (x : BitVec 32) : bits .xor .u32 ((x.toNat : Int) / 2) (bits .and .u32 (x.toNat : Int) 1 * 3988292384 % 4294967296) = ((hv x).toNat : Int) := by
  rw [bits_and1]
  have e1 : (x.toNat : Int) / (2 : Int) = ((x >>> 1).toNat : Int) := by rw [shr_toNat]; omega
  rw [e1]
  unfold hv
  rw [lsb_mod]
  by_cases h : x.toNat % 2 = 1
  · rw [h, decide_eq_true rfl, if_pos rfl, ← bits_xor]
    have e2 : (poly.toNat : Int) = 3988292384 := by decide
    rw [e2]
    rfl
  · have h0 : x.toNat % 2 = 0 := by omega
    rw [h0, decide_eq_false (by decide), if_neg (by decide), ← bits_xor]
    rfl
/-- The same in the reference: 'x / 2', and the folded bits over it where 'x % 2' is 1. -/
theorem hv_odd (x : BitVec 32) (h : (x.toNat : Int) % 2 = 1) : bits .xor .u32 ((x.toNat : Int) / 2) 3988292384 = ((hv x).toNat : Int) := by
  have e1 : (x.toNat : Int) / (2 : Int) = ((x >>> 1).toNat : Int) := by rw [shr_toNat]; omega
  have e2 : (poly.toNat : Int) = 3988292384 := by decide
  rw [e1, ← e2, bits_xor]
  unfold hv
  rw [lsb_mod, decide_eq_true (by omega), if_pos rfl]
theorem hv_even (x : BitVec 32) (h : ¬ (x.toNat : Int) % 2 = 1) : (x.toNat : Int) / 2 = ((hv x).toNat : Int) := by
  unfold hv
  rw [lsb_mod, decide_eq_false (by omega), if_neg (by decide), BitVec.xor_zero, shr_toNat]
  omega
theorem not_toNat (x : BitVec 32) : ((~~~ x).toNat : Int) = 4294967295 - (x.toNat : Int) := by
  rw [BitVec.toNat_not]
  have := x.isLt
  omega
theorem not_prog (x : BitVec 32) : bits .xor .u32 IntKind.u32.max (x.toNat : Int) = ((~~~ x).toNat : Int) := by
  have e : (IntKind.u32.max : Int) = ((BitVec.allOnes 32).toNat : Int) := by decide
  rw [e, bits_xor, BitVec.xor_comm, BitVec.xor_allOnes]
set_option maxHeartbeats 400000 in
theorem halved_any (x : BitVec 32) (w : World) : Calls Try.prog 79 #[.int .u32 (x.toNat : Int)] w fun e w' => e = .returned (.int .u32 ((hv x).toNat : Int)) ∧ w' = w := by
  have hx := x.isLt
  have hx' : (x.toNat : Int) ≤ 4294967295 := by omega
  go_enter Try.func79, Try.ntmps79
  go_wp2
  go_ret
  exact ⟨ret_int (hv_prog x), rfl⟩
set_option maxHeartbeats 800000 in
theorem more_any (n : BitVec 32) (a : Option Addr) (len cap : Nat) (zs : List Int) (w : World) (hn : zs.length = len) (hl : len ≤ 140737488355328) (hb : Bytes zs) (hr : Row w a zs) :
    Calls Try.prog 44 #[.int .u32 (n.toNat : Int), .slice a len cap] w fun e w' => e = .returned (.int .u32 ((crcM n zs).toNat : Int)) ∧ w' = w := by
  have HN : Hid (zs.length = len) := hn
  have HB : Hid (Bytes zs) := hb
  have HR : Hid (Row w a zs) := hr
  clear hn hb hr
  have hx := n.isLt
  have hx' : (n.toNat : Int) ≤ 4294967295 := by omega
  have HX0 : Hid _ := not_prog n
  go_enter Try.func44, Try.ntmps44
  go_wp2
  go_loop [5, 7, 12, 20] (fun x _ i _ => ∃ k : Nat, k ≤ len ∧ i = .int .i64 k ∧ x = .int .u32 ((crcS (~~~ n) (zs.take k)).toNat : Int)) (fun _ _ i _ => len - (intOf i).toNat)
  case atStart => exact ⟨0, Nat.zero_le _, rfl, by rw [HX0.out]; rfl⟩
  case round =>
    obtain ⟨k, hk, rfl, rfl⟩ := hrel
    clear HX0
    by_cases hlt : k < len
    · obtain ⟨b, off, rfl, hck⟩ := HR.out.at k (by have := HN.out; omega)
      have hzk := HB.out.at k
      have HS : Hid (crcS (~~~ n) (zs.take (k + 1)) = hvn 8 (crcS (~~~ n) (zs.take k) ^^^ wd (zs[k]?.getD 0))) := by rw [take_snoc zs k (by have := HN.out; omega), crcS_snoc]; trivial
      have HX : Hid (bits .xor .u32 ((crcS (~~~ n) (zs.take k)).toNat : Int) (zs[k]?.getD 0) = ((crcS (~~~ n) (zs.take k) ^^^ wd (zs[k]?.getD 0)).toNat : Int)) := by
        show _ = _
        rw [← bits_xor, wd_toNat _ hzk.1 (by omega)]
      generalize crcS (~~~ n) (zs.take k) = X at *
      generalize zs[k]?.getD 0 = z at *
      go_wp2
      go_loop [5, 20] (fun x j => ∃ q : Nat, q ≤ 8 ∧ j = .int .i64 q ∧ x = .int .u32 ((hvn q (X ^^^ wd z)).toNat : Int)) (fun _ j => 8 - (intOf j).toNat)
      case atStart => exact ⟨0, Nat.zero_le _, rfl, by rw [HX.out]; rfl⟩
      case round =>
        obtain ⟨q, hq, rfl, rfl⟩ := hrel
        clear HX
        by_cases hlt2 : q < 8
        · have HQ : Hid (hvn (q + 1) (X ^^^ wd z) = hv (hvn q (X ^^^ wd z))) := hvn_succ _ _
          go_wp2_with (go_at_call 79; refine (halved_any _ _).mono ?_; rintro e w' ⟨rfl, rfl⟩)
          go_round
          case rel => exact ⟨q + 1, by omega, by go_num, by rw [HQ.out]⟩
          case measure => simp [intOf]; omega
        · obtain rfl : q = 8 := by omega
          go_wp2
          go_round
          case rel => exact ⟨k + 1, by omega, by go_num, by rw [HS.out]⟩
          case measure => simp [intOf]; omega
    · have HX : Hid _ := not_prog (crcS (~~~ n) (zs.take k))
      go_wp2
      go_ret
      refine ⟨ret_int ?_, rfl⟩
      rw [HX.out, List.take_of_length_le (by have := HN.out; omega)]
      rfl
set_option maxHeartbeats 1600000 in
theorem rmore_any (n : BitVec 32) (a : Option Addr) (len cap : Nat) (zs : List Int) (w : World) (hn : zs.length = len) (hl : len ≤ 140737488355328) (hb : Bytes zs) (hr : Row w a zs) :
    Calls Try.prog 52 #[.int .u32 (n.toNat : Int), .slice a len cap] w fun e w' => e = .returned (.int .u32 ((crcM n zs).toNat : Int)) ∧ w' = w := by
  have HN : Hid (zs.length = len) := hn
  have HB : Hid (Bytes zs) := hb
  have HR : Hid (Row w a zs) := hr
  clear hn hb hr
  have hx := n.isLt
  have hx' : (n.toNat : Int) ≤ 4294967295 := by omega
  have HX0 : Hid _ := not_toNat n
  go_enter Try.func52, Try.ntmps52
  go_wp2
  go_loop [5, 6, 7, 8] (fun x i _ _ => ∃ k : Nat, k ≤ len ∧ i = .int .i64 k ∧ x = .int .u32 ((crcS (~~~ n) (zs.take k)).toNat : Int)) (fun _ i _ _ => len - (intOf i).toNat)
  case atStart => exact ⟨0, Nat.zero_le _, rfl, by rw [← HX0.out]; rfl⟩
  case round =>
    obtain ⟨k, hk, rfl, rfl⟩ := hrel
    clear HX0
    by_cases hlt : k < len
    · obtain ⟨b, off, rfl, hck⟩ := HR.out.at k (by have := HN.out; omega)
      have hzk := HB.out.at k
      have HS : Hid (crcS (~~~ n) (zs.take (k + 1)) = hvn 8 (crcS (~~~ n) (zs.take k) ^^^ wd (zs[k]?.getD 0))) := by rw [take_snoc zs k (by have := HN.out; omega), crcS_snoc]; trivial
      have HX : Hid (bits .xor .u32 ((crcS (~~~ n) (zs.take k)).toNat : Int) (zs[k]?.getD 0) = ((crcS (~~~ n) (zs.take k) ^^^ wd (zs[k]?.getD 0)).toNat : Int)) := by
        show _ = _
        rw [← bits_xor, wd_toNat _ hzk.1 (by omega)]
      generalize crcS (~~~ n) (zs.take k) = X at *
      generalize zs[k]?.getD 0 = z at *
      go_wp2
      go_loop [5, 7, 8] (fun x j _ => ∃ q : Nat, q ≤ 8 ∧ j = .int .i64 q ∧ x = .int .u32 ((hvn q (X ^^^ wd z)).toNat : Int)) (fun _ j _ => 8 - (intOf j).toNat)
      case atStart => exact ⟨0, Nat.zero_le _, rfl, by rw [HX.out]; rfl⟩
      case round =>
        obtain ⟨q, hq, rfl, rfl⟩ := hrel
        clear HX
        by_cases hlt2 : q < 8
        · have HQ : Hid (hvn (q + 1) (X ^^^ wd z) = hv (hvn q (X ^^^ wd z))) := hvn_succ _ _
          generalize hvn q (X ^^^ wd z) = Y at *
          have hy : (Y.toNat : Int) ≤ 4294967295 := by have := Y.isLt; omega
          by_cases hodd : (Y.toNat : Int) % 2 = 1
          · have HO : Hid _ := hv_odd Y hodd
            go_wp2
            go_round
            case rel => exact ⟨q + 1, by omega, by go_num, by rw [HQ.out, HO.out]⟩
            case measure => simp [intOf]; omega
          · have HO : Hid _ := hv_even Y hodd
            go_wp2
            go_round
            case rel => exact ⟨q + 1, by omega, by go_num, by rw [HQ.out, HO.out]⟩
            case measure => simp [intOf]; omega
        · obtain rfl : q = 8 := by omega
          go_wp2
          go_round
          case rel => exact ⟨k + 1, by omega, by go_num, by rw [HS.out]⟩
          case measure => simp [intOf]; omega
    · have HX : Hid _ := not_toNat (crcS (~~~ n) (zs.take k))
      have hy : ((crcS (~~~ n) (zs.take k)).toNat : Int) ≤ 4294967295 := by have := (crcS (~~~ n) (zs.take k)).isLt; omega
      go_wp2
      go_ret
      refine ⟨ret_int ?_, rfl⟩
      rw [← HX.out, List.take_of_length_le (by have := HN.out; omega)]
      rfl
end Go.Proofs.Ytaibojmaghmfnaa
