/- Bytes into samples: the program's get and Unpack. -/
import Derived.Test.YtbjoalgglmalnaaDoorPzI
namespace Go.Proofs.YtbjoalgglmalnaaDoor
open Go.RowKit
theorem getN_bd {d i : Nat} {B : List Int} (hd : isDp d) (hB : ∀ j : Nat, 0 ≤ B[j]?.getD 0 ∧ B[j]?.getD 0 < 256) : 0 ≤ getN d i B ∧ getN d i B < 65536 := by
  obtain ⟨_, d2, _, d4⟩ := pow_d hd
  unfold getN
  split
  · have := hB (2 * i); have := hB (2 * i + 1); omega
  · have h1 := Int.emod_nonneg (B[i * d / 8]?.getD 0 / 2 ^ (8 - d - i * d % 8)) (show (2 : Int) ^ d ≠ 0 by have := two_pos d; omega)
    have h2 := Int.emod_lt_of_pos (B[i * d / 8]?.getD 0 / 2 ^ (8 - d - i * d % 8)) (two_pos d)
    omega
theorem or_high (x y : Int) (hx : 0 ≤ x ∧ x < 256) (hy : 0 ≤ y ∧ y < 256) : bits .or .i64 (x * 256) y = x * 256 + y := by
  obtain ⟨X, rfl⟩ := Int.eq_ofNat_of_zero_le hx.1
  obtain ⟨Y, rfl⟩ := Int.eq_ofNat_of_zero_le hy.1
  show IntKind.i64.wrap ((BitVec.ofInt 64 ((X : Int) * 256) ||| BitVec.ofInt 64 (Y : Int)).toNat : Nat) = _
  have e1 : (BitVec.ofInt 64 ((X : Int) * 256)).toNat = X * 2 ^ 8 := by rw [BitVec.toNat_ofInt]; omega
  have e2 : (BitVec.ofInt 64 (Y : Int)).toNat = Y := by rw [BitVec.toNat_ofInt]; omega
  rw [BitVec.toNat_or, e1, e2, Nat.mul_comm, ← Nat.two_pow_add_eq_or_of_lt (by omega : Y < 2 ^ 8), IntKind.wrap_i64]
  omega
set_option maxHeartbeats 1600000 in
theorem get16_any (a : Option Addr) (n c i : Nat) (B : List Int) (w : World) (hB : B.length = n) (hb : Bytes B) (hr : Row w a B) (hm : 2 * i + 1 < n) (hm2 : n ≤ 140737488351232) :
    Calls Tryd.prog 28 #[.slice a n c, .int .i64 i, .int .i64 16] w fun e w' => e = .returned (.int .i64 (getN 16 i B)) ∧ Below w.heap.size w w' := by
  obtain ⟨b, off, rfl, k1⟩ := hr.atZ (2 * i) (by omega)
  obtain ⟨b', off', hab, k2⟩ := hr.atZ (2 * i + 1) (by omega)
  simp only [Option.some.injEq, Addr.mk.injEq, and_true] at hab
  obtain ⟨rfl, rfl⟩ := hab
  have b1 := hb.at (2 * i)
  have b2 := hb.at (2 * i + 1)
  have HG : Hid (getN 16 i B = B[2 * i]?.getD 0 * 256 + B[2 * i + 1]?.getD 0) := by show _ = _; unfold getN; rw [if_pos rfl]
  generalize B[2 * i]?.getD 0 = x at *
  generalize B[2 * i + 1]?.getD 0 = y at *
  obtain ⟨J, hJ⟩ : ∃ J, 2 * i = J := ⟨_, rfl⟩
  have hJi : (2 : Int) * (i : Int) = (J : Int) := by omega
  rw [hJ] at k1 k2 hm
  have hor := or_high x y b1 b2
  have hw1 : IntKind.i64.wrap (2 * (i : Int)) = J := by rw [IntKind.wrap_i64]; omega
  have hw2 : IntKind.i64.wrap ((J : Int) + 1) = (J : Int) + 1 := by rw [IntKind.wrap_i64]; omega
  have hw3 : IntKind.i64.wrap (x * 256) = x * 256 := by rw [IntKind.wrap_i64]; omega
  have hw4 : IntKind.i64.wrap x = x := by rw [IntKind.wrap_i64]; omega
  have hw5 : IntKind.i64.wrap y = y := by rw [IntKind.wrap_i64]; omega
  have k3 : w.drew.cell? ⟨b, off + J, none⟩ = _ := k1
  have k4 : w.drew.cell? ⟨b, off + (J + 1), none⟩ = _ := k2
  clear hr hb hB hJ
  go_enter Tryd.func28, Tryd.ntmps28
  go_wp2
  go_quiet (fail)
  go_wp2
  go_ret
  exact ⟨by rw [HG.out]; rfl, ⟨rfl, rfl, rfl, Nat.le_refl _, fun _ _ => rfl⟩⟩
set_option maxHeartbeats 1600000 in
theorem get8_any (a : Option Addr) (n c i d A o k : Nat) (B : List Int) (w : World) (hB : B.length = n) (hb : Bytes B) (hr : Row w a B) (hid : i * d = 8 * A + o) (ho : o < 8) (hd : d ≤ 8) (hk : k + d + o = 8) (hA : A < n) (hi : i ≤ 1125899906842624) (hd1 : 1 ≤ d) :
    Calls Tryd.prog 28 #[.slice a n c, .int .i64 i, .int .i64 d] w fun e w' => e = .returned (.int .i64 (getN d i B)) ∧ Below w.heap.size w w' := by
  have CP := place_any i d A o w hid ho hd hi
  obtain ⟨b, off, rfl, k1⟩ := hr.atZ A (by omega)
  have b1 := hb.at A
  have HG : Hid (getN d i B = B[A]?.getD 0 / 2 ^ k % 2 ^ d) := by
    show _ = _
    unfold getN; rw [if_neg (by omega), show i * d / 8 = A by omega, show 8 - d - i * d % 8 = k by omega]
  generalize B[A]?.getD 0 = x at *
  have hkk : (8 : Int) - (d : Int) - (o : Int) = (k : Int) := by omega
  rw [hkk] at CP
  have hw : bits .and .i64 (x / 2 ^ k) (wrap64 (wrap64 (2 ^ d) - 1)) = x / 2 ^ k % 2 ^ d := want_eq _ d (by omega)
  have hd16 : ((d : Int) == 16) = false := by simp; omega
  have hk7 : (k : Int) ≤ 8 := by omega
  have hdI : (d : Int) ≤ 8 := by omega
  have hdI1 : 1 ≤ (d : Int) := by omega
  have k3 : w.drew.cell? ⟨b, off + A, none⟩ = _ := k1
  have hx2 : wrap64 (x / 2 ^ k) = x / 2 ^ k := by
    have h1 : 0 ≤ x / 2 ^ k := Int.ediv_nonneg b1.1 (Int.le_of_lt (two_pos k))
    have h2 : x / 2 ^ k ≤ x := Int.ediv_le_self _ b1.1
    unfold wrap64; omega
  clear hr hb hB hid hkk
  go_enter Tryd.func28, Tryd.ntmps28
  go_wp2_with fail
  refine CP.mono ?_
  rintro e w1 ⟨rfl, rfl⟩
  clear CP
  go_wp2
  go_quiet (fail)
  go_wp2
  go_ret
  exact ⟨by rw [HG.out, ← hw]; rfl, ⟨rfl, rfl, rfl, Nat.le_refl _, fun _ _ => rfl⟩⟩
end Go.Proofs.YtbjoalgglmalnaaDoor
