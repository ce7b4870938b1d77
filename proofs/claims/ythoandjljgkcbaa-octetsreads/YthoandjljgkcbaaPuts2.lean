import Derived.Test.YthoandjljgkcbaaPuts
namespace Go.Proofs.Ythoandjljgkcbaa
open Go.RowKit

theorem i64_and255 (n : Int) : bits .and .i64 n 255 = n % 256 := by
  have h255 : (BitVec.ofInt 64 255).toNat = 2 ^ 8 - 1 := by decide
  have key : (BitVec.ofInt 64 n &&& BitVec.ofInt 64 255).toNat = (n % ((2 ^ 64 : Nat) : Int)).toNat % 2 ^ 8 := by
    rw [BitVec.toNat_and, BitVec.toNat_ofInt, h255, Nat.and_two_pow_sub_one_eq_mod]
  show IntKind.i64.wrap ((BitVec.ofInt 64 n &&& BitVec.ofInt 64 255).toNat : Nat) = n % 256
  rw [key, IntKind.wrap_i64]
  omega
theorem octs_snoc (v : Int) (k : Nat) : octs v (k + 1) = octs v k ++ [oct v k] := by simp [octs, List.range_succ]
theorem put8_lt (n : Int) (k : Nat) : k < put8 n ↔ (k : Int) < n ∧ (k : Int) < 8 := by unfold put8; omega

set_option maxHeartbeats 800000 in
theorem refPutLittle_any (n v : Int) (w : World) : Calls Try.prog 18 #[.int .i64 n, .int .i64 v] w fun e w' => NewBytes w (octs v (put8 n)) e w' := by
  have hm := put8_le n
  have HL : Hid (∀ k : Nat, k < put8 n ↔ (k : Int) < n ∧ (k : Int) < 8) := put8_lt n
  generalize put8 n = m at *
  obtain ⟨B, hB⟩ : ∃ B, B = w.heap.size := ⟨_, rfl⟩
  have HB : Hid (B = w.heap.size) := hB
  clear hB
  obtain ⟨i0, hi, hz0, hz1, hz2⟩ := info_parts Try.info5
  go_enter Try.func18, Try.ntmps18
  go_wp2
  go_loopw [1, 5, 6] (fun x o c wr => ∃ k : Nat, k ≤ m ∧ c = .int .i64 k ∧ x = .int .i64 (v / 256 ^ k) ∧ wr.ownsRow B 5 1 o k (vals (octs v k)) ∧ Below B w wr) (fun _ _ c _ => m - (intOf c).toNat)
  case atStart => exact ⟨0, Nat.zero_le _, rfl, by simp, World.ownsRow_nil _ _ _ _, Below.refl _ _⟩
  case round =>
    obtain ⟨k, hk, rfl, rfl, hown, hbel⟩ := hrel
    have HK := (HL.out k)
    have hk8 : k ≤ 8 := by omega
    by_cases hlt : k < m
    · obtain ⟨h1, h2⟩ := HK.1 hlt
      clear HK
      have HO : Hid (bits .and .i64 (v / 256 ^ k) 255 = oct v k) := i64_and255 _
      have hob := oct_byte v k
      generalize hx : v / 256 ^ k = x at *
      have HX : Hid _ := hx
      clear hx
      have hbits := HO.out
      go_wp2_with (first
          | (at_builtin; refine wpList_append_own _ rfl _ _ 22 rfl B 5 i0 (.int .u8 0) 1 1 Try.underlying22 hi hz0 hz1 hz2 rfl (by decide) _ _ _ rfl (hown.alloc _) ⟨wr.heap.size, 0, none⟩ 1 1 [.int .u8 (oct v k)] rfl rfl ?c1 ?c2 ?c3 ?c4 ?c5 ?_)
          | go_in)
      case c1 => exact (cell_one_new _ _ _)
      case c2 => intro u hu; simp at hu; subst hu; rfl
      case c3 => unfold maxLen; omega
      case c4 => omega
      case c5 => have := hbel.size; have := HB.out; simp; omega
      intro v' w1 hown' hgrow _
      have R := own_step (by rw [HB.out]; exact Nat.le_refl _) hown hbel hown' hgrow rfl (octs_snoc v k)
      clear hown hbel hown' hgrow
      go_wp2
      go_roundw
      case rel => exact ⟨k + 1, by omega, by go_num, by rw [← HX.out, Int.pow_succ, Int.ediv_ediv_of_nonneg (by have := pow_256_pos k; omega)], R.1, R.2⟩
      case measure => simp [intOf]; omega
    · have : k = m := by omega
      subst this
      have h1 : ¬ ((k : Int) < n ∧ (k : Int) < 8) := fun h => hlt (HK.2 h)
      by_cases h2 : (k : Int) < n
      · have h3 : 8 ≤ (k : Int) := by omega
        clear HK h1
        go_wp2
        go_ret
        exact newBytes_of_owns hown (by rw [← HB.out]; exact hbel)
      · clear HK h1
        go_wp2
        go_ret
        exact newBytes_of_owns hown (by rw [← HB.out]; exact hbel)

theorem conv_row {w : World} {a : Option Addr} {n c : Nat} {l : List Int} (hl : l.length = n) (hr : Row w a l) : (convert 22 9 (.slice a n c)).run Try.prog w = .ok (.string (strOfNums l)) w := by
  rcases hr with rfl | ⟨b, off, rfl, hc⟩
  · simp at hl
    subst hl
    cases a with
    | none => exact run_convert_bytes_nil w 22 5 Try.underlying22 Try.underlying5 0 c 9 Try.underlying9
    | some x =>
      rw [run_convert_bytes_string w 22 9 5 _ 0 c Try.underlying22 Try.underlying5 Try.underlying9, run_bytesToString w x 0 c [] (by simpa using run_loadCells_list (P := Try.prog) w x [] (fun j v hj => by simp at hj))]
      rfl
  · exact run_convert_bytes_arg w 22 5 Try.underlying22 Try.underlying5 b off n c l hl (fun i hi => by rw [hc i (by omega)]; simp) 9 Try.underlying9

set_option maxHeartbeats 800000 in
theorem same_any (a b : Option Addr) (n ca cb : Nat) (l : List Int) (w : World) (hl : l.length = n) (ra : Row w a l) (rb : Row w b l) :
    Calls Try.prog 14 #[.slice a n ca, .slice b n cb] w fun e w' => e = .returned (.bool true) ∧ w' = w := by
  have h1 := conv_row (c := ca) hl ra
  have h2 := conv_row (c := cb) hl rb
  clear ra rb hl
  generalize strOfNums l = s at *
  go_enter Try.func14, Try.ntmps14
  go_wp2
  go_ret
  exact ⟨rfl, rfl⟩

set_option maxHeartbeats 800000 in
theorem refPutBig_any (n v : Int) (w : World) : Calls Try.prog 16 #[.int .i64 n, .int .i64 v] w fun e w' => NewBytes w (octs v (put8 n)).reverse e w' := by
  have C := refPutLittle_any n v w
  have HL : Hid ((octs v (put8 n)).length ≤ 8) := by simp [octs]; exact put8_le n
  generalize octs v (put8 n) = l at *
  go_enter Try.func16, Try.ntmps16
  go_wp2_with fail
  refine C.mono ?_
  clear C
  rintro e w1 ⟨a1, cap1, rfl, g1, g2, g3, g4⟩
  go_wp2_with fail
  refine (turned_any a1 _ cap1 l _ rfl (by have := HL.out; omega) g3).mono ?_
  rintro e w2 ⟨a2, cap2, rfl, f1, f2, f3, f4⟩
  have hB : Below w.heap.size w w2 := g4.trans (f4.mono g4.size)
  go_wp2
  go_ret
  unfold NewBytes
  exact ⟨a2, cap2, by simp, f1, f2, f3, hB⟩

set_option maxHeartbeats 800000 in
theorem puts_walk (n v : Int) (w : World) (_ : (Lit.int .i64 n).wf = true) (_ : (Lit.int .i64 v).wf = true) :
    Calls Try.prog 4 #[.int .i64 n, .int .i64 v] w fun e w' => e = .returned (.bool true) ∧ Below w.heap.size w w' := by
  have C1 := putBig_any n v
  have C2 := refPutBig_any n v
  have C3 := putLittle_any n v
  have C4 := refPutLittle_any n v
  have H : Hid ((∀ w, Calls Try.prog 15 #[.int .i64 n, .int .i64 v] w fun e w' => NewBytes w (octs v (put8 n)).reverse e w') ∧ (∀ w, Calls Try.prog 16 #[.int .i64 n, .int .i64 v] w fun e w' => NewBytes w (octs v (put8 n)).reverse e w') ∧
    (∀ w, Calls Try.prog 17 #[.int .i64 n, .int .i64 v] w fun e w' => NewBytes w (octs v (put8 n)) e w') ∧ (∀ w, Calls Try.prog 18 #[.int .i64 n, .int .i64 v] w fun e w' => NewBytes w (octs v (put8 n)) e w')) := ⟨C1, C2, C3, C4⟩
  clear C1 C2 C3 C4
  generalize octs v (put8 n) = l at *
  go_enter Try.func4, Try.ntmps4
  go_wp2_with fail
  refine (fixed_any _).mono ?_
  rintro e w1 ⟨rfl, hb1⟩
  go_wp2_with fail
  refine (H.out.1 _).mono ?_
  rintro e w2 ⟨a2, c2, rfl, _, _, r2, b2⟩
  go_wp2_with fail
  refine (H.out.2.1 _).mono ?_
  rintro e w3 ⟨a3, c3, rfl, _, _, r3, b3⟩
  have r23 := r2.old b3
  clear r2
  go_wp2_with fail
  refine (same_any a2 a3 l.length c2 c3 l.reverse _ (by simp) r23 r3).mono ?_
  rintro e w4 ⟨rfl, rfl⟩
  go_wp2_with fail
  refine (H.out.2.2.1 _).mono ?_
  rintro e w5 ⟨a5, c5, rfl, _, _, r5, b5⟩
  go_wp2_with fail
  refine (H.out.2.2.2 _).mono ?_
  rintro e w6 ⟨a6, c6, rfl, _, _, r6, b6⟩
  have r56 := r5.old b6
  clear r5
  go_wp2_with fail
  refine (same_any a5 a6 _ c5 c6 l _ rfl r56 r6).mono ?_
  rintro e w7 ⟨rfl, rfl⟩
  have hB2 : Below w.heap.size w w2 := hb1.trans (b2.mono hb1.size)
  have hB4 : Below w.heap.size w _ := hB2.trans (b3.mono hB2.size)
  have hB5 : Below w.heap.size w w5 := hB4.trans (b5.mono hB4.size)
  have hB7 : Below w.heap.size w _ := hB5.trans (b6.mono hB5.size)
  clear hB2 hB4 hB5 b2 b3 b5 b6 r56 r6 r23 r3
  go_wp2
  go_ret
  exact ⟨rfl, hB7⟩
end Go.Proofs.Ythoandjljgkcbaa
