import Derived.Test.YthoandjljgkcbaaCur2
namespace Go.Proofs.Ythoandjljgkcbaa
open Go.RowKit

theorem row_lit (w : World) : Row (w.alloc (.cells #[.int .u8 1, .int .u8 2, .int .u8 3] 5)) (some ⟨w.heap.size, 0, none⟩) [1, 2, 3] := by
  refine .inr ⟨_, 0, rfl, fun i hi => ?_⟩
  rw [World.cell?_alloc_at _ _ _ _ rfl]
  match i, hi with
  | 0, _ => rfl
  | 1, _ => rfl
  | 2, _ => rfl
theorem bytes_lit : Bytes [1, 2, 3] := by intro z hz; simp at hz; omega
theorem fix_big1 (s : Nat) (w : World) (hs : s = w.heap.size) : Calls Try.prog 10 #[.slice (some ⟨s, 0, none⟩) 3 3, .int .i64 0, .int .i64 2] (w.alloc (.cells #[.int .u8 1, .int .u8 2, .int .u8 3] 5)) fun e w' => e = .returned (.tuple #[.int .i64 258, .int .i64 0]) ∧ w' = w.alloc (.cells #[.int .u8 1, .int .u8 2, .int .u8 3] 5) :=
  Big_any _ 3 3 0 2 [1, 2, 3] _ rfl (Nat.le_refl _) (by unfold maxLen; omega) (by decide) bytes_lit (by subst hs; exact row_lit w)
theorem fix_little (s : Nat) (w : World) (hs : s = w.heap.size) : Calls Try.prog 12 #[.slice (some ⟨s, 0, none⟩) 3 3, .int .i64 0, .int .i64 2] (w.alloc (.cells #[.int .u8 1, .int .u8 2, .int .u8 3] 5)) fun e w' => e = .returned (.tuple #[.int .i64 513, .int .i64 0]) ∧ w' = w.alloc (.cells #[.int .u8 1, .int .u8 2, .int .u8 3] 5) :=
  Little_any _ 3 3 0 2 [1, 2, 3] _ rfl (Nat.le_refl _) (by unfold maxLen; omega) (by decide) bytes_lit (by subst hs; exact row_lit w)
theorem fix_big2 (s : Nat) (w : World) (hs : s = w.heap.size) : Calls Try.prog 10 #[.slice (some ⟨s, 0, none⟩) 3 3, .int .i64 2, .int .i64 2] (w.alloc (.cells #[.int .u8 1, .int .u8 2, .int .u8 3] 5)) fun e w' => e = .returned (.tuple #[.int .i64 0, .int .i64 2]) ∧ w' = w.alloc (.cells #[.int .u8 1, .int .u8 2, .int .u8 3] 5) :=
  Big_any _ 3 3 2 2 [1, 2, 3] _ rfl (Nat.le_refl _) (by unfold maxLen; omega) (by decide) bytes_lit (by subst hs; exact row_lit w)
theorem fix_new (s : Nat) (w : World) (hs : s = w.heap.size) : Calls Try.prog 19 #[.slice (some ⟨s, 0, none⟩) 3 3] (w.alloc (.cells #[.int .u8 1, .int .u8 2, .int .u8 3] 5)) fun e w' => NewCur (w.alloc (.cells #[.int .u8 1, .int .u8 2, .int .u8 3] 5)) [1, 2, 3] e w' :=
  new_any _ 3 3 [1, 2, 3] _ rfl (by intro h; cases h) (by omega) (by subst hs; exact row_lit w)
theorem fix_cbig (c U : Nat) (w : World) (h : Cur w c U [1, 2, 3] 0) : Calls Try.prog 20 #[.pointer (some ⟨c, 0, none⟩), .int .i64 2] w fun e w' => NumPost w c U 258 [3] 0 e w' :=
  cbig_any c U [1, 2, 3] 0 2 w h bytes_lit
theorem fix_clittle (c U : Nat) (w : World) (h : Cur w c U [3] 0) : Calls Try.prog 22 #[.pointer (some ⟨c, 0, none⟩), .int .i64 2] w fun e w' => NumPost w c U 0 [] 2 e w' :=
  clittle_any c U [3] 0 2 w h (by intro z hz; simp at hz; omega)

set_option maxHeartbeats 1000000 in
theorem fixed_any (w : World) : Calls Try.prog 9 #[] w fun e w' => e = .returned (.bool true) ∧ Below w.heap.size w w' := by
  go_enter Try.func9, Try.ntmps9
  go_wp2_with fail
  refine (fix_big1 _ _ rfl).mono ?_
  rintro e w1 ⟨rfl, rfl⟩
  go_wp2_with fail
  refine (fix_little _ _ (by simp)).mono ?_
  rintro e w1 ⟨rfl, rfl⟩
  go_wp2_with fail
  refine (fix_big2 _ _ (by simp)).mono ?_
  rintro e w1 ⟨rfl, rfl⟩
  go_wp2_with fail
  refine (fix_new _ _ (by simp)).mono ?_
  rintro e w1 ⟨c, rfl, hc, hb, a, cap, hh, h1, h2, h3, _⟩
  have hcur : Cur w1 c w1.heap.size [1, 2, 3] 0 := ⟨a, cap, hh, h1, h2, h3, h3.lt⟩
  have hB : Below w.heap.size w w1 := (((((Below.refl _ _).alloc (Nat.le_refl _) _).alloc (by simp) _).alloc (by simp; omega) _).alloc (by simp; omega) _).trans (hb.mono (by simp; omega))
  have hcw : w.heap.size ≤ c := by simp at hc; omega
  clear hb hh h1 h2 h3 hc
  go_wp2_with fail
  refine (fix_cbig c _ _ hcur).mono ?_
  rintro e w2 ⟨rfl, hcur2, hg2⟩
  clear hcur
  go_wp2_with fail
  refine (left_any c _ _ _ _ hcur2).mono ?_
  rintro e w3 ⟨rfl, rfl⟩
  go_wp2_with fail
  refine (fix_clittle c _ _ hcur2).mono ?_
  rintro e w3 ⟨rfl, hcur3, hg3⟩
  have hB3 : Below w.heap.size w w3 := (hB.grown hg2 hB.size (fun k hk => by simp at hk; omega)).grown hg3 (Nat.le_trans hB.size hg2.size) (fun k hk => by simp at hk; omega)
  clear hcur2 hg2 hg3 hB
  go_wp2_with fail
  refine (err_any c _ _ _ _ hcur3).mono ?_
  rintro e w4 ⟨rfl, rfl⟩
  go_wp2_with fail
  refine (left_any c _ _ _ _ hcur3).mono ?_
  rintro e w5 ⟨rfl, rfl⟩
  go_wp2
  go_ret
  exact ⟨rfl, hB3⟩
end Go.Proofs.Ythoandjljgkcbaa
