import Derived.Test.YthoandjljgkcbaaByt
import Derived.Test.YthoandjljgkcbaaArg
namespace Go.Proofs.Ythoandjljgkcbaa
open Go.RowKit

theorem litN_octs (v : Int) (n : Nat) (hn : n ≤ 4) : litN (octs v n) = v % 256 ^ n := by
  match n, hn with
  | 0, _ => simp [octs, litN]
  | 1, _ => simp [octs, litN, oct, List.range_succ]
  | 2, _ => simp [octs, litN, oct, List.range_succ]; omega
  | 3, _ => simp [octs, litN, oct, List.range_succ]; omega
  | 4, _ => simp [octs, litN, oct, List.range_succ]; omega
theorem i64_mask (n : Int) (k : Nat) (m : Int) (hk : k ≤ 32) (hm : (BitVec.ofInt 64 m).toNat = 2 ^ k - 1) : bits .and .i64 n m = n % 2 ^ k := by
  have key : (BitVec.ofInt 64 n &&& BitVec.ofInt 64 m).toNat = (n % ((2 ^ 64 : Nat) : Int)).toNat % 2 ^ k := by
    rw [BitVec.toNat_and, BitVec.toNat_ofInt, hm, Nat.and_two_pow_sub_one_eq_mod]
  show IntKind.i64.wrap ((BitVec.ofInt 64 n &&& BitVec.ofInt 64 m).toNat : Nat) = n % 2 ^ k
  rw [key, IntKind.wrap_i64]
  have h1 : ((2 ^ k : Nat) : Int) = 2 ^ k := by rw [Int.natCast_pow]; rfl
  have h2 : (2 : Nat) ^ k ≤ 2 ^ 32 := Nat.pow_le_pow_right (by omega) hk
  have h3 : ((n % ((2 ^ 64 : Nat) : Int)).toNat : Int) = n % 18446744073709551616 := by omega
  have h4 : n % 18446744073709551616 % ((2 ^ k : Nat) : Int) = n % ((2 ^ k : Nat) : Int) := by
    rw [Int.emod_emod_of_dvd]
    have : (2 : Nat) ^ 64 = 2 ^ k * 2 ^ (64 - k) := by rw [← Nat.pow_add]; congr 1; omega
    exact ⟨((2 ^ (64 - k) : Nat) : Int), by rw [← Int.natCast_mul, ← this]; rfl⟩
  have h5 : (((n % ((2 ^ 64 : Nat) : Int)).toNat % 2 ^ k : Nat) : Int) = n % ((2 ^ k : Nat) : Int) := by
    rw [Int.natCast_emod, h3, h4]
  rw [h5, ← h1]
  have h6 := Int.emod_nonneg n (show ((2 ^ k : Nat) : Int) ≠ 0 by have := Nat.two_pow_pos k; omega)
  have h7 := Int.emod_lt_of_pos n (show (0 : Int) < ((2 ^ k : Nat) : Int) by have := Nat.two_pow_pos k; omega)
  generalize n % ((2 ^ k : Nat) : Int) = r at *
  omega
theorem mask_eq (v : Int) (n : Nat) (hn : n < 4) : bits .and .i64 v (wrap64 (wrap64 (2 ^ (8 * (1 + n))) - 1)) = v % 256 ^ (n + 1) := by
  match n, hn with
  | 0, _ => exact i64_mask v 8 _ (by omega) (by decide +kernel)
  | 1, _ => exact i64_mask v 16 _ (by omega) (by decide +kernel)
  | 2, _ => exact i64_mask v 24 _ (by omega) (by decide +kernel)
  | 3, _ => exact i64_mask v 32 _ (by omega) (by decide +kernel)
theorem put8_small (n : Nat) (h : n ≤ 8) : put8 n = n := by unfold put8; omega
theorem octs_len (v : Int) (n : Nat) : (octs v n).length = n := by simp [octs]
theorem cut_mid (A P Z : List Int) (n : Nat) (hP : P.length = n) (h1 : 1 ≤ n) (h4 : n ≤ 4) : cutE (A ++ P ++ Z).length (A.length : Int) n = 0 ∧ cutL (A ++ P ++ Z) (A.length : Int) n = P := by
  have e : cutE (A ++ P ++ Z).length (A.length : Int) n = 0 := by
    unfold cutE
    rw [if_neg (by omega), if_neg (by simp; omega)]
  refine ⟨e, ?_⟩
  unfold cutL
  rw [if_pos e]
  subst hP
  simp
theorem octs_bytes (v : Int) (n : Nat) : Bytes (octs v n) := by
  intro z hz
  simp only [octs, List.mem_map] at hz
  obtain ⟨i, _, rfl⟩ := hz
  exact oct_byte v i

theorem own_below {w w' : World} {base e n : Nat} {v : Value} {xs : List Value} (h : w.ownsRow base e 1 v n xs) (hb : Below w.heap.size w w') : w'.ownsRow base e 1 v n xs := by
  refine h.kept (grownBy_of_below hb none) ?_
  cases hv : v.ownBlock with
  | none => exact .inl rfl
  | some k => exact .inr (by simp)
theorem row_nil {w : World} {a : Option Addr} {l : List Int} {cap : Nat} (h : Row w a l) (hl : 0 < l.length) : a = none → cap = 0 := by
  intro ha
  rcases h with rfl | ⟨b, off, e, _⟩
  · simp at hl
  · rw [ha] at e; cases e
/-- What 'back' puts together. -/
theorem put_facts (v : Int) (n : Nat) (hn : n < 4) : put8 (1 + (n : Int)) = n + 1 ∧ (octs v (n + 1)).length = n + 1 ∧ bigN (octs v (n + 1)).reverse = v % 256 ^ (n + 1) ∧ litN (octs v (n + 1)) = v % 256 ^ (n + 1) := by
  refine ⟨by unfold put8; omega, octs_len _ _, by rw [bigN_reverse]; exact litN_octs v _ (by omega), litN_octs v _ (by omega)⟩
theorem Big_mid (a : Option Addr) (len cap n : Nat) (q : Int) (A P Z : List Int) (w : World) (hl : (A ++ P ++ Z).length = len) (hc : len ≤ cap) (hm : cap ≤ maxLen) (hn : P.length = n + 1) (h4 : n < 4) (hA : Bytes A) (hP : Bytes P) (hZ : Bytes Z) (hr : Row w a (A ++ P ++ Z)) (hq : bigN P = q) :
    Calls Try.prog 10 #[.slice a len cap, .int .i64 A.length, .int .i64 (1 + (n : Int))] w fun e w' => e = .returned (.tuple #[.int .i64 q, .int .i64 0]) ∧ w' = w := by
  have C := Big_any a len cap A.length ((n + 1 : Nat) : Int) (A ++ P ++ Z) w hl hc hm (by simp [Lit.wf, IntKind.min, IntKind.max, IntKind.bits, IntKind.signed]; omega) ((hA.append hP).append hZ) hr
  rw [(cut_mid A P Z (n + 1) hn (by omega) (by omega)).1, (cut_mid A P Z (n + 1) hn (by omega) (by omega)).2, hq] at C
  rw [show (1 + (n : Int)) = ((n + 1 : Nat) : Int) by omega]
  exact C
theorem Little_mid (a : Option Addr) (len cap n : Nat) (q : Int) (A P Z : List Int) (w : World) (hl : (A ++ P ++ Z).length = len) (hc : len ≤ cap) (hm : cap ≤ maxLen) (hn : P.length = n + 1) (h4 : n < 4) (hA : Bytes A) (hP : Bytes P) (hZ : Bytes Z) (hr : Row w a (A ++ P ++ Z)) (hq : litN P = q) :
    Calls Try.prog 12 #[.slice a len cap, .int .i64 A.length, .int .i64 (1 + (n : Int))] w fun e w' => e = .returned (.tuple #[.int .i64 q, .int .i64 0]) ∧ w' = w := by
  have C := Little_any a len cap A.length ((n + 1 : Nat) : Int) (A ++ P ++ Z) w hl hc hm (by simp [Lit.wf, IntKind.min, IntKind.max, IntKind.bits, IntKind.signed]; omega) ((hA.append hP).append hZ) hr
  rw [(cut_mid A P Z (n + 1) hn (by omega) (by omega)).1, (cut_mid A P Z (n + 1) hn (by omega) (by omega)).2, hq] at C
  rw [show (1 + (n : Int)) = ((n + 1 : Nat) : Int) by omega]
  exact C

set_option maxHeartbeats 1600000 in
theorem back_walk (v s : Int) (a2 : Option Addr) (len2 cap2 : Nat) (a3 : Option Addr) (len3 cap3 : Nat) (n : Nat) (w : World) (hs0 : 0 ≤ s) (hs1 : s < 256) (hsn : s % 4 = (n : Int)) (hn4 : n < 4) (h2 : BArg w a2 len2 cap2) (h3 : BArg w a3 len3 cap3) (b2 : cap2 ≤ 1048576) (b3 : cap3 ≤ 1048576) :
    Calls Try.prog 5 #[.int .i64 v, .int .u8 s, .slice a2 len2 cap2, .slice a3 len3 cap3] w fun e w' => e = .returned (.bool true) ∧ Below w.heap.size w w' := by
  obtain ⟨A, hbA, rfl, hl2, hm2, hn2, hr2⟩ := h2
  obtain ⟨Z, hbZ, rfl, hl3, hm3, hn3, hr3⟩ := h3
  have H : Hid (Row w a2 A ∧ Row w a3 Z ∧ Bytes A ∧ Bytes Z ∧ (a2 = none → cap2 = 0) ∧ (a3 = none → cap3 = 0)) := ⟨hr2, hr3, hbA, hbZ, hn2, hn3⟩
  clear hr2 hr3 hbA hbZ hn2 hn3
  obtain ⟨B, hB⟩ : ∃ B, B = w.heap.size := ⟨_, rfl⟩
  have HB : Hid (B = w.heap.size) := hB
  clear hB
  go_enter Try.func5, Try.ntmps5
  go_wp2_with fail
  refine (fixed_any _).mono ?_
  rintro e w1 ⟨rfl, hb1⟩
  rw [← HB.out] at hb1
  have hw1 : B ≤ w1.heap.size := by have := hb1.size; have := HB.out; omega
  go_wp2_with (at_builtin; refine wpList_append_row rfl _ _ rfl B _ 0 [] rfl (World.ownsRow_lit w1 #[] 0 hw1 (by unfold maxLen; omega) rfl) a2 A.length cap2 A rfl rfl H.out.2.2.2.2.1 ((H.out.1.below hb1 (by rw [HB.out]; exact H.out.1.lt)).old ((Below.refl _ _).alloc (Nat.le_refl _) _)) (by omega) (by simp; omega) ?_)
  intro v1 w2 hown1 hg1
  have hb2 : Below B w w2 := (hb1.alloc hw1 _).grown hg1 (by simp; omega) (fun k hk => by simp [Value.ownBlock] at hk; omega)
  have hw2 : B ≤ w2.heap.size := by have := hg1.size; simp at this; omega
  clear hg1 hb1
  have P1 := putBig_any (1 + (n : Int)) v
  rw [(put_facts v n hn4).1] at P1
  have HP1 : Hid _ := P1
  clear P1
  go_wp2_with fail
  refine (HP1.out _).mono ?_
  rintro e w3 ⟨p1, cp1, rfl, _, _, rp1, bp1⟩
  have L1 : (octs v (n + 1)).reverse.length = n + 1 := by rw [List.length_reverse, octs_len]
  have HL1 : Hid _ := L1
  have np1 : p1 = none → cp1 = 0 := row_nil rp1 (by omega)
  have HP : Hid (bigN (octs v (n + 1)).reverse = v % 256 ^ (n + 1) ∧ Bytes (octs v (n + 1)).reverse) := ⟨(put_facts v n hn4).2.2.1, (octs_bytes v _).reverse⟩
  rw [L1]
  clear L1
  generalize (octs v (n + 1)).reverse = P at *
  have hown1' := own_below hown1 bp1
  have hb3 : Below B w w3 := hb2.trans (bp1.mono hw2)
  have hw3 : B ≤ w3.heap.size := by have := bp1.size; omega
  clear hown1 bp1 hb2
  go_wp2_with (at_builtin; refine wpList_append_row rfl _ _ rfl B _ A.length A rfl hown1' p1 (n + 1) cp1 P rfl HL1.out np1 rp1 (by omega) hw3 ?_)
  intro v2 w4 hown2 hg2
  have hb4 : Below B w w4 := hb3.grown hg2 hw3 (fun k hk => (hown1'.lt k hk).1)
  have hw4 : B ≤ w4.heap.size := by have := hg2.size; omega
  clear hown1' hg2 rp1 np1 hb3
  go_wp2_with (at_builtin; refine wpList_append_row rfl _ _ rfl B _ (A.length + (n + 1)) (A ++ P) rfl hown2 a3 Z.length cap3 Z rfl rfl H.out.2.2.2.2.2 (H.out.2.1.below hb4 (by rw [HB.out]; exact H.out.2.1.lt)) (by omega) hw4 ?_)
  intro v3 w5 hown3 hg3
  have hb5 : Below B w w5 := hb4.grown hg3 hw4 (fun k hk => (hown2.lt k hk).1)
  have hw5 : B ≤ w5.heap.size := by have := hg3.size; omega
  clear hown2 hg3 hb4
  obtain ⟨ab, cb, hvb, _, _, _, _⟩ := row_of_owns hown3
  rw [hvb]
  rw [hvb] at hown3
  clear hvb
  -- the second one, in memory behind the first
  obtain ⟨C, hC⟩ : ∃ C, C = w5.heap.size := ⟨_, rfl⟩
  have HC : Hid (C = w5.heap.size) := hC
  clear hC
  go_wp2_with (at_builtin; refine wpList_append_row rfl _ _ rfl C _ 0 [] rfl (World.ownsRow_lit w5 #[] 0 (by rw [HC.out]; exact Nat.le_refl _) (by unfold maxLen; omega) rfl) a2 A.length cap2 A rfl rfl H.out.2.2.2.2.1 ((H.out.1.below hb5 (by rw [HB.out]; exact H.out.1.lt)).old ((Below.refl _ _).alloc (Nat.le_refl _) _)) (by omega) (by rw [HC.out]; simp) ?_)
  intro u1 w6 hown4 hg4
  have hb6 : Below C w5 w6 := ((Below.refl _ _).alloc (by rw [HC.out]; exact Nat.le_refl _) _).grown hg4 (by rw [HC.out]; simp) (fun k hk => by simp [Value.ownBlock] at hk; have := HC.out; omega)
  have hw6 : C ≤ w6.heap.size := by have := hb6.size; have := HC.out; omega
  clear hg4
  have P2 := putLittle_any (1 + (n : Int)) v
  rw [(put_facts v n hn4).1] at P2
  have HP2 : Hid _ := P2
  clear P2
  go_wp2_with fail
  refine (HP2.out _).mono ?_
  rintro e w7 ⟨p2, cp2, rfl, _, _, rp2, bp2⟩
  have L2 : (octs v (n + 1)).length = n + 1 := octs_len _ _
  have HL2 : Hid _ := L2
  have np2 : p2 = none → cp2 = 0 := row_nil rp2 (by omega)
  have HQ : Hid (litN (octs v (n + 1)) = v % 256 ^ (n + 1) ∧ Bytes (octs v (n + 1))) := ⟨(put_facts v n hn4).2.2.2, (octs_bytes v _)⟩
  rw [L2]
  clear L2
  generalize octs v (n + 1) = P' at *
  have hown4' := own_below hown4 bp2
  have hb7 : Below C w5 w7 := hb6.trans (bp2.mono hw6)
  have hw7 : C ≤ w7.heap.size := by have := bp2.size; omega
  clear hown4 bp2 hb6
  go_wp2_with (at_builtin; refine wpList_append_row rfl _ _ rfl C _ A.length A rfl hown4' p2 (n + 1) cp2 P' rfl HL2.out np2 rp2 (by omega) hw7 ?_)
  intro u2 w8 hown5 hg5
  have hb8 : Below C w5 w8 := hb7.grown hg5 hw7 (fun k hk => (hown4'.lt k hk).1)
  have hw8 : C ≤ w8.heap.size := by have := hg5.size; omega
  clear hown4' hg5 rp2 np2 hb7
  have hb58 : Below B w w8 := hb5.trans (hb8.mono (by have := HC.out; omega))
  go_wp2_with (at_builtin; refine wpList_append_row rfl _ _ rfl C _ (A.length + (n + 1)) (A ++ P') rfl hown5 a3 Z.length cap3 Z rfl rfl H.out.2.2.2.2.2 (H.out.2.1.below hb58 (by rw [HB.out]; exact H.out.2.1.lt)) (by omega) hw8 ?_)
  intro u3 w9 hown6 hg6
  have hb9 : Below C w5 w9 := hb8.grown hg6 hw8 (fun k hk => (hown5.lt k hk).1)
  have hB9 : Below B w w9 := hb5.trans (hb9.mono (by have := HC.out; omega))
  have hown3' := own_below hown3 (hb9.mono (by have := HC.out; omega))
  clear hown5 hg6 hb8 hb58 hb5 hown3 hb9
  obtain ⟨al, cl, hvl, hln, hl1, hl2', hrl⟩ := row_of_owns hown6
  obtain ⟨ab', cb', hvb, hbn, hb1', hb2', hrb⟩ := row_of_owns hown3'
  simp only [Value.slice.injEq] at hvb
  obtain ⟨rfl, _, rfl⟩ := hvb
  rw [hvl]
  clear hvl hown6 hown3'
  rw [← List.append_assoc] at hbn hrb hln hrl
  have hq := mask_eq v n hn4
  generalize v % 256 ^ (n + 1) = q at HP HQ hq ⊢
  go_wp2_with fail
  refine (Big_mid ab _ cb n q A P Z w9 hbn hb1' hb2' HL1.out hn4 H.out.2.2.1 HP.out.2 H.out.2.2.2.1 hrb HP.out.1).mono ?_
  rintro e w10 ⟨rfl, rfl⟩
  go_wp2_with fail
  refine (Little_mid al _ cl n q A P' Z _ hln hl1 hl2' HL2.out hn4 H.out.2.2.1 HQ.out.2 H.out.2.2.2.1 hrl HQ.out.1).mono ?_
  rintro e w10 ⟨rfl, rfl⟩
  clear hbn hb1' hb2' hrb hln hl1 hl2' hrl HP HQ HL1 HL2 HP1 HP2
  go_wp2
  go_ret
  exact ⟨rfl, by rw [← HB.out]; exact hB9⟩
end Go.Proofs.Ythoandjljgkcbaa
