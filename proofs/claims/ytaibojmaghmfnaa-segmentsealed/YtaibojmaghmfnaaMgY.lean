/- The document's Sealed; the law's fixed. -/
import Derived.Test.YtaibojmaghmfnaaMgX
namespace Go.Proofs.Ytaibojmaghmfnaa
open Go.RowKit
theorem own_step {w wr w1 : World} {B n m : Nat} {o : Obj} {v v' : Value} {l l' : List Int} {x : Int} (hw : B ≤ w.heap.size) (hown : wr.ownsRow B 5 1 v n (vals l)) (hbel : Below B w wr)
    (hown' : w1.ownsRow B 5 1 v' (n + 1) (vals l ++ [.int .u8 x])) (hgrow : (wr.alloc o).grownBy w1 v.ownBlock) (hm : n + 1 = m) (hl : l' = l ++ [x]) : w1.ownsRow B 5 1 v' m (vals l') ∧ Below B w w1 := by
  subst hm hl
  refine ⟨by rw [vals_append]; exact hown', (hbel.alloc (by have := hbel.size; omega) o).grown hgrow (by have := hbel.size; simp; omega) fun k hk => (hown.lt k hk).1⟩

theorem i64_and255 (n : Int) : bits .and .i64 n 255 = n % 256 := by
  have h255 : (BitVec.ofInt 64 255).toNat = 2 ^ 8 - 1 := by decide
  have key : (BitVec.ofInt 64 n &&& BitVec.ofInt 64 255).toNat = (n % ((2 ^ 64 : Nat) : Int)).toNat % 2 ^ 8 := by
    rw [BitVec.toNat_and, BitVec.toNat_ofInt, h255, Nat.and_two_pow_sub_one_eq_mod]
  show IntKind.i64.wrap ((BitVec.ofInt 64 n &&& BitVec.ofInt 64 255).toNat : Nat) = n % 256
  rw [key, IntKind.wrap_i64]
  omega
theorem octs_snoc (v : Int) (k : Nat) : octs v (k + 1) = octs v k ++ [oct v k] := by simp [octs, List.range_succ]
theorem put8_lt (n : Int) (k : Nat) : k < put8 n ↔ (k : Int) < n ∧ (k : Int) < 8 := by unfold put8; omega

set_option maxHeartbeats 800000 in
theorem refPutLittle_any (n v : Int) (w : World) : Calls Try.prog 32 #[.int .i64 n, .int .i64 v] w fun e w' => NewBytes w (octs v (put8 n)) e w' := by
  have hm := put8_le n
  have HL : Hid (∀ k : Nat, k < put8 n ↔ (k : Int) < n ∧ (k : Int) < 8) := put8_lt n
  generalize put8 n = m at *
  obtain ⟨B, hB⟩ : ∃ B, B = w.heap.size := ⟨_, rfl⟩
  have HB : Hid (B = w.heap.size) := hB
  clear hB
  obtain ⟨i0, hi, hz0, hz1, hz2⟩ := info_parts Try.info5
  go_enter Try.func32, Try.ntmps32
  go_wp2
  go_loopw [1, 5, 6] (fun x o c wr => ∃ k : Nat, k ≤ m ∧ c = .int .i64 k ∧ x = .int .i64 (v / 256 ^ k) ∧ wr.ownsRow B 5 1 o k (vals (octs v k)) ∧ Below B w wr) (fun _ _ c _ => m - (intOf c).toNat)
  case atStart => exact ⟨0, Nat.zero_le _, rfl, by simp, World.ownsRow_nil _ _ _ _, Below.refl _ _⟩
  case round =>
    obtain ⟨k, hk, rfl, rfl, hown, hbel⟩ := hrel
    have HK := (HL.out k)
    have hk8 : k ≤ 8 := by omega
    by_cases hlt : k < m
    · obtain ⟨h1, h2⟩ := HK.1 hlt
      clear HK
      have HO : Hid (bits .and .i64 (v / 256 ^ k) 255 = oct v k) := i64_and255 _
      have hob := oct_byte v k
      generalize hx : v / 256 ^ k = x at *
      have HX : Hid _ := hx
      clear hx
      have hbits := HO.out
      go_wp2_with (first
          | (at_builtin; refine wpList_append_own _ rfl _ _ 24 rfl B 5 i0 (.int .u8 0) 1 1 Try.underlying24 hi hz0 hz1 hz2 rfl (by decide) _ _ _ rfl (hown.alloc _) ⟨wr.heap.size, 0, none⟩ 1 1 [.int .u8 (oct v k)] rfl rfl ?c1 ?c2 ?c3 ?c4 ?c5 ?_)
          | go_in)
      case c1 => exact (cell_one_new _ _ _)
      case c2 => intro u hu; simp at hu; subst hu; rfl
      case c3 => unfold maxLen; omega
      case c4 => omega
      case c5 => have := hbel.size; have := HB.out; simp; omega
      intro v' w1 hown' hgrow _
      have R := own_step (by rw [HB.out]; exact Nat.le_refl _) hown hbel hown' hgrow rfl (octs_snoc v k)
      clear hown hbel hown' hgrow
      go_wp2
      go_roundw
      case rel => exact ⟨k + 1, by omega, by go_num, by rw [← HX.out, Int.pow_succ, Int.ediv_ediv_of_nonneg (by have := pow_256_pos k; omega)], R.1, R.2⟩
      case measure => simp [intOf]; omega
    · have : k = m := by omega
      subst this
      have h1 : ¬ ((k : Int) < n ∧ (k : Int) < 8) := fun h => hlt (HK.2 h)
      by_cases h2 : (k : Int) < n
      · have h3 : 8 ≤ (k : Int) := by omega
        clear HK h1
        go_wp2
        go_ret
        exact newBytes_of_owns hown (by rw [← HB.out]; exact hbel)
      · clear HK h1
        go_wp2
        go_ret
        exact newBytes_of_owns hown (by rw [← HB.out]; exact hbel)


theorem rputl_bp (n : Nat) (hn : n ≤ 8) (v : Int) (w : World) : Calls Try.prog 32 #[.int .i64 n, .int .i64 v] w fun e w' => BP w n (octs v n) e w' := by
  have e8 : put8 (n : Int) = n := by unfold put8; omega
  refine (refPutLittle_any n v w).mono ?_
  rintro e w' ⟨a, cap, rfl, h1, h2, h3, h4, h5⟩
  rw [e8] at h1 h4 ⊢
  rw [octs_len] at h1 ⊢
  unfold maxLen at h2
  exact ⟨a, cap, rfl, ⟨octs_len v n, octs_byte v n, h1, by omega, h3, h4⟩, h5⟩
set_option maxHeartbeats 3200000 in
theorem sealed_any (a : Option Addr) (n c : Nat) (t : List Int) (w : World) (h : BOk w a n c t) (hn : n ≤ 100000) : Calls Try.prog 15 #[.slice a n c] w fun e w' => BPs w (n + 4) (sealM t) e w' := by
  have HT : Hid (BOk w a n c t) := h
  have CO : Hid (∀ u, Below w.heap.size w u → Calls Try.prog 28 #[.slice a n c] u fun e w' => e = .returned (.int .u32 ((crcM (BitVec.ofNat 32 0) t).toNat : Int)) ∧ w' = u) := fun u hu => rof_any a n c t u h.1 (by omega) h.2.1 (h.2.2.2.2.2.old hu)
  obtain ⟨X, hX⟩ : ∃ X, (crcM (BitVec.ofNat 32 0) t).toNat = X := ⟨_, rfl⟩
  have hXlt : X < 4294967296 := by rw [← hX]; exact (crcM (BitVec.ofNat 32 0) t).isLt
  rw [hX] at CO
  have HX : Hid (sealM t = t ++ octs (X : Int) 4) := (by unfold sealM; rw [hX] : sealM t = t ++ octs (X : Int) 4)
  have h5 := h.2.2.2.2.1
  have hA0 : Below w.heap.size w (w.alloc (.cells #[] 5)) := (Below.refl _ _).alloc (Nat.le_refl _) _
  have HA0 : Hid (Below w.heap.size w (w.alloc (.cells #[] 5))) := hA0
  clear hX h hA0
  go_enter Try.func15, Try.ntmps15
  go_wp2_with (first
    | (go_at_call 28; refine Calls.mono (CO.out _ HB1.out) ?_; rintro e x ⟨rfl, hx⟩; have hx2 := hx.symm; clear hx; subst hx2)
    | (go_at_call 32; refine (rputl_bp 4 (by omega) (X : Int) _).mono ?_; rintro e w2 ⟨a2, c2, rfl, ok2, b2⟩; have HO2 : Hid (BOk w2 a2 4 c2 (octs (X : Int) 4)) := ok2; have HS2 : Hid (Sl w2 5 (.slice a1 n c1) g1 (vals t)) := HS1.out.same (fun k hk => b2.block k (HS1.out.lt hk)); have HB2 : Hid (Below w.heap.size w w2) := HB1.out.trans (b2.mono HB1.out.size); clear ok2 b2)
    | (at_builtin; refine wpList_more rfl _ _ rfl _ _ [] rfl (Sl.empty w 5) a n c t rfl HT.out.2.2.2.2.1 HT.out.1 (HT.out.2.2.2.2.2.old HA0.out) (by simp; omega) ?_; intro v1 w1 g1 sl1 hg1 hw1; obtain ⟨a1, c1, hv1, -⟩ := sl1.shape; have hl1 : (vals ([] ++ t)).length = n := (by rw [vals_len, List.nil_append]; exact HT.out.1); rw [hl1] at hv1; subst hv1; have HS1 : Hid (Sl w1 5 (.slice a1 n c1) g1 (vals t)) := sl1; have HF1 : Hid (∀ k, g1 = some k → w.heap.size ≤ k) := (fun k hk => by
        rcases hg1 with e | ⟨q, e, hq⟩
        · rw [e] at hk; cases hk; exact Nat.le_refl _
        · rw [e] at hk; cases hk; simp at hq; omega); have HB1 : Hid (Below w.heap.size w w1) := HA0.out.grown hw1 HA0.out.size (fun k hk => by cases hk; exact Nat.le_refl _); clear sl1 hg1 hw1 hl1)
    | (at_builtin; refine wpList_more rfl _ _ rfl _ g1 t rfl HS2.out a2 4 c2 (octs (X : Int) 4) rfl HO2.out.2.2.2.2.1 HO2.out.1 HO2.out.2.2.2.2.2 (by rw [HT.out.1]; omega) ?_; intro v6 x6 g6 sl6 hg6 hw6; obtain ⟨a6, c6, hv6, -⟩ := sl6.shape; have hl6 : (vals (t ++ octs (X : Int) 4)).length = n + 4 := (by rw [vals_len, List.length_append, HT.out.1, octs_len]); rw [hl6] at hv6; have HR : Hid (BPs w (n + 4) (sealM t) (.returned v6) x6) := (by
        rw [HX.out]
        refine ⟨a6, c6, g6, by rw [hv6], by rw [← hv6]; exact sl6, by rw [List.length_append, HT.out.1, octs_len], HT.out.2.1.append (octs_byte _ _), ?_, HB2.out.grown hw6 HB2.out.size HF1.out⟩
        intro k hk
        rcases hg6 with rfl | ⟨q, rfl, hq⟩
        · exact HF1.out k hk
        · cases hk; exact Nat.le_trans HB2.out.size hq); subst hv6; clear sl6 hg6 hw6 hl6))
  go_ret
  exact HR.out
def mayW (m : Ms) (G : List (Int × Int)) : Bool := isKd m.k && myM m G
/-- What Write comes to. -/
def WaP (w : World) (m : Ms) (G : List (Int × Int)) (D : List Int) (e : Ending) (w' : World) : Prop :=
  (mayW m G = false → e = .returned (.tuple #[.slice none 0 0, .int .i64 1]) ∧ Below w.heap.size w w') ∧ (mayW m G = true → WrP w (9 + lnM m) (sealM (txM m G D)) e w')
theorem write_all (m : Ms) (G : List (Int × Int)) (D : List Int) (w : World) (hk : (Lit.int .i64 m.k).wf = true) (hm : MsM w m G D) : Calls Try.prog 9 #[m.V] w fun e w' => WaP w m G D e w' := by
  cases hi : isKd m.k
  · refine (write_unknown m w hk hi).mono ?_
    rintro e w' q
    exact ⟨fun _ => q, (fun h => by unfold mayW at h; rw [hi] at h; cases h)⟩
  · obtain ⟨a, b, c, d, hf⟩ := kdF_any m G D w hi hm
    cases hy : myM m G
    · refine (write_refused m G D w a b c d hf hk hi hy).mono ?_
      rintro e w' q
      exact ⟨fun _ => q, (fun h => by unfold mayW at h; rw [hi, hy] at h; cases h)⟩
    · refine (write_yes m G D w a b c d hf hk hi hy hm.bo).mono ?_
      rintro e w' q
      exact ⟨(fun h => by unfold mayW at h; rw [hi, hy] at h; cases h), fun _ => q⟩
end Go.Proofs.Ytaibojmaghmfnaa
