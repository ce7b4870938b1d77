/- Samples into bytes: one sample. -/
import Derived.Test.YtbjoalgglmalnaaDoorPxA
import Derived.Deep.RegionHeld3
import Derived.StillTail
namespace Go.Proofs.YtbjoalgglmalnaaDoor
open Go.RowKit
set_option maxHeartbeats 800000 in
theorem place_any (i d A o : Nat) (w : World) (h : i * d = 8 * A + o) (ho : o < 8) (hd : d ≤ 8) (hi : i ≤ 1125899906842624) : Calls Tryd.prog 38 #[.int .i64 i, .int .i64 d] w fun e w' => e = .returned (.tuple #[.int .i64 A, .int .i64 ((8 : Int) - d - o)]) ∧ w' = w := by
  have hid : i * d ≤ 1125899906842624 * 8 := Nat.mul_le_mul hi hd
  obtain ⟨M, hM⟩ : ∃ M, i * d = M := ⟨_, rfl⟩
  have hMi : (i : Int) * (d : Int) = (M : Int) := by rw [← hM]; simp
  rw [hM] at h hid
  have hq : (M : Int).tdiv 8 = (A : Int) := by rw [Int.tdiv_eq_ediv_of_nonneg (by omega)]; omega
  have hr : (M : Int).tmod 8 = (o : Int) := by rw [Int.tmod_eq_emod_of_nonneg (by omega)]; omega
  have hA : A ≤ 1125899906842624 := by omega
  clear h hM
  go_enter Tryd.func38, Tryd.ntmps38
  go_wp2
  go_ret2
  exact ⟨rfl, rfl⟩
/-- The bytes, a sample put among them. -/
def putL (d i : Nat) (v : Int) (B : List Int) : List Int :=
  if d = 16 then (B.set (2 * i) (v / 256)).set (2 * i + 1) (v % 256) else B.set (i * d / 8) (B[i * d / 8]?.getD 0 + v * 2 ^ (8 - d - i * d % 8))
def PutPost (w : World) (base g m : Nat) (B : List Int) (e : Ending) (w' : World) : Prop := e = .returned (.tuple #[]) ∧ w'.ownsRow base 5 1 (.slice (some ⟨g, 0, none⟩) m m) m (vals B) ∧ w.grownBy w' (some g)
theorem own_set8 {w : World} {base g m : Nat} {B : List Int} (h : w.ownsRow base 5 1 (.slice (some ⟨g, 0, none⟩) m m) m (vals B)) (k : Nat) (v : Int) : (w.setCell ⟨g, k, none⟩ (.int .u8 v)).ownsRow base 5 1 (.slice (some ⟨g, 0, none⟩) m m) m (vals (B.set k v)) ∧ w.grownBy (w.setCell ⟨g, k, none⟩ (.int .u8 v)) (some g) := by
  have k1 := h.stored k (.int .u8 v)
  have e : (vals B).set k (.int .u8 v) = vals (B.set k v) := by simp [vals, List.map_set]
  rw [e] at k1
  exact ⟨k1.1, k1.2⟩
theorem own_at8 {w : World} {base g m : Nat} {B : List Int} (h : w.ownsRow base 5 1 (.slice (some ⟨g, 0, none⟩) m m) m (vals B)) {k : Nat} (hk : k < m) (hB : B.length = m) : w.cell? ⟨g, k, none⟩ = some (.int .u8 (B[k]?.getD 0)) ∧ w.frozen? ⟨g, k, none⟩ = false := by
  refine ⟨?_, h.frozenAt k⟩
  rw [h.cellAt k (by omega), vals_at B k (by omega)]
theorem u8_or_add {x y : Int} (k : Nat) (hx : 0 ≤ x) (hx2 : x < 256) (hy : 0 ≤ y) (hy2 : y < 256) (hm : x % 2 ^ k = 0) (hl : y < 2 ^ k) : bits .or .u8 x y = x + y := by
  have e : ((2 ^ k : Nat) : Int) = (2 : Int) ^ k := by rw [Int.natCast_pow]; rfl
  rw [← e] at hm hl
  obtain ⟨X, rfl⟩ := Int.eq_ofNat_of_zero_le hx
  have hm2 : X % 2 ^ k = 0 := by
    have : ((X % 2 ^ k : Nat) : Int) = 0 := by rw [Int.natCast_emod]; exact hm
    omega
  rw [u8_or _ y hx hx2 hy hy2, Int.toNat_natCast, nat_join k _ _ hm2 (by omega)]
  omega
set_option maxHeartbeats 1600000 in
theorem put16_any (i m : Nat) (v : Int) (base g : Nat) (B : List Int) (w : World) (hm : 2 * i + 1 < m) (hm2 : m ≤ 140737488351232) (hB : B.length = m) (hv : 0 ≤ v) (hv2 : v < 65536) (h : w.ownsRow base 5 1 (.slice (some ⟨g, 0, none⟩) m m) m (vals B)) :
    Calls Tryd.prog 26 #[.slice (some ⟨g, 0, none⟩) m m, .int .i64 i, .int .i64 16, .int .i64 v] w fun e w' => PutPost w base g m (putL 16 i v B) e w' := by
  have k1 := own_at8 h (k := 2 * i) (by omega) hB
  have k2 := own_at8 h (k := 2 * i + 1) hm hB
  have s1 := own_set8 h (2 * i) (v / 256)
  have s2 := own_set8 s1.1 (2 * i + 1) (v % 256)
  have HF : Hid (PutPost w base g m (putL 16 i v B) (.returned (.tuple #[])) ((w.setCell ⟨g, 2 * i, none⟩ (.int .u8 (v / 256))).setCell ⟨g, 2 * i + 1, none⟩ (.int .u8 (v % 256)))) := by
    refine ⟨rfl, s2.1, ?_⟩
    exact ⟨s2.2.os.trans s1.2.os, s2.2.tape.trans s1.2.tape, s2.2.output.trans s1.2.output, Nat.le_trans s1.2.size s2.2.size, fun j hj hr => (s2.2.block j (Nat.lt_of_lt_of_le hj s1.2.size) hr).trans (s1.2.block j hj hr)⟩
  obtain ⟨k1, f1⟩ := k1
  obtain ⟨k2, f2⟩ := k2
  obtain ⟨J, hJ⟩ : ∃ J, 2 * i = J := ⟨_, rfl⟩
  have hJi : (2 : Int) * (i : Int) = (J : Int) := by omega
  rw [hJ] at k1 k2 f1 f2 HF hm
  have hd1 : v / 256 % 256 = v / 256 := by omega
  clear s1 s2 h hJ
  go_enter Tryd.func26, Tryd.ntmps26
  go_wp2
  exact bodyPost_ret (results_none rfl _ _ _) rfl HF.out
set_option maxHeartbeats 1600000 in
theorem put8_any (i d A o k m : Nat) (v : Int) (base g : Nat) (B : List Int) (w : World) (hid : i * d = 8 * A + o) (ho : o < 8) (hd : d ≤ 8) (hk : k + d + o = 8) (hm : A < m) (hB : B.length = m) (hv : 0 ≤ v) (hv2 : v * 2 ^ k < 256) (hi : i ≤ 1125899906842624)
    (hor : bits .or .u8 (B[A]?.getD 0) (v * 2 ^ k) = B[A]?.getD 0 + v * 2 ^ k) (h : w.ownsRow base 5 1 (.slice (some ⟨g, 0, none⟩) m m) m (vals B)) :
    Calls Tryd.prog 26 #[.slice (some ⟨g, 0, none⟩) m m, .int .i64 i, .int .i64 d, .int .i64 v] w fun e w' => PutPost w base g m (putL d i v B) e w' := by
  have CP := place_any i d A o w hid ho hd hi
  have k1 := own_at8 h (k := A) hm hB
  have s1 := own_set8 (w := w.drew) h A (B[A]?.getD 0 + v * 2 ^ k)
  have HF : Hid (PutPost w base g m (putL d i v B) (.returned (.tuple #[])) (w.drew.setCell ⟨g, A, none⟩ (.int .u8 (B[A]?.getD 0 + v * 2 ^ k)))) := by
    refine ⟨rfl, ?_, ⟨s1.2.os, s1.2.tape, s1.2.output, s1.2.size, s1.2.block⟩⟩
    have e1 : i * d / 8 = A := by omega
    have e2 : 8 - d - i * d % 8 = k := by omega
    unfold putL
    rw [if_neg (by omega), e1, e2]
    exact s1.1
  obtain ⟨k1, f1⟩ := k1
  have hkk : (8 : Int) - (d : Int) - (o : Int) = (k : Int) := by omega
  rw [hkk] at CP
  have hv0 : 0 ≤ v * 2 ^ k := Int.mul_nonneg hv (Int.pow_nonneg (by omega))
  obtain ⟨V, hV⟩ : ∃ V, v * 2 ^ k = V := ⟨_, rfl⟩
  rw [hV] at hv2 hv0 hor HF
  generalize B[A]?.getD 0 = Y at *
  have hk7 : (k : Int) ≤ 8 := by omega
  have hw1 : IntKind.i64.wrap V = V := by rw [IntKind.wrap_i64]; omega
  have hw2 : IntKind.u8.wrap V = V := by rw [IntKind.wrap_u8]; omega
  have hd16 : ((d : Int) == 16) = false := by simp; omega
  clear s1 h hkk hid
  go_enter Tryd.func26, Tryd.ntmps26
  go_wp2_with fail
  refine CP.mono ?_
  rintro e w1 ⟨rfl, rfl⟩
  clear CP
  go_wp2
  refine wp_region_still_tail 10 (by kernel_rfl) (by kernel_rfl) ?_
  simp only [List.take_succ_cons, List.take_zero, List.drop_succ_cons, List.drop_zero]
  rw [show ({ w1 with drawn := w1.drawn + 1 } : World) = w1.drew from rfl]
  repeat still_step
  refine wpStill_nil ?_
  go_wp2
  go_end0
  exact HF.out
/-- The bytes behind the first samples. -/
def pkP (d : Nat) (s : List Int) (m : Nat) : Nat → List Int
  | 0 => List.replicate m 0
  | i + 1 => putL d i (s[i]?.getD 0) (pkP d s m i)
theorem putL_len (d i : Nat) (v : Int) (B : List Int) : (putL d i v B).length = B.length := by unfold putL; split <;> simp
theorem pkP_len (d : Nat) (s : List Int) (m i : Nat) : (pkP d s m i).length = m := by
  induction i with
  | zero => simp [pkP]
  | succ i ih => rw [pkP, putL_len, ih]
/-- What is known of the bytes so far: behind the first bits all is nought. -/
structure PkI (d i : Nat) (B : List Int) : Prop where
  bt : ∀ j : Nat, 0 ≤ B[j]?.getD 0 ∧ B[j]?.getD 0 < 256
  zr : ∀ j : Nat, i * d ≤ 8 * j → B[j]?.getD 0 = 0
  lo : B[i * d / 8]?.getD 0 % 2 ^ (8 - i * d % 8) = 0
theorem pkI_zero (d m : Nat) : PkI d 0 (List.replicate m 0) := by
  have e : ∀ j : Nat, ((List.replicate m (0 : Int))[j]?).getD (0 : Int) = (0 : Int) := fun j => by
    by_cases h : j < m
    · simp [h]
    · rw [List.getElem?_eq_none (by simp; omega)]; rfl
  exact ⟨fun j => by rw [e]; omega, fun j _ => e j, by rw [e]; simp⟩
theorem set_at (B : List Int) (k : Nat) (v : Int) (hk : k < B.length) (j : Nat) : (B.set k v)[j]?.getD 0 = if j = k then v else B[j]?.getD 0 := by
  rw [List.getElem?_set]
  by_cases h : k = j
  · subst h; simp [hk]
  · rw [if_neg h, if_neg (fun e => h e.symm)]
theorem pkI_step8 {d i : Nat} {v : Int} {B : List Int} (hd : d = 1 ∨ d = 2 ∨ d = 4 ∨ d = 8) (h : PkI d i B) (hl : i * d / 8 < B.length) (hv : 0 ≤ v) (hv2 : v < 2 ^ d) :
    PkI d (i + 1) (putL d i v B) ∧ bits .or .u8 (B[i * d / 8]?.getD 0) (v * 2 ^ (8 - d - i * d % 8)) = B[i * d / 8]?.getD 0 + v * 2 ^ (8 - d - i * d % 8) ∧ v * 2 ^ (8 - d - i * d % 8) < 256 := by
  have hb := h.bt (i * d / 8)
  have hlo := h.lo
  have hz := h.zr (i * d / 8 + 1)
  obtain ⟨A, hA⟩ : ∃ A, i * d / 8 = A := ⟨_, rfl⟩
  obtain ⟨o, ho⟩ : ∃ o, i * d % 8 = o := ⟨_, rfl⟩
  have hid : i * d = 8 * A + o := by omega
  have hid1 : (i + 1) * d = 8 * A + o + d := by rw [Nat.add_mul, hid]; omega
  have ho8 : o < 8 := by omega
  have hod : o % d = 0 ∧ o + d ≤ 8 := by
    rcases hd with rfl | rfl | rfl | rfl <;> omega
  unfold putL
  rw [if_neg (by omega), hA, ho]
  rw [hA] at hb hlo hl hz
  rw [ho] at hlo
  have key : (B[A]?.getD 0 + v * 2 ^ (8 - d - o)) % 2 ^ (8 - d - o) = 0 ∧ 0 ≤ v * 2 ^ (8 - d - o) ∧ v * 2 ^ (8 - d - o) < 2 ^ (8 - o) ∧ B[A]?.getD 0 + v * 2 ^ (8 - d - o) < 256 ∧ (2 : Int) ^ (8 - o) ≤ 256 := by
    generalize B[A]?.getD 0 = y at *
    have cs : (d = 1 ∧ (o = 0 ∨ o = 1 ∨ o = 2 ∨ o = 3 ∨ o = 4 ∨ o = 5 ∨ o = 6 ∨ o = 7)) ∨ (d = 2 ∧ (o = 0 ∨ o = 2 ∨ o = 4 ∨ o = 6)) ∨ (d = 4 ∧ (o = 0 ∨ o = 4)) ∨ (d = 8 ∧ o = 0) := by
      rcases hd with rfl | rfl | rfl | rfl <;> omega
    rcases cs with ⟨rfl, q⟩ | ⟨rfl, q⟩ | ⟨rfl, q⟩ | ⟨rfl, rfl⟩
    · rcases q with rfl | rfl | rfl | rfl | rfl | rfl | rfl | rfl <;> simp at * <;> omega
    · rcases q with rfl | rfl | rfl | rfl <;> simp at * <;> omega
    · rcases q with rfl | rfl <;> simp at * <;> omega
    · simp at *; omega
  refine ⟨⟨fun j => ?_, fun j hj => ?_, ?_⟩, u8_or_add (8 - o) hb.1 hb.2 key.2.1 (by omega) hlo key.2.2.1, by omega⟩
  · rw [set_at B A _ hl]
    split
    · omega
    · exact h.bt j
  · rw [set_at B A _ hl, if_neg (by omega)]
    exact h.zr j (by omega)
  · rw [hid1]
    by_cases e : o + d = 8
    · have e1 : (8 * A + o + d) / 8 = A + 1 := by omega
      have e2 : (8 * A + o + d) % 8 = 0 := by omega
      rw [e1, e2, set_at B A _ hl, if_neg (by omega), hz (by omega)]; simp
    · have e1 : (8 * A + o + d) / 8 = A := by omega
      have e2 : 8 - (8 * A + o + d) % 8 = 8 - d - o := by omega
      rw [e1, e2, set_at B A _ hl, if_pos rfl]; exact key.1
end Go.Proofs.YtbjoalgglmalnaaDoor
