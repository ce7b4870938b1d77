/- A number's bytes, the highest first: the program's and the reference's (the walks of OpC and Rp1); the reference's Number (Oq0). -/
import Derived.Test.YticdpibaojhpiaaDoorOcB
import Derived.Test.YticdpibaojhpiaaDoorCpB
namespace Go.Proofs.YticdpibaojhpiaaDoor
open Go.RowKit

/-- Bytes of the call's own. -/
def NewS (w : World) (zs : List Int) (e : Ending) (w' : World) : Prop :=
  ∃ a c g, e = .returned (.slice a zs.length c) ∧ Sl w' 5 (.slice a zs.length c) g (vals zs) ∧ (∀ k, g = some k → w.heap.size ≤ k) ∧ Below w.heap.size w w'
theorem newS_of_owns {w w' : World} {v : Value} {n : Nat} {zs : List Int} (h : w'.ownsRow w.heap.size 5 1 v n (vals zs)) (hb : Below w.heap.size w w') : NewS w zs (.returned v) w' := by
  obtain ⟨g, hs, hg⟩ := Sl.of_owns h
  obtain ⟨a, cap, rfl, h1, h2, h3⟩ := hs.shape
  rw [vals_len] at hs ⊢
  exact ⟨a, cap, g, rfl, hs, hg, hb⟩



theorem vals_setO (l : List Int) (j : Nat) (x : Int) : vals (l.set j x) = (vals l).set j (.int .u8 x) := by simp [vals, List.map_set]
def oct (v : Int) (i : Nat) : Int := v / 256 ^ i % 256
def octs (v : Int) (n : Nat) : List Int := (List.range n).map (oct v)
def put8 (n : Int) : Nat := (min (max n 0) 8).toNat
theorem put8_le (n : Int) : put8 n ≤ 8 := by unfold put8; omega
theorem oct_byte (v : Int) (i : Nat) : 0 ≤ oct v i ∧ oct v i < 256 := by unfold oct; omega

theorem oct_prog (v : Int) (i : Nat) (hi : i ≤ 7) : IntKind.u64.wrap v / 2 ^ (8 * i) % 256 = oct v i := by
  unfold oct
  rw [IntKind.wrap_u64]
  match i, hi with
  | 0, _ => simp
  | 1, _ => simp; omega
  | 2, _ => simp; omega
  | 3, _ => simp; omega
  | 4, _ => simp; omega
  | 5, _ => simp; omega
  | 6, _ => simp; omega
  | 7, _ => simp; omega

set_option maxHeartbeats 400000 in
theorem within_any (n : Int) (w : World) : Calls Tryd.prog 42 #[.int .i64 n] w fun e w' => e = .returned (.int .i64 (put8 n)) ∧ w' = w := by
  by_cases h1 : n < 0
  · have h : ((put8 n : Nat) : Int) = 0 := by unfold put8; omega
    rw [h]
    clear h
    go_enter Tryd.func42, Tryd.ntmps42
    go_wp2
    go_ret
    exact ⟨rfl, rfl⟩
  · by_cases h2 : n ≤ 8
    · have h : ((put8 n : Nat) : Int) = n := by unfold put8; omega
      rw [h]
      clear h
      have h3 : (if n < 0 then (0 : Int) else n) = n := by rw [if_neg h1]
      go_enter Tryd.func42, Tryd.ntmps42
      go_wp2
      go_ret
      exact ⟨rfl, rfl⟩
    · have h : ((put8 n : Nat) : Int) = 8 := by unfold put8; omega
      rw [h]
      clear h
      go_enter Tryd.func42, Tryd.ntmps42
      go_wp2
      go_ret
      exact ⟨rfl, rfl⟩
set_option maxHeartbeats 400000 in
theorem octet_any (v : Int) (i : Nat) (w : World) (hi : i ≤ 7) : Calls Tryd.prog 43 #[.int .i64 v, .int .i64 i] w fun e w' => e = .returned (.int .u8 (oct v i)) ∧ w' = w := by
  rw [← oct_prog v i hi]
  go_enter Tryd.func43, Tryd.ntmps43
  go_wp2
  go_ret
  exact ⟨rfl, rfl⟩

def litP (v : Int) (m k : Nat) : List Int := (List.range m).map fun i => if i < k then oct v i else 0
def bigP (v : Int) (m k : Nat) : List Int := (List.range m).map fun j => if m ≤ j + k then oct v (m - 1 - j) else 0
theorem litP_zero (v : Int) (m : Nat) : litP v m 0 = List.replicate m 0 := by
  apply List.ext_getElem?; intro i; by_cases h : i < m <;> simp [litP, h]
theorem bigP_zero (v : Int) (m : Nat) : bigP v m 0 = List.replicate m 0 := by
  apply List.ext_getElem?; intro i
  by_cases h : i < m
  · have h2 : ¬ m ≤ i := by omega
    simp [bigP, h, h2]
  · simp [bigP, h]
theorem litP_step (v : Int) (m k : Nat) (hk : k < m) : (litP v m k).set k (oct v k) = litP v m (k + 1) := by
  apply List.ext_getElem?; intro i
  rw [List.getElem?_set]
  by_cases h : k = i
  · subst h; simp [litP, hk]
  · by_cases h1 : i < m
    · by_cases h2 : i < k
      · have h3 : i < k + 1 := by omega
        simp [litP, h, h1, h2, h3]
      · have h3 : ¬ i < k + 1 := by omega
        simp [litP, h, h1, h2, h3]
    · simp [litP, h, h1]
theorem bigP_step (v : Int) (m k : Nat) (hk : k < m) : (bigP v m k).set (m - 1 - k) (oct v k) = bigP v m (k + 1) := by
  apply List.ext_getElem?; intro i
  rw [List.getElem?_set]
  by_cases h : m - 1 - k = i
  · subst h
    have h1 : m - 1 - k < m := by omega
    have h2 : m ≤ m - 1 - k + (k + 1) := by omega
    have h3 : m - 1 - (m - 1 - k) = k := by omega
    simp [bigP, h1, h2, h3]
  · by_cases h1 : i < m
    · by_cases h2 : m ≤ i + k
      · have h3 : m ≤ i + (k + 1) := by omega
        simp [bigP, h, h1, h2, h3]
      · have h3 : ¬ m ≤ i + (k + 1) := by omega
        simp [bigP, h, h1, h2, h3]
    · simp [bigP, h, h1]
theorem litP_full (v : Int) (m : Nat) : litP v m m = octs v m := by
  apply List.ext_getElem?; intro i; by_cases h : i < m <;> simp [litP, octs, h]
theorem bigP_full (v : Int) (m : Nat) : bigP v m m = (octs v m).reverse := by
  apply List.ext_getElem?; intro i
  by_cases h : i < m
  · rw [List.getElem?_reverse (by simpa [octs] using h)]
    have h2 : m - 1 - i < m := by omega
    simp [bigP, octs, h, h2]
  · rw [List.getElem?_eq_none (by simp [bigP]; omega), List.getElem?_eq_none (by simp [octs]; omega)]
theorem made_vals (m : Nat) : (madeCells #[Value.int .u8 0] m).toList = vals (List.replicate m 0) := by
  rw [toList_madeCells_one]; simp [vals]

/-- One store into a row of the call's own. -/
theorem store_step {w wr : World} {B g m j : Nat} {l l' : List Int} {x : Int} (hown : wr.ownsRow B 5 1 (.slice (some ⟨g, 0, none⟩) m m) m (vals l)) (hbel : Below B w wr) (hw : B ≤ w.heap.size) (hl : l.set j x = l') :
    (wr.setCell ⟨g, j, none⟩ (.int .u8 x)).ownsRow B 5 1 (.slice (some ⟨g, 0, none⟩) m m) m (vals l') ∧ Below B w (wr.setCell ⟨g, j, none⟩ (.int .u8 x)) := by
  have h := hown.stored j (.int .u8 x)
  refine ⟨by rw [← hl, vals_setO]; exact h.1, hbel.grown h.2 (by have := hbel.size; omega) fun k hk => (hown.lt k hk).1⟩
theorem own_cell {wr : World} {B g m j : Nat} {l : List Int} (hown : wr.ownsRow B 5 1 (.slice (some ⟨g, 0, none⟩) m m) m (vals l)) (hj : j < m) : wr.cell? ⟨g, j, none⟩ = some (.int .u8 (l[j]?.getD 0)) := by
  rw [hown.cellAt j (by omega)]
  have hl : l.length = m := by have := hown.1; simpa [vals] using this
  simp [vals, show j < l.length by omega]

set_option maxHeartbeats 800000 in
theorem putBig_any (n v : Int) (w : World) : Calls Tryd.prog 34 #[.int .i64 n, .int .i64 v] w fun e w' => NewS w (octs v (put8 n)).reverse e w' := by
  have C := within_any n w
  have hm := put8_le n
  generalize put8 n = m at *
  obtain ⟨B, hB⟩ : ∃ B, B = w.heap.size := ⟨_, rfl⟩
  have HB : Hid (B = w.heap.size) := hB
  clear hB
  obtain ⟨i0, hi, hz0, hz1, hz2⟩ := info_parts Tryd.info5
  go_enter Tryd.func34, Tryd.ntmps34
  go_wp2_with fail
  refine C.mono ?_
  clear C
  rintro e w1 ⟨rfl, rfl⟩
  go_wp2_with (at_make; refine wpList_make_full _ rfl _ _ 27 rfl B 5 i0 (.int .u8 0) 1 Tryd.underlying27 hi hz0 hz1 .i64 .i64 _ _ m rfl rfl rfl rfl ?b2 ?b3 ?b4 ?_)
  case b2 => rw [hz2]; omega
  case b3 => unfold maxLen; omega
  case b4 => rw [HB.out]; exact Nat.le_refl _
  intro w2 hown hgrow
  rw [made_vals] at hown
  have hbel : Below B w1 w2 := (Below.refl _ _).grown hgrow (by rw [HB.out]; exact Nat.le_refl _) (fun k hk => by cases hk)
  obtain ⟨g, hg⟩ : ∃ g, g = w1.heap.size := ⟨_, rfl⟩
  rw [← hg]
  rw [← hg] at hown
  clear hg hgrow
  go_wp2
  go_loopw [6, 12] (fun _ c wr => ∃ k : Nat, k ≤ m ∧ c = .int .i64 k ∧ wr.ownsRow B 5 1 (.slice (some ⟨g, 0, none⟩) m m) m (vals (bigP v m k)) ∧ Below B w1 wr) (fun _ c _ => m - (intOf c).toNat)
  case atStart => exact ⟨0, Nat.zero_le _, rfl, by rw [bigP_zero]; exact hown, hbel⟩
  case round =>
    clear hown hbel
    obtain ⟨k, hk, rfl, hown, hbel⟩ := hrel
    by_cases hlt : k < m
    · have hcell := own_cell hown (show m - 1 - k < m by omega)
      have hfz := hown.frozenAt (m - 1 - k)
      have R := store_step hown hbel (by rw [HB.out]; exact Nat.le_refl _) (bigP_step v m k hlt)
      have HR : Hid _ := R
      clear R hown hbel
      go_wp2_with (go_at_call 43; refine (octet_any v k _ (by omega)).mono ?_; rintro e w3 ⟨rfl, rfl⟩)
      go_roundw
      case rel => exact ⟨k + 1, by omega, by go_num, HR.out.1, HR.out.2⟩
      case measure => simp [intOf]; omega
    · have : k = m := by omega
      subst this
      go_wp2
      go_ret
      rw [bigP_full] at hown
      exact newS_of_owns (by rw [← HB.out]; exact hown) (by rw [← HB.out]; exact hbel)

theorem take_rev (zs : List Int) (n j : Nat) (hn : zs.length = n) (hj : j < n) : zs.reverse.take (n - j) = zs.reverse.take (n - (j + 1)) ++ [zs[j]?.getD 0] := by
  have h := take_snoc zs.reverse (n - (j + 1)) (by simp; omega)
  rw [show n - (j + 1) + 1 = n - j from by omega, List.getElem?_reverse (by omega), show zs.length - 1 - (n - (j + 1)) = j from by omega] at h
  exact h
/-- One byte more at the end of a row of the call's own: what the loop's relation asks. -/
theorem own_step {w wr w1 : World} {B n m : Nat} {o : Obj} {v v' : Value} {l l' : List Int} {x : Int} (hw : B ≤ w.heap.size) (hown : wr.ownsRow B 5 1 v n (vals l)) (hbel : Below B w wr)
    (hown' : w1.ownsRow B 5 1 v' (n + 1) (vals l ++ [.int .u8 x])) (hgrow : (wr.alloc o).grownBy w1 v.ownBlock) (hm : n + 1 = m) (hl : l' = l ++ [x]) : w1.ownsRow B 5 1 v' m (vals l') ∧ Below B w w1 := by
  subst hm hl
  refine ⟨by rw [vals_append]; exact hown', (hbel.alloc (by have := hbel.size; omega) o).grown hgrow (by have := hbel.size; simp; omega) fun k hk => (hown.lt k hk).1⟩

set_option maxHeartbeats 800000 in
theorem rturn_any (a : Option Addr) (n cap : Nat) (zs : List Int) (w : World) (hn : zs.length = n) (hl : n ≤ 140737488351232) (hr : Row w a zs) :
    Calls Tryd.prog 44 #[.slice a n cap] w fun e w' => NewS w zs.reverse e w' := by
  obtain ⟨B, hB⟩ : ∃ B, B = w.heap.size := ⟨_, rfl⟩
  have HB : Hid (B = w.heap.size) := hB
  clear hB
  have HN : Hid (zs.length = n) := hn
  clear hn
  rcases hr with rfl | ⟨b, off, rfl, hc⟩
  · have hn := HN.out
    simp at hn
    subst hn
    go_enter Tryd.func44, Tryd.ntmps44
    go_wp2
    go_loop [3, 4] (fun v i => v = .slice none 0 0 ∧ i = .int .i64 (-1)) (fun _ _ => 0)
    case atStart => exact ⟨rfl, rfl⟩
    case round =>
      obtain ⟨rfl, rfl⟩ := hrel
      go_wp2
      go_ret
      exact ⟨none, 0, none, rfl, Sl.nil _ _, (by intro k hk; cases hk), Below.refl _ _⟩
  · obtain ⟨i0, hi, hz0, hz1, hz2⟩ := info_parts Tryd.info5
    have hbB : zs ≠ [] → b < B := by
      intro hz
      have := cell_lt (hc 0 (List.length_pos_iff.2 hz))
      rw [HB.out]; exact this
    go_enter Tryd.func44, Tryd.ntmps44
    go_wp2
    go_loopw [3, 4] (fun v i wr => ∃ j : Nat, j ≤ n ∧ i = .int .i64 ((j : Int) - 1) ∧ wr.ownsRow B 5 1 v (n - j) (vals (zs.reverse.take (n - j))) ∧ Below B w wr) (fun _ i _ => (intOf i + 1).toNat)
    case atStart => exact ⟨n, Nat.le_refl _, by go_num, by rw [Nat.sub_self]; exact World.ownsRow_nil _ _ _ _, Below.refl _ _⟩
    case round =>
      obtain ⟨j, hj, rfl, hown, hbel⟩ := hrel
      cases j with
      | zero =>
        go_wp2
        go_ret
        rw [Nat.sub_zero, List.take_of_length_le (by have := HN.out; simp; omega)] at hown
        exact newS_of_owns (by rw [← HB.out]; exact hown) (by rw [← HB.out]; exact hbel)
      | succ j =>
        rw [show ((j + 1 : Nat) : Int) - 1 = (j : Int) from by omega]
        have hck : wr.cell? ⟨b, off + j, none⟩ = some (.int .u8 (zs[j]?.getD 0)) := (hbel.cell (hbB (by intro h; have := HN.out; rw [h] at this; simp at this; omega))).trans (hc j (by have := HN.out; omega))
        go_wp2_with (first
          | (at_builtin; refine wpList_append_own _ rfl _ _ 27 rfl B 5 i0 (.int .u8 0) 1 1 Tryd.underlying27 hi hz0 hz1 hz2 rfl (by decide) _ _ _ rfl (hown.alloc _) ⟨wr.heap.size, 0, none⟩ 1 1 [.int .u8 (zs[j]?.getD 0)] rfl rfl ?c1 ?c2 ?c3 ?c4 ?c5 ?_)
          | go_in)
        case c1 => exact (cell_one_new _ _ _)
        case c2 => intro u hu; simp at hu; subst hu; rfl
        case c3 => unfold maxLen; omega
        case c4 => omega
        case c5 => have := hbel.size; have := HB.out; simp; omega
        intro v' w1 hown' hgrow _
        have R := own_step (by rw [HB.out]; exact Nat.le_refl _) hown hbel hown' hgrow (show n - (j + 1) + 1 = n - j by omega) (take_rev zs n j HN.out (by omega))
        clear hown hbel hown' hgrow hck
        go_wp2
        go_roundw
        case rel => exact ⟨j, by omega, by go_num, R.1, R.2⟩
        case measure => simp [intOf]
theorem i64_and255 (n : Int) : bits .and .i64 n 255 = n % 256 := by
  have h255 : (BitVec.ofInt 64 255).toNat = 2 ^ 8 - 1 := by decide
  have key : (BitVec.ofInt 64 n &&& BitVec.ofInt 64 255).toNat = (n % ((2 ^ 64 : Nat) : Int)).toNat % 2 ^ 8 := by
    rw [BitVec.toNat_and, BitVec.toNat_ofInt, h255, Nat.and_two_pow_sub_one_eq_mod]
  show IntKind.i64.wrap ((BitVec.ofInt 64 n &&& BitVec.ofInt 64 255).toNat : Nat) = n % 256
  rw [key, IntKind.wrap_i64]
  omega
theorem octs_snoc (v : Int) (k : Nat) : octs v (k + 1) = octs v k ++ [oct v k] := by simp [octs, List.range_succ]
theorem put8_lt (n : Int) (k : Nat) : k < put8 n ↔ (k : Int) < n ∧ (k : Int) < 8 := by unfold put8; omega

set_option maxHeartbeats 800000 in
theorem refPutLittle_any (n v : Int) (w : World) : Calls Tryd.prog 45 #[.int .i64 n, .int .i64 v] w fun e w' => NewS w (octs v (put8 n)) e w' := by
  have hm := put8_le n
  have HL : Hid (∀ k : Nat, k < put8 n ↔ (k : Int) < n ∧ (k : Int) < 8) := put8_lt n
  generalize put8 n = m at *
  obtain ⟨B, hB⟩ : ∃ B, B = w.heap.size := ⟨_, rfl⟩
  have HB : Hid (B = w.heap.size) := hB
  clear hB
  obtain ⟨i0, hi, hz0, hz1, hz2⟩ := info_parts Tryd.info5
  go_enter Tryd.func45, Tryd.ntmps45
  go_wp2
  go_loopw [1, 5, 6] (fun x o c wr => ∃ k : Nat, k ≤ m ∧ c = .int .i64 k ∧ x = .int .i64 (v / 256 ^ k) ∧ wr.ownsRow B 5 1 o k (vals (octs v k)) ∧ Below B w wr) (fun _ _ c _ => m - (intOf c).toNat)
  case atStart => exact ⟨0, Nat.zero_le _, rfl, by simp, World.ownsRow_nil _ _ _ _, Below.refl _ _⟩
  case round =>
    obtain ⟨k, hk, rfl, rfl, hown, hbel⟩ := hrel
    have HK := (HL.out k)
    have hk8 : k ≤ 8 := by omega
    by_cases hlt : k < m
    · obtain ⟨h1, h2⟩ := HK.1 hlt
      clear HK
      have HO : Hid (bits .and .i64 (v / 256 ^ k) 255 = oct v k) := i64_and255 _
      have hob := oct_byte v k
      generalize hx : v / 256 ^ k = x at *
      have HX : Hid _ := hx
      clear hx
      have hbits := HO.out
      go_wp2_with (first
          | (at_builtin; refine wpList_append_own _ rfl _ _ 27 rfl B 5 i0 (.int .u8 0) 1 1 Tryd.underlying27 hi hz0 hz1 hz2 rfl (by decide) _ _ _ rfl (hown.alloc _) ⟨wr.heap.size, 0, none⟩ 1 1 [.int .u8 (oct v k)] rfl rfl ?c1 ?c2 ?c3 ?c4 ?c5 ?_)
          | go_in)
      case c1 => exact (cell_one_new _ _ _)
      case c2 => intro u hu; simp at hu; subst hu; rfl
      case c3 => unfold maxLen; omega
      case c4 => omega
      case c5 => have := hbel.size; have := HB.out; simp; omega
      intro v' w1 hown' hgrow _
      have R := own_step (by rw [HB.out]; exact Nat.le_refl _) hown hbel hown' hgrow rfl (octs_snoc v k)
      clear hown hbel hown' hgrow
      go_wp2
      go_roundw
      case rel => exact ⟨k + 1, by omega, by go_num, by rw [← HX.out, Int.pow_succ, Int.ediv_ediv_of_nonneg (by have := pow_256_pos k; omega)], R.1, R.2⟩
      case measure => simp [intOf]; omega
    · have : k = m := by omega
      subst this
      have h1 : ¬ ((k : Int) < n ∧ (k : Int) < 8) := fun h => hlt (HK.2 h)
      by_cases h2 : (k : Int) < n
      · have h3 : 8 ≤ (k : Int) := by omega
        clear HK h1
        go_wp2
        go_ret
        exact newS_of_owns (by rw [← HB.out]; exact hown) (by rw [← HB.out]; exact hbel)
      · clear HK h1
        go_wp2
        go_ret
        exact newS_of_owns (by rw [← HB.out]; exact hown) (by rw [← HB.out]; exact hbel)

set_option maxHeartbeats 800000 in
theorem refPutBig_any (n v : Int) (w : World) : Calls Tryd.prog 35 #[.int .i64 n, .int .i64 v] w fun e w' => NewS w (octs v (put8 n)).reverse e w' := by
  have C := refPutLittle_any n v w
  have HL : Hid ((octs v (put8 n)).length ≤ 8) := by simp [octs]; exact put8_le n
  generalize octs v (put8 n) = l at *
  go_enter Tryd.func35, Tryd.ntmps35
  go_wp2_with fail
  refine C.mono ?_
  clear C
  rintro e w1 ⟨a1, cap1, g1, rfl, g2, g3, g4⟩
  go_wp2_with fail
  refine (rturn_any a1 _ cap1 l _ rfl (by have := HL.out; omega) (g2.row rfl)).mono ?_
  rintro e w2 ⟨a2, cap2, g5, rfl, f1, f2, f4⟩
  have hB : Below w.heap.size w w2 := g4.trans (f4.mono g4.size)
  have hg : ∀ k, g5 = some k → w.heap.size ≤ k := fun k hk => Nat.le_trans g4.size (f2 k hk)
  clear g2 g3 f2
  go_wp2
  go_ret
  exact ⟨a2, cap2, g5, by simp, f1, hg, hB⟩


set_option maxHeartbeats 400000 in
theorem rnum_any (a : Option Addr) (n cap : Nat) (zs : List Int) (w : World) (hn : zs.length = n) (h4 : n ≤ 4) (hb : Bytes zs) (hr : Row w a zs) :
    Calls Tryd.prog 33 #[.slice a n cap] w fun e w' => e = .returned (.int .i64 (bigN zs)) ∧ w' = w := by
  have HN : Hid (zs.length = n) := hn
  have HB : Hid (Bytes zs) := hb
  rcases hr with rfl | ⟨b, off, rfl, hc⟩
  · simp at hn
    subst hn
    clear h4 hb
    go_enter Tryd.func33, Tryd.ntmps33
    go_wp2
    go_loop [3, 4] (fun v i => v = .int .i64 0 ∧ i = .int .i64 0) (fun _ _ => 0)
    case atStart => exact ⟨rfl, rfl⟩
    case round =>
      obtain ⟨rfl, rfl⟩ := hrel
      go_wp2
      go_ret
      exact ⟨ret_int rfl, rfl⟩
  · clear hn hb
    go_enter Tryd.func33, Tryd.ntmps33
    go_wp2
    go_loop [3, 4] (fun v i => ∃ k : Nat, k ≤ n ∧ i = .int .i64 k ∧ v = .int .i64 (bigN (zs.take k))) (fun _ i => n - (intOf i).toNat)
    case atStart => exact ⟨0, Nat.zero_le _, rfl, rfl⟩
    case round =>
      obtain ⟨k, hk, rfl, rfl⟩ := hrel
      have hbd := bigN_le (HB.out.take k) (by simp; omega)
      by_cases hlt : k < n
      · have hck := hc k (by have := HN.out; omega)
        have hzk := HB.out.at k
        have HS : Hid (bigN (zs.take (k + 1)) = bigN (zs.take k) * 256 + (zs[k]?.getD 0)) := by rw [take_snoc zs k (by have := HN.out; omega), bigN_snoc]; trivial
        go_wp2
        go_round
        case rel => exact ⟨k + 1, by omega, by go_num, by rw [HS.out]; go_num⟩
        case measure => simp [intOf]; omega
      · go_wp2
        go_ret
        exact ⟨ret_int (by rw [List.take_of_length_le (by have := HN.out; omega)]), rfl⟩
end Go.Proofs.YticdpibaojhpiaaDoor
