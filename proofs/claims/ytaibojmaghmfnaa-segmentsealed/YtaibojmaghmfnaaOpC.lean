/- A number's bytes. -/
import Derived.Test.YtaibojmaghmfnaaOcB
import Derived.Test.YtaibojmaghmfnaaRfB
namespace Go.Proofs.Ytaibojmaghmfnaa
open Go.RowKit


theorem vals_setO (l : List Int) (j : Nat) (x : Int) : vals (l.set j x) = (vals l).set j (.int .u8 x) := by simp [vals, List.map_set]
theorem newBytes_of_owns {w w' : World} {base : Nat} {v : Value} {n : Nat} {zs : List Int} (h : w'.ownsRow base 5 1 v n (vals zs)) (hb : Below w.heap.size w w') : NewBytes w zs (.returned v) w' := by
  obtain ⟨g, hs, _⟩ := Sl.of_owns h
  obtain ⟨a, cap, rfl, h1, h2, h3⟩ := hs.shape
  rw [vals_len] at h1
  exact ⟨a, cap, by rw [vals_len], h1, h2, h3, hs.row rfl, hb⟩
def oct (v : Int) (i : Nat) : Int := v / 256 ^ i % 256
def octs (v : Int) (n : Nat) : List Int := (List.range n).map (oct v)
def put8 (n : Int) : Nat := (min (max n 0) 8).toNat
theorem put8_le (n : Int) : put8 n ≤ 8 := by unfold put8; omega
theorem oct_byte (v : Int) (i : Nat) : 0 ≤ oct v i ∧ oct v i < 256 := by unfold oct; omega

theorem oct_prog (v : Int) (i : Nat) (hi : i ≤ 7) : IntKind.u64.wrap v / 2 ^ (8 * i) % 256 = oct v i := by
  unfold oct
  rw [IntKind.wrap_u64]
  match i, hi with
  | 0, _ => simp
  | 1, _ => simp; omega
  | 2, _ => simp; omega
  | 3, _ => simp; omega
  | 4, _ => simp; omega
  | 5, _ => simp; omega
  | 6, _ => simp; omega
  | 7, _ => simp; omega

set_option maxHeartbeats 400000 in
theorem within_any (n : Int) (w : World) : Calls Try.prog 42 #[.int .i64 n] w fun e w' => e = .returned (.int .i64 (put8 n)) ∧ w' = w := by
  by_cases h1 : n < 0
  · have h : ((put8 n : Nat) : Int) = 0 := by unfold put8; omega
    rw [h]
    clear h
    go_enter Try.func42, Try.ntmps42
    go_wp2
    go_ret
    exact ⟨rfl, rfl⟩
  · by_cases h2 : n ≤ 8
    · have h : ((put8 n : Nat) : Int) = n := by unfold put8; omega
      rw [h]
      clear h
      have h3 : (if n < 0 then (0 : Int) else n) = n := by rw [if_neg h1]
      go_enter Try.func42, Try.ntmps42
      go_wp2
      go_ret
      exact ⟨rfl, rfl⟩
    · have h : ((put8 n : Nat) : Int) = 8 := by unfold put8; omega
      rw [h]
      clear h
      go_enter Try.func42, Try.ntmps42
      go_wp2
      go_ret
      exact ⟨rfl, rfl⟩
set_option maxHeartbeats 400000 in
theorem octet_any (v : Int) (i : Nat) (w : World) (hi : i ≤ 7) : Calls Try.prog 43 #[.int .i64 v, .int .i64 i] w fun e w' => e = .returned (.int .u8 (oct v i)) ∧ w' = w := by
  rw [← oct_prog v i hi]
  go_enter Try.func43, Try.ntmps43
  go_wp2
  go_ret
  exact ⟨rfl, rfl⟩

def litP (v : Int) (m k : Nat) : List Int := (List.range m).map fun i => if i < k then oct v i else 0
def bigP (v : Int) (m k : Nat) : List Int := (List.range m).map fun j => if m ≤ j + k then oct v (m - 1 - j) else 0
theorem litP_zero (v : Int) (m : Nat) : litP v m 0 = List.replicate m 0 := by
  apply List.ext_getElem?; intro i; by_cases h : i < m <;> simp [litP, h]
theorem bigP_zero (v : Int) (m : Nat) : bigP v m 0 = List.replicate m 0 := by
  apply List.ext_getElem?; intro i
  by_cases h : i < m
  · have h2 : ¬ m ≤ i := by omega
    simp [bigP, h, h2]
  · simp [bigP, h]
theorem litP_step (v : Int) (m k : Nat) (hk : k < m) : (litP v m k).set k (oct v k) = litP v m (k + 1) := by
  apply List.ext_getElem?; intro i
  rw [List.getElem?_set]
  by_cases h : k = i
  · subst h; simp [litP, hk]
  · by_cases h1 : i < m
    · by_cases h2 : i < k
      · have h3 : i < k + 1 := by omega
        simp [litP, h, h1, h2, h3]
      · have h3 : ¬ i < k + 1 := by omega
        simp [litP, h, h1, h2, h3]
    · simp [litP, h, h1]
theorem bigP_step (v : Int) (m k : Nat) (hk : k < m) : (bigP v m k).set (m - 1 - k) (oct v k) = bigP v m (k + 1) := by
  apply List.ext_getElem?; intro i
  rw [List.getElem?_set]
  by_cases h : m - 1 - k = i
  · subst h
    have h1 : m - 1 - k < m := by omega
    have h2 : m ≤ m - 1 - k + (k + 1) := by omega
    have h3 : m - 1 - (m - 1 - k) = k := by omega
    simp [bigP, h1, h2, h3]
  · by_cases h1 : i < m
    · by_cases h2 : m ≤ i + k
      · have h3 : m ≤ i + (k + 1) := by omega
        simp [bigP, h, h1, h2, h3]
      · have h3 : ¬ m ≤ i + (k + 1) := by omega
        simp [bigP, h, h1, h2, h3]
    · simp [bigP, h, h1]
theorem litP_full (v : Int) (m : Nat) : litP v m m = octs v m := by
  apply List.ext_getElem?; intro i; by_cases h : i < m <;> simp [litP, octs, h]
theorem bigP_full (v : Int) (m : Nat) : bigP v m m = (octs v m).reverse := by
  apply List.ext_getElem?; intro i
  by_cases h : i < m
  · rw [List.getElem?_reverse (by simpa [octs] using h)]
    have h2 : m - 1 - i < m := by omega
    simp [bigP, octs, h, h2]
  · rw [List.getElem?_eq_none (by simp [bigP]; omega), List.getElem?_eq_none (by simp [octs]; omega)]
theorem made_vals (m : Nat) : (madeCells #[Value.int .u8 0] m).toList = vals (List.replicate m 0) := by
  rw [toList_madeCells_one]; simp [vals]

/-- One store into a row of the call's own. -/
theorem store_step {w wr : World} {B g m j : Nat} {l l' : List Int} {x : Int} (hown : wr.ownsRow B 5 1 (.slice (some ⟨g, 0, none⟩) m m) m (vals l)) (hbel : Below B w wr) (hw : B ≤ w.heap.size) (hl : l.set j x = l') :
    (wr.setCell ⟨g, j, none⟩ (.int .u8 x)).ownsRow B 5 1 (.slice (some ⟨g, 0, none⟩) m m) m (vals l') ∧ Below B w (wr.setCell ⟨g, j, none⟩ (.int .u8 x)) := by
  have h := hown.stored j (.int .u8 x)
  refine ⟨by rw [← hl, vals_setO]; exact h.1, hbel.grown h.2 (by have := hbel.size; omega) fun k hk => (hown.lt k hk).1⟩
theorem own_cell {wr : World} {B g m j : Nat} {l : List Int} (hown : wr.ownsRow B 5 1 (.slice (some ⟨g, 0, none⟩) m m) m (vals l)) (hj : j < m) : wr.cell? ⟨g, j, none⟩ = some (.int .u8 (l[j]?.getD 0)) := by
  rw [hown.cellAt j (by omega)]
  have hl : l.length = m := by have := hown.1; simpa [vals] using this
  simp [vals, show j < l.length by omega]

set_option maxHeartbeats 800000 in
theorem putBig_any (n v : Int) (w : World) : Calls Try.prog 20 #[.int .i64 n, .int .i64 v] w fun e w' => NewBytes w (octs v (put8 n)).reverse e w' := by
  have C := within_any n w
  have hm := put8_le n
  generalize put8 n = m at *
  obtain ⟨B, hB⟩ : ∃ B, B = w.heap.size := ⟨_, rfl⟩
  have HB : Hid (B = w.heap.size) := hB
  clear hB
  obtain ⟨i0, hi, hz0, hz1, hz2⟩ := info_parts Try.info5
  go_enter Try.func20, Try.ntmps20
  go_wp2_with fail
  refine C.mono ?_
  clear C
  rintro e w1 ⟨rfl, rfl⟩
  go_wp2_with (at_make; refine wpList_make_full _ rfl _ _ 24 rfl B 5 i0 (.int .u8 0) 1 Try.underlying24 hi hz0 hz1 .i64 .i64 _ _ m rfl rfl rfl rfl ?b2 ?b3 ?b4 ?_)
  case b2 => rw [hz2]; omega
  case b3 => unfold maxLen; omega
  case b4 => rw [HB.out]; exact Nat.le_refl _
  intro w2 hown hgrow
  rw [made_vals] at hown
  have hbel : Below B w1 w2 := (Below.refl _ _).grown hgrow (by rw [HB.out]; exact Nat.le_refl _) (fun k hk => by cases hk)
  obtain ⟨g, hg⟩ : ∃ g, g = w1.heap.size := ⟨_, rfl⟩
  rw [← hg]
  rw [← hg] at hown
  clear hg hgrow
  go_wp2
  go_loopw [6, 12] (fun _ c wr => ∃ k : Nat, k ≤ m ∧ c = .int .i64 k ∧ wr.ownsRow B 5 1 (.slice (some ⟨g, 0, none⟩) m m) m (vals (bigP v m k)) ∧ Below B w1 wr) (fun _ c _ => m - (intOf c).toNat)
  case atStart => exact ⟨0, Nat.zero_le _, rfl, by rw [bigP_zero]; exact hown, hbel⟩
  case round =>
    clear hown hbel
    obtain ⟨k, hk, rfl, hown, hbel⟩ := hrel
    by_cases hlt : k < m
    · have hcell := own_cell hown (show m - 1 - k < m by omega)
      have hfz := hown.frozenAt (m - 1 - k)
      have R := store_step hown hbel (by rw [HB.out]; exact Nat.le_refl _) (bigP_step v m k hlt)
      have HR : Hid _ := R
      clear R hown hbel
      go_wp2_with (go_at_call 43; refine (octet_any v k _ (by omega)).mono ?_; rintro e w3 ⟨rfl, rfl⟩)
      go_roundw
      case rel => exact ⟨k + 1, by omega, by go_num, HR.out.1, HR.out.2⟩
      case measure => simp [intOf]; omega
    · have : k = m := by omega
      subst this
      go_wp2
      go_ret
      rw [bigP_full] at hown
      exact newBytes_of_owns hown (by rw [← HB.out]; exact hbel)
end Go.Proofs.Ytaibojmaghmfnaa
