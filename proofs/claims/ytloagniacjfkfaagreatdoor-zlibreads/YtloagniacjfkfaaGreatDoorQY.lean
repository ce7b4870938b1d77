/- Joined: OpB Zp1. -/
import Derived.Test.YtloagniacjfkfaaGreatDoorQO
import Derived.Test.YtloagniacjfkfaaGreatDoorQW
import Derived.Test.YtloagniacjfkfaaGreatDoorQX
import Derived.Test.YtloagniacjfkfaaGreatDoorQP
/- A number's bytes. -/
namespace Go.Proofs.YtloagniacjfkfaaGreatDoor
open Go.RowKit

theorem newBytes_of_owns {w w' : World} {base : Nat} {v : Value} {n : Nat} {zs : List Int} (h : w'.ownsRow base 5 1 v n (vals zs)) (hb : Below w.heap.size w w') : NewBytes w zs (.returned v) w' := by
  obtain ⟨g, hs, _⟩ := Sl.of_owns h
  obtain ⟨a, cap, rfl, h1, h2, h3⟩ := hs.shape
  rw [vals_len] at h1
  exact ⟨a, cap, by rw [vals_len], h1, h2, h3, hs.row rfl, hb⟩
def oct (v : Int) (i : Nat) : Int := v / 256 ^ i % 256
def octs (v : Int) (n : Nat) : List Int := (List.range n).map (oct v)
def put8 (n : Int) : Nat := (min (max n 0) 8).toNat
theorem put8_le (n : Int) : put8 n ≤ 8 := by unfold put8; omega
theorem oct_byte (v : Int) (i : Nat) : 0 ≤ oct v i ∧ oct v i < 256 := by unfold oct; omega

theorem oct_prog (v : Int) (i : Nat) (hi : i ≤ 7) : IntKind.u64.wrap v / 2 ^ (8 * i) % 256 = oct v i := by
  unfold oct
  rw [IntKind.wrap_u64]
  match i, hi with
  | 0, _ => simp
  | 1, _ => simp; omega
  | 2, _ => simp; omega
  | 3, _ => simp; omega
  | 4, _ => simp; omega
  | 5, _ => simp; omega
  | 6, _ => simp; omega
  | 7, _ => simp; omega

set_option maxHeartbeats 400000 in
theorem within_any (n : Int) (w : World) : Calls Tryz.prog 53 #[.int .i64 n] w fun e w' => e = .returned (.int .i64 (put8 n)) ∧ w' = w := by
  by_cases h1 : n < 0
  · have h : ((put8 n : Nat) : Int) = 0 := by unfold put8; omega
    rw [h]
    clear h
    go_enter Tryz.func53, Tryz.ntmps53
    go_wp2
    go_ret
    exact ⟨rfl, rfl⟩
  · by_cases h2 : n ≤ 8
    · have h : ((put8 n : Nat) : Int) = n := by unfold put8; omega
      rw [h]
      clear h
      have h3 : (if n < 0 then (0 : Int) else n) = n := by rw [if_neg h1]
      go_enter Tryz.func53, Tryz.ntmps53
      go_wp2
      go_ret
      exact ⟨rfl, rfl⟩
    · have h : ((put8 n : Nat) : Int) = 8 := by unfold put8; omega
      rw [h]
      clear h
      go_enter Tryz.func53, Tryz.ntmps53
      go_wp2
      go_ret
      exact ⟨rfl, rfl⟩
set_option maxHeartbeats 400000 in
theorem octet_any (v : Int) (i : Nat) (w : World) (hi : i ≤ 7) : Calls Tryz.prog 54 #[.int .i64 v, .int .i64 i] w fun e w' => e = .returned (.int .u8 (oct v i)) ∧ w' = w := by
  rw [← oct_prog v i hi]
  go_enter Tryz.func54, Tryz.ntmps54
  go_wp2
  go_ret
  exact ⟨rfl, rfl⟩

def litP (v : Int) (m k : Nat) : List Int := (List.range m).map fun i => if i < k then oct v i else 0
def bigP (v : Int) (m k : Nat) : List Int := (List.range m).map fun j => if m ≤ j + k then oct v (m - 1 - j) else 0
theorem litP_zero (v : Int) (m : Nat) : litP v m 0 = List.replicate m 0 := by
  apply List.ext_getElem?; intro i; by_cases h : i < m <;> simp [litP, h]
theorem bigP_zero (v : Int) (m : Nat) : bigP v m 0 = List.replicate m 0 := by
  apply List.ext_getElem?; intro i
  by_cases h : i < m
  · have h2 : ¬ m ≤ i := by omega
    simp [bigP, h, h2]
  · simp [bigP, h]
theorem litP_step (v : Int) (m k : Nat) (hk : k < m) : (litP v m k).set k (oct v k) = litP v m (k + 1) := by
  apply List.ext_getElem?; intro i
  rw [List.getElem?_set]
  by_cases h : k = i
  · subst h; simp [litP, hk]
  · by_cases h1 : i < m
    · by_cases h2 : i < k
      · have h3 : i < k + 1 := by omega
        simp [litP, h, h1, h2, h3]
      · have h3 : ¬ i < k + 1 := by omega
        simp [litP, h, h1, h2, h3]
    · simp [litP, h, h1]
theorem bigP_step (v : Int) (m k : Nat) (hk : k < m) : (bigP v m k).set (m - 1 - k) (oct v k) = bigP v m (k + 1) := by
  apply List.ext_getElem?; intro i
  rw [List.getElem?_set]
  by_cases h : m - 1 - k = i
  · subst h
    have h1 : m - 1 - k < m := by omega
    have h2 : m ≤ m - 1 - k + (k + 1) := by omega
    have h3 : m - 1 - (m - 1 - k) = k := by omega
    simp [bigP, h1, h2, h3]
  · by_cases h1 : i < m
    · by_cases h2 : m ≤ i + k
      · have h3 : m ≤ i + (k + 1) := by omega
        simp [bigP, h, h1, h2, h3]
      · have h3 : ¬ m ≤ i + (k + 1) := by omega
        simp [bigP, h, h1, h2, h3]
    · simp [bigP, h, h1]
theorem litP_full (v : Int) (m : Nat) : litP v m m = octs v m := by
  apply List.ext_getElem?; intro i; by_cases h : i < m <;> simp [litP, octs, h]
theorem bigP_full (v : Int) (m : Nat) : bigP v m m = (octs v m).reverse := by
  apply List.ext_getElem?; intro i
  by_cases h : i < m
  · rw [List.getElem?_reverse (by simpa [octs] using h)]
    have h2 : m - 1 - i < m := by omega
    simp [bigP, octs, h, h2]
  · rw [List.getElem?_eq_none (by simp [bigP]; omega), List.getElem?_eq_none (by simp [octs]; omega)]
theorem made_vals (m : Nat) : (madeCells #[Value.int .u8 0] m).toList = vals (List.replicate m 0) := by
  rw [toList_madeCells_one]; simp [vals]

/-- One store into a row of the call's own. -/
theorem store_step {w wr : World} {B g m j : Nat} {l l' : List Int} {x : Int} (hown : wr.ownsRow B 5 1 (.slice (some ⟨g, 0, none⟩) m m) m (vals l)) (hbel : Below B w wr) (hw : B ≤ w.heap.size) (hl : l.set j x = l') :
    (wr.setCell ⟨g, j, none⟩ (.int .u8 x)).ownsRow B 5 1 (.slice (some ⟨g, 0, none⟩) m m) m (vals l') ∧ Below B w (wr.setCell ⟨g, j, none⟩ (.int .u8 x)) := by
  have h := hown.stored j (.int .u8 x)
  refine ⟨by rw [← hl, ← vals_set]; exact h.1, hbel.grown h.2 (by have := hbel.size; omega) fun k hk => (hown.lt k hk).1⟩
theorem own_cell {wr : World} {B g m j : Nat} {l : List Int} (hown : wr.ownsRow B 5 1 (.slice (some ⟨g, 0, none⟩) m m) m (vals l)) (hj : j < m) : wr.cell? ⟨g, j, none⟩ = some (.int .u8 (l[j]?.getD 0)) := by
  rw [hown.cellAt j (by omega)]
  have hl : l.length = m := by have := hown.1; simpa [vals] using this
  simp [vals, show j < l.length by omega]

set_option maxHeartbeats 800000 in
theorem putBig_any (n v : Int) (w : World) : Calls Tryz.prog 29 #[.int .i64 n, .int .i64 v] w fun e w' => NewBytes w (octs v (put8 n)).reverse e w' := by
  have C := within_any n w
  have hm := put8_le n
  generalize put8 n = m at *
  obtain ⟨B, hB⟩ : ∃ B, B = w.heap.size := ⟨_, rfl⟩
  have HB : Hid (B = w.heap.size) := hB
  clear hB
  obtain ⟨i0, hi, hz0, hz1, hz2⟩ := info_parts Tryz.info5
  go_enter Tryz.func29, Tryz.ntmps29
  go_wp2_with fail
  refine C.mono ?_
  clear C
  rintro e w1 ⟨rfl, rfl⟩
  go_wp2_with (at_make; refine wpList_make_full _ rfl _ _ 22 rfl B 5 i0 (.int .u8 0) 1 Tryz.underlying22 hi hz0 hz1 .i64 .i64 _ _ m rfl rfl rfl rfl ?b2 ?b3 ?b4 ?_)
  case b2 => rw [hz2]; omega
  case b3 => unfold maxLen; omega
  case b4 => rw [HB.out]; exact Nat.le_refl _
  intro w2 hown hgrow
  rw [made_vals] at hown
  have hbel : Below B w1 w2 := (Below.refl _ _).grown hgrow (by rw [HB.out]; exact Nat.le_refl _) (fun k hk => by cases hk)
  obtain ⟨g, hg⟩ : ∃ g, g = w1.heap.size := ⟨_, rfl⟩
  rw [← hg]
  rw [← hg] at hown
  clear hg hgrow
  go_wp2
  go_loopw [6, 12] (fun _ c wr => ∃ k : Nat, k ≤ m ∧ c = .int .i64 k ∧ wr.ownsRow B 5 1 (.slice (some ⟨g, 0, none⟩) m m) m (vals (bigP v m k)) ∧ Below B w1 wr) (fun _ c _ => m - (intOf c).toNat)
  case atStart => exact ⟨0, Nat.zero_le _, rfl, by rw [bigP_zero]; exact hown, hbel⟩
  case round =>
    clear hown hbel
    obtain ⟨k, hk, rfl, hown, hbel⟩ := hrel
    by_cases hlt : k < m
    · have hcell := own_cell hown (show m - 1 - k < m by omega)
      have hfz := hown.frozenAt (m - 1 - k)
      have R := store_step hown hbel (by rw [HB.out]; exact Nat.le_refl _) (bigP_step v m k hlt)
      have HR : Hid _ := R
      clear R hown hbel
      go_wp2_with (go_at_call 54; refine (octet_any v k _ (by omega)).mono ?_; rintro e w3 ⟨rfl, rfl⟩)
      go_roundw
      case rel => exact ⟨k + 1, by omega, by go_num, HR.out.1, HR.out.2⟩
      case measure => simp [intOf]; omega
    · have : k = m := by omega
      subst this
      go_wp2
      go_ret
      rw [bigP_full] at hown
      exact newBytes_of_owns hown (by rw [← HB.out]; exact hbel)
end Go.Proofs.YtloagniacjfkfaaGreatDoor
/- zlib: one byte, stored and wrapped. -/
namespace Go.Proofs.YtloagniacjfkfaaGreatDoor
open Go.RowKit
def secL : List Int := [1, 94, 156, 218]
/-- The heads' second bytes stand as the program's text lays them. -/
def Sec (w : World) : Prop := ∀ i, i < 4 → w.cell? ⟨0, i, none⟩ = some (.int .u8 (secL[i]?.getD 0))
theorem Sec.pos {w : World} (h : Sec w) : 1 ≤ w.heap.size := cell_lt (h 0 (by omega))
theorem Sec.below {w w' : World} {base : Nat} (h : Sec w) (hb : Below base w w') (h1 : 1 ≤ base) : Sec w' := fun i hi => (World.cell?_of_block (a := ⟨0, i, none⟩) (hb.block 0 (by omega))).trans (h i hi)
theorem out7 {out : List Int} (h : Bitz out (stW 0 0 true [7] 1) (40 + 8 * 1)) : out = [1, 1, 0, 254, 255, 7] := by
  refine litN_inj h.1 (by intro z hz; simp at hz; omega) (by rw [h.2.1]; decide) ?_
  rw [h.2.2.1]
  decide
theorem adl7 : adlM 1 [7] = 524296 := by decide
theorem oct7 : (octs 524296 (put8 4)).reverse = [0, 8, 0, 8] := by decide
set_option maxHeartbeats 1600000 in
set_option maxRecDepth 20000 in
theorem zpack7_any (a : Option Addr) (w : World) (hs : Sec w) (hrow : Row w a [7]) : Calls Tryz.prog 19 #[.slice a 1 1, .int .i64 0] w fun e w' => ∃ v g, e = .returned (.tuple #[v, .int .i64 0]) ∧ Sl w' 5 v g (vals [120, 1, 1, 1, 0, 254, 255, 7, 0, 8, 0, 8]) ∧ (∀ k, g = some k → w.heap.size ≤ k) ∧ Below w.heap.size w w' := by
  have C1 := dpack0_any [7] a 1 1 w rfl (by omega) (by omega) (by intro z hz; simp at hz; omega) hrow
  have HS : Hid (Sec w ∧ Row w a [7]) := ⟨hs, hrow⟩
  clear hs hrow
  go_enter Tryz.func19, Tryz.ntmps19
  go_wp2_with fail
  refine C1.mono ?_
  rintro e w1 ⟨a1, c1, out, rfl, hok, hl1, hl2, hl3, hr1, hb1⟩
  obtain rfl := out7 hok
  have HR1 : Hid (Row w1 a1 [1, 1, 0, 254, 255, 7] ∧ Below w.heap.size w w1) := ⟨hr1, hb1⟩
  have hsec := (HS.out.1.below hb1 HS.out.1.pos) 0 (by omega)
  simp only [secL, List.getElem?_cons_zero, Option.getD_some] at hsec
  clear hok hr1 hb1 C1
  have hsl2 : Sl (w1.alloc (.cells #[.int .u8 120, .int .u8 1] 5)) 5 (.slice (some ⟨w1.heap.size, 0, none⟩) 2 2) (some w1.heap.size) (vals [120, 1]) :=
    .inr ⟨w1.heap.size, 0, 2, #[.int .u8 120, .int .u8 1], rfl, rfl, heap_alloc_new _ _, by simp, by simp [vals], by unfold maxLen; omega, by
      intro i hi
      simp [vals] at hi
      match i, hi with
      | 0, _ => rfl
      | 1, _ => rfl⟩
  have HS2 : Hid (Sl (w1.alloc (.cells #[.int .u8 120, .int .u8 1] 5)) 5 (.slice (some ⟨w1.heap.size, 0, none⟩) 2 2) (some w1.heap.size) (vals [120, 1]) ∧ Row (w1.alloc (.cells #[.int .u8 120, .int .u8 1] 5)) a1 [1, 1, 0, 254, 255, 7]) := ⟨hsl2, HR1.out.1.old ((Below.refl _ _).alloc (Nat.le_refl _) _)⟩
  have HL3 : Hid (a1 = none → c1 = 0) := hl3
  clear hsl2 hl3 hl1
  simp only [List.length_cons, List.length_nil, Nat.zero_add, Nat.reduceAdd]
  go_wp2_with (at_builtin; refine wpList_more rfl _ _ rfl (.slice (some ⟨w1.heap.size, 0, none⟩) 2 2) (some w1.heap.size) [120, 1] rfl HS2.out.1 a1 6 c1 [1, 1, 0, 254, 255, 7] rfl HL3.out rfl HS2.out.2 (by decide) ?_; intro v7 w7 g7 hs7 hg7 hgr7; obtain ⟨a7, c7, hv7, -⟩ := hs7.shape; rw [vals_len] at hv7; simp only [List.cons_append, List.nil_append, List.length_cons, List.length_nil, Nat.zero_add, Nat.reduceAdd] at hv7; subst hv7; have HS7 : Hid (Sl w7 5 (.slice a7 8 c7) g7 (vals [120, 1, 1, 1, 0, 254, 255, 7]) ∧ (∀ k, g7 = some k → w.heap.size ≤ k) ∧ Below w.heap.size w w7) := (by
    refine ⟨hs7, ?_, ?_⟩
    · intro k hk
      have := HR1.out.2.size
      rcases hg7 with e | ⟨j, e, hj⟩
      · rw [e] at hk; cases hk; omega
      · rw [e] at hk; cases hk; simp at hj; omega
    · exact (HR1.out.2.alloc HR1.out.2.size _).grown hgr7 (by have := HR1.out.2.size; simp; omega) (fun k e => by cases e; exact HR1.out.2.size)); clear hs7 hg7 hgr7)
  have C3 := of_any a 1 1 [7] w7 rfl (by decide) (by intro z hz; simp at hz; omega) (HS.out.2.old HS7.out.2.2)
  rw [adl7] at C3
  refine C3.mono ?_
  rintro e w8 ⟨rfl, hw8⟩
  rw [hw8]
  clear hw8 C3
  have C4 := putBig_any 4 524296 w7
  rw [oct7] at C4
  go_wp2_with fail
  refine C4.mono ?_
  rintro e w9 ⟨a9, c9, rfl, h1, h2, h3, h4, h5⟩
  have HR9 : Hid (Row w9 a9 [0, 8, 0, 8] ∧ (a9 = none → c9 = 0) ∧ Below w7.heap.size w7 w9 ∧ Sl w9 5 (.slice a7 8 c7) g7 (vals [120, 1, 1, 1, 0, 254, 255, 7])) := ⟨h4, h3, h5, HS7.out.1.same fun k hk => h5.block k (HS7.out.1.lt hk)⟩
  clear h1 h2 h3 h4 h5 C4
  simp only [List.length_cons, List.length_nil, Nat.zero_add, Nat.reduceAdd]
  go_wp2_with (at_builtin; refine wpList_more rfl _ _ rfl (.slice a7 8 c7) g7 [120, 1, 1, 1, 0, 254, 255, 7] rfl HR9.out.2.2.2 a9 4 c9 [0, 8, 0, 8] rfl HR9.out.2.1 rfl HR9.out.1 (by decide) ?_; intro v8 w8 g8 hs8 hg8 hgr8; have HP : Hid (∃ v g, Ending.returned (.tuple #[v8, .int .i64 0]) = .returned (.tuple #[v, .int .i64 0]) ∧ Sl w8 5 v g (vals [120, 1, 1, 1, 0, 254, 255, 7, 0, 8, 0, 8]) ∧ (∀ k, g = some k → w.heap.size ≤ k) ∧ Below w.heap.size w w8) := (by
    have hb9 := HS7.out.2.2.trans (HR9.out.2.2.1.mono HS7.out.2.2.size)
    refine ⟨v8, g8, rfl, hs8, ?_, hb9.grown hgr8 hb9.size HS7.out.2.1⟩
    intro k hk
    rcases hg8 with e | ⟨j, e, hj⟩
    · exact HS7.out.2.1 k (by rw [← e, hk])
    · rw [e] at hk; cases hk; have := hb9.size; omega); clear hs8 hg8 hgr8)
  go_ret2
  exact HP.out
end Go.Proofs.YtloagniacjfkfaaGreatDoor
