/- Joined: Rd6 Re6 Rf6. -/
import Derived.Test.YtloagniacjfkfaaGreatDoorTD
import Derived.Test.YtloagniacjfkfaaGreatDoorQI
/- Which length or distance a symbol begins at: the document's way of counting, and the machine's. -/
namespace Go.Proofs.YtloagniacjfkfaaGreatDoor
open Go.RowKit
/-- How many bits the k-th symbol has. -/
def exN (first group k : Nat) : Nat := if first ≤ k then (k - first) / group + 1 else 0
def exV (first group least : Nat) : Nat → Nat
  | 0 => least
  | k + 1 => exV first group least k + 2 ^ exN first group k
theorem exV_le {first group : Nat} (hg : 2 ≤ group) (least : Nat) : ∀ k, k ≤ 30 → exV first group least k ≤ least + k * 65536
  | 0, _ => by simp [exV]
  | k + 1, h => by
    have ih := exV_le (first := first) hg least k (by omega)
    have e : exN first group k ≤ 16 := by
      unfold exN
      split
      · have := Nat.div_le_div_left hg (show 0 < 2 by omega) (a := k - first); omega
      · omega
    have := Nat.pow_le_pow_right (show 0 < 2 by omega) e
    rw [exV]
    have h2 : (2 : Nat) ^ 16 = 65536 := by decide
    omega
theorem w64 (n : Int) (h : -9223372036854775808 ≤ n ∧ n ≤ 9223372036854775807) : wrap64 n = n := by unfold wrap64; omega
set_option maxHeartbeats 1600000 in
set_option maxRecDepth 20000 in
theorem extra_any (s first group least : Nat) (w : World) (hs : s ≤ 30) (hf : first ≤ 8) (hg : 2 ≤ group) (hg4 : group ≤ 4) (hl : least ≤ 3) :
    Calls Tryz.prog 97 #[.int .i64 s, .int .i64 first, .int .i64 group, .int .i64 least] w fun e w' => e = .returned (.tuple #[.int .i64 (exV first group least s), .int .i64 (exN first group s)]) ∧ ∃ n, w' = w.drewN n := by
  go_enter Tryz.func97, Tryz.ntmps97
  go_wp2
  go_loopw [10, 11, 12] (fun v k _ wr => ∃ t : Nat, t ≤ s ∧ k = .int .i64 t ∧ v = .int .i64 (exV first group least t) ∧ wr = w) (fun _ k _ _ => s - (intOf k).toNat)
  case atStart => exact ⟨0, Nat.zero_le _, rfl, rfl, rfl⟩
  case round =>
    obtain ⟨t, ht, rfl, rfl, rfl⟩ := hrel
    have hvb := exV_le (first := first) hg least t (by omega)
    by_cases hlt : t < s
    · have HV : Hid (exV first group least (t + 1) = exV first group least t + 2 ^ exN first group t) := rfl
      by_cases hft : first ≤ t
      · obtain ⟨m, hm⟩ : ∃ m, (t - first) / group = m := ⟨_, rfl⟩
        have hm30 : m ≤ 15 := by rw [← hm]; have := Nat.div_le_div_left hg (show 0 < 2 by omega) (a := t - first); omega
        have HE : Hid (exN first group t = m + 1) := by show _ = _; unfold exN; rw [if_pos hft, hm]
        have hti : ((t : Int) - (first : Int)).tdiv (group : Int) = (m : Int) := by rw [Int.tdiv_eq_ediv_of_nonneg (by omega), ← hm]; norm_cast
        have hgz : ((group : Int) == 0) = false := by simp; omega
        have hp := Nat.pow_le_pow_right (show 0 < 2 by omega) (show m + 1 ≤ 16 by omega)
        have e2 : (2 : Int) ^ (m + 1) = ((2 ^ (m + 1) : Nat) : Int) := by rw [Int.natCast_pow]; rfl
        have h31 : (2 : Nat) ^ 16 = 65536 := by decide
        have HW : Hid (wrap64 ((exV first group least t : Int) + wrap64 (2 ^ (m + 1))) = (exV first group least (t + 1) : Int)) := by
          show _ = _
          have hq : 2 ^ (m + 1) ≤ 65536 := by rw [← h31]; exact hp
          rw [HV.out, HE.out, e2]
          generalize (2 : Nat) ^ (m + 1) = Y at hq ⊢
          rw [w64 (Y : Int) ⟨by omega, by omega⟩, w64 _ ⟨by omega, by omega⟩]
          rfl
        clear hp h31 e2
        go_wp2
        refine ⟨⟨t + 1, by omega, rfl, by rw [HW.out], trivial⟩, ?_⟩
        show s - (((t : Int) + 1).toNat) < s - ((t : Int).toNat)
        omega
      · have HE : Hid (exN first group t = 0) := by show _ = _; unfold exN; rw [if_neg hft]
        have HW : Hid ((exV first group least t : Int) + 1 = (exV first group least (t + 1) : Int)) := by
          show _ = _
          rw [HV.out, HE.out]
          rfl
        go_wp2
        refine ⟨⟨t + 1, by omega, rfl, by rw [HW.out], trivial⟩, ?_⟩
        show s - (((t : Int) + 1).toNat) < s - ((t : Int).toNat)
        omega
    · obtain rfl : t = s := by omega
      by_cases hft : t < first
      · have HE : Hid (exN first group t = 0) := by show _ = _; unfold exN; rw [if_neg (by omega)]
        go_wp2
        go_ret2
        exact ⟨by rw [HE.out]; rfl, 0, rfl⟩
      · obtain ⟨m, hm⟩ : ∃ m, (t - first) / group = m := ⟨_, rfl⟩
        have hm30 : m ≤ 15 := by rw [← hm]; have := Nat.div_le_div_left hg (show 0 < 2 by omega) (a := t - first); omega
        have HE : Hid (exN first group t = m + 1) := by show _ = _; unfold exN; rw [if_pos (by omega), hm]
        have hti : ((t : Int) - (first : Int)).tdiv (group : Int) = (m : Int) := by rw [Int.tdiv_eq_ediv_of_nonneg (by omega), ← hm, Int.natCast_ediv, Int.natCast_sub (by omega)]
        have hgz : ((group : Int) == 0) = false := by simp; omega
        have hw1 : IntKind.i64.wrap ((t : Int) - (first : Int)) = (t : Int) - (first : Int) := by rw [IntKind.wrap_i64]; omega
        have hw2 : IntKind.i64.wrap ((m : Int) + 1) = (m : Int) + 1 := by rw [IntKind.wrap_i64]; omega
        have hw3 : IntKind.i64.wrap (m : Int) = (m : Int) := by rw [IntKind.wrap_i64]; omega
        have hgn : ¬ (group : Int) = 0 := by omega
        have hgm : ((group : Int) == -1) = false := by simp
        have hw4 : IntKind.i64.wrap (((t : Int) - (first : Int)).tdiv (group : Int)) = (m : Int) := by rw [hti]; exact hw3
        have hb1 : (0 : Int) ≤ (t : Int) - (first : Int) := by omega
        have hb2 : (0 : Int) < (group : Int) := by omega
        go_wp2
        go_region
        go_wp2
        go_ret2
        exact ⟨by rw [HE.out]; rfl, 1, rfl⟩
end Go.Proofs.YtloagniacjfkfaaGreatDoor
/- A symbol's length and distance; the order of the code lengths. -/
namespace Go.Proofs.YtloagniacjfkfaaGreatDoor
open Go.RowKit
theorem len_eq : ∀ s, s < 28 → exV 8 4 3 s = (cLen (s + 257)).1 ∧ exN 8 4 s = (cLen (s + 257)).2 := by decide
theorem dist_eq : ∀ s, s < 30 → exV 4 2 1 s = (sprd s 2).1 + 1 ∧ exN 4 2 s = (sprd s 2).2 := by decide
set_option maxHeartbeats 800000 in
set_option maxRecDepth 20000 in
theorem length_any (s : Nat) (w : World) (hs : s ≤ 28) : Calls Tryz.prog 74 #[.int .i64 s] w fun e w' => e = .returned (.tuple #[.int .i64 (cLen (s + 257)).1, .int .i64 (cLen (s + 257)).2]) ∧ ∃ n, w' = w.drewN n := by
  by_cases h : s = 28
  · subst h
    go_enter Tryz.func74, Tryz.ntmps74
    go_wp2
    go_ret2
    exact ⟨rfl, 0, rfl⟩
  · have hi : ¬ (s : Int) = 28 := by omega
    have hib : ((s : Int) == 28) = false := by simpa using hi
    obtain ⟨e1, e2⟩ := len_eq s (by omega)
    have HX := extra_any s 8 4 3 w (by omega) (by decide) (by decide) (by decide) (by decide)
    rw [e1, e2] at HX
    clear e1 e2
    go_enter Tryz.func74, Tryz.ntmps74
    go_wp2_with fail
    refine HX.mono ?_
    rintro e w1 ⟨rfl, n, hw⟩
    rw [hw]
    go_wp2
    go_ret2
    exact ⟨rfl, n, rfl⟩
set_option maxHeartbeats 800000 in
set_option maxRecDepth 20000 in
theorem distance_any (s : Nat) (w : World) (hs : s ≤ 29) : Calls Tryz.prog 75 #[.int .i64 s] w fun e w' => e = .returned (.tuple #[.int .i64 (((sprd s 2).1 + 1 : Nat) : Int), .int .i64 (sprd s 2).2]) ∧ ∃ n, w' = w.drewN n := by
  obtain ⟨e1, e2⟩ := dist_eq s (by omega)
  have HX := extra_any s 4 2 1 w (by omega) (by decide) (by decide) (by decide) (by decide)
  rw [e1, e2] at HX
  clear e1 e2
  go_enter Tryz.func75, Tryz.ntmps75
  go_wp2_with fail
  refine HX.mono ?_
  rintro e w1 ⟨rfl, n, hw⟩
  rw [hw]
  go_wp2
  go_ret2
  exact ⟨rfl, n, rfl⟩
def RwPost (w : World) (e : Ending) (w' : World) : Prop :=
  e = .returned (.slice (some ⟨w.heap.size, 0, none⟩) 19 19) ∧ IRow w' (some ⟨w.heap.size, 0, none⟩) (ints ordL) ∧ Below w.heap.size w w'
set_option maxHeartbeats 800000 in
set_option maxRecDepth 20000 in
theorem rrow_any (w : World) : Calls Tryz.prog 76 #[] w fun e w' => RwPost w e w' := by
  have HP : Hid (RwPost w (.returned (.slice (some ⟨w.heap.size, 0, none⟩) 19 19)) (w.alloc (.cells (ivals (ints ordL)).toArray 3))) := by
    refine ⟨rfl, .inr ⟨w.heap.size, 0, rfl, fun i hi => ?_⟩, (Below.refl _ _).alloc (Nat.le_refl _) _⟩
    rw [Nat.zero_add, World.cell?_alloc_at _ _ _ _ rfl]
    rw [List.getElem?_toArray, ivals_at _ i hi]
  have e : (ivals (ints ordL)).toArray = #[.int .i64 16, .int .i64 17, .int .i64 18, .int .i64 0, .int .i64 8, .int .i64 7, .int .i64 9, .int .i64 6, .int .i64 10, .int .i64 5, .int .i64 11, .int .i64 4, .int .i64 12, .int .i64 3, .int .i64 13, .int .i64 2, .int .i64 14, .int .i64 1, .int .i64 15] := rfl
  rw [e] at HP
  clear e
  go_enter Tryz.func76, Tryz.ntmps76
  go_wp2
  go_ret
  exact HP.out
end Go.Proofs.YtloagniacjfkfaaGreatDoor
/- The lengths of the fixed codes, as the document makes them. -/
namespace Go.Proofs.YtloagniacjfkfaaGreatDoor
open Go.RowKit
def FxPost (w : World) (e : Ending) (w' : World) : Prop :=
  ∃ b1 b2, e = .returned (.tuple #[.slice (some ⟨b1, 0, none⟩) 288 288, .slice (some ⟨b2, 0, none⟩) 32 32]) ∧ w.heap.size ≤ b1 ∧ w.heap.size ≤ b2 ∧ LRow w' b1 (ints fixL) ∧ LRow w' b2 (ints fixD) ∧ Below w.heap.size w w'
set_option maxHeartbeats 3200000 in
set_option maxRecDepth 20000 in
theorem rfixed_any (w : World) : Calls Tryz.prog 49 #[] w fun e w' => FxPost w e w' := by
  obtain ⟨i0, hi, hz0, hz1, hz2⟩ := info_parts Tryz.info3
  have hmk : i0.bytes * 288 ≤ 281474976710656 := by rw [hz2]; omega
  have hmk2 : i0.bytes * 32 ≤ 281474976710656 := by rw [hz2]; omega
  go_enter Tryz.func49, Tryz.ntmps49
  go_wp2_with (at_make; refine wpList_make_full _ rfl _ _ 57 rfl w.heap.size 3 i0 _ 1 Tryz.underlying57 hi hz0 hz1 .i64 .i64 288 288 288 rfl rfl rfl rfl hmk (by unfold maxLen; omega) (Nat.le_refl _) ?_)
  intro w1 hown hgrow
  have hb1 : Below w.heap.size w w1 := ⟨hgrow.os, hgrow.tape, hgrow.output, hgrow.size, fun k hk => hgrow.block k hk (by simp)⟩
  have HL1 : Hid (LRow w1 w.heap.size (flA 0)) := LRow.made hown
  have HB1 : Hid (Below w.heap.size w w1) := hb1
  obtain ⟨R, hRR⟩ : ∃ R, w.heap.size = R := ⟨_, rfl⟩
  have HRR : Hid (w.heap.size = R) := hRR
  rw [hRR] at HL1
  clear hown hgrow hb1
  go_wp2
  rw [hRR]
  clear hRR
  go_loopw [3] (fun i wr => ∃ t : Nat, t ≤ 288 ∧ i = .int .i64 t ∧ Hid (LRow wr R (flA t) ∧ Fr w1 wr R none)) (fun i _ => 288 - (intOf i).toNat)
  case atStart => exact ⟨0, by omega, rfl, HL1.out, Fr.refl _ _ _⟩
  case round =>
    obtain ⟨t, ht, rfl, HQ⟩ := hrel
    by_cases hlt : t < 288
    · have hlti : (t : Int) < 288 := by omega
      obtain ⟨c0, f0⟩ := HQ.out.1.cell t (by rw [flA_len t ht]; exact hlt)
      have HS1 : Hid (∀ v : Int, v = fixN t → LRow ((wr.setCell ⟨R, t, none⟩ (.int .i64 8)).setCell ⟨R, t, none⟩ (.int .i64 v)) R (flA (t + 1)) ∧ Fr w1 ((wr.setCell ⟨R, t, none⟩ (.int .i64 8)).setCell ⟨R, t, none⟩ (.int .i64 v)) R none) := by
        rintro v rfl
        refine ⟨?_, (HQ.out.2.trans (Fr.set R t _ none) (.inl rfl)).trans (Fr.set R t _ none) (.inl rfl)⟩
        have := (HQ.out.1.set t 8).set t (fixN t)
        rw [List.set_set, flA_set t hlt] at this
        exact this
      rcases (show t < 144 ∨ (144 ≤ t ∧ t < 256) ∨ (256 ≤ t ∧ t < 280) ∨ 280 ≤ t by omega) with h | ⟨h, h'⟩ | ⟨h, h'⟩ | h
      · have hf : (fixN t : Int) = 8 := by unfold fixN; rw [if_pos h]; rfl
        have hi1 : ¬ (144 : Int) ≤ (t : Int) := by omega
        have hi2 : ¬ (256 : Int) ≤ (t : Int) := by omega
        go_wp2
        go_roundw
        case rel => exact ⟨t + 1, by omega, by go_num, by rw [← flA_set t hlt, hf]; exact HQ.out.1.set t _, HQ.out.2.trans (Fr.set R t _ none) (.inl rfl)⟩
        case measure => simp [intOf]; omega
      · have hf : (fixN t : Int) = 9 := by unfold fixN; rw [if_neg (by omega), if_pos h']; rfl
        have hi1 : (144 : Int) ≤ (t : Int) := by omega
        have hi2 : (t : Int) < 256 := by omega
        have hi3 : ¬ (256 : Int) ≤ (t : Int) := by omega
        go_wp2
        go_roundw
        case rel => exact ⟨t + 1, by omega, by go_num, HS1.out 9 hf.symm⟩
        case measure => simp [intOf]; omega
      · have hf : (fixN t : Int) = 7 := by unfold fixN; rw [if_neg (by omega), if_neg (by omega), if_pos h']; rfl
        have hi1 : (144 : Int) ≤ (t : Int) := by omega
        have hi2 : ¬ (t : Int) < 256 := by omega
        have hi3 : (256 : Int) ≤ (t : Int) := by omega
        have hi4 : (t : Int) < 280 := by omega
        go_wp2
        go_roundw
        case rel => exact ⟨t + 1, by omega, by go_num, HS1.out 7 hf.symm⟩
        case measure => simp [intOf]; omega
      · have hf : (fixN t : Int) = 8 := by unfold fixN; rw [if_neg (by omega), if_neg (by omega), if_neg (by omega)]; rfl
        have hi1 : (144 : Int) ≤ (t : Int) := by omega
        have hi2 : ¬ (t : Int) < 256 := by omega
        have hi3 : (256 : Int) ≤ (t : Int) := by omega
        have hi4 : ¬ (t : Int) < 280 := by omega
        go_wp2
        go_roundw
        case rel => exact ⟨t + 1, by omega, by go_num, by rw [← flA_set t hlt, hf]; exact HQ.out.1.set t _, HQ.out.2.trans (Fr.set R t _ none) (.inl rfl)⟩
        case measure => simp [intOf]; omega
    · obtain rfl : t = 288 := by omega
      have HB2 : Hid (Below w.heap.size w wr ∧ LRow wr R (ints fixL)) := by
        refine ⟨Fr.below HB1.out HQ.out.2 (by rw [HRR.out]; exact Nat.le_refl _) (by intro q hq; cases hq) HB1.out.size, ?_⟩
        rw [← flA_end]; exact HQ.out.1
      clear HQ HB1 HL1
      go_wp2_with (at_make; refine wpList_make_full _ rfl _ _ 57 rfl wr.heap.size 3 i0 _ 1 Tryz.underlying57 hi hz0 hz1 .i64 .i64 32 32 32 rfl rfl rfl rfl hmk2 (by unfold maxLen; omega) (Nat.le_refl _) ?_)
      intro w3 hown hgrow
      have hb3 : Below wr.heap.size wr w3 := ⟨hgrow.os, hgrow.tape, hgrow.output, hgrow.size, fun k hk => hgrow.block k hk (by simp)⟩
      have HL3 : Hid (LRow w3 wr.heap.size (flD 0)) := LRow.made hown
      have HB3 : Hid (Below w.heap.size w w3 ∧ LRow w3 R (ints fixL)) := ⟨HB2.out.1.trans (hb3.mono HB2.out.1.size), HB2.out.2.same (hb3.block _ (lt_of_block HB2.out.2))⟩
      have hRw : R < wr.heap.size := lt_of_block HB2.out.2
      clear hown hgrow hb3 HB2
      go_wp2
      generalize wr.heap.size = B2 at HL3 hRw ⊢
      go_loopw [5] (fun i wq => ∃ t : Nat, t ≤ 32 ∧ i = .int .i64 t ∧ Hid (LRow wq B2 (flD t) ∧ Fr w3 wq B2 none)) (fun i _ => 32 - (intOf i).toNat)
      case atStart => exact ⟨0, by omega, rfl, HL3.out, Fr.refl _ _ _⟩
      case round =>
        obtain ⟨t, ht2, rfl, HQ⟩ := hrel
        by_cases hlt2 : t < 32
        · have hlti : (t : Int) < 32 := by omega
          obtain ⟨c0, f0⟩ := HQ.out.1.cell t (by rw [flD_len t ht2]; exact hlt2)
          go_wp2
          go_roundw
          case rel => exact ⟨t + 1, by omega, by go_num, by rw [← flD_set t hlt2]; exact HQ.out.1.set t _, HQ.out.2.trans (Fr.set B2 t _ none) (.inl rfl)⟩
          case measure => simp [intOf]; omega
        · obtain rfl : t = 32 := by omega
          have HP : Hid (FxPost w (.returned (.tuple #[.slice (some ⟨R, 0, none⟩) 288 288, .slice (some ⟨B2, 0, none⟩) 32 32])) wr) := by
            have := HRR.out
            refine ⟨R, B2, rfl, by omega, by omega, HB3.out.2.same (HQ.out.2.block _ (lt_of_block HB3.out.2) (by omega) (by simp)), ?_, Fr.below HB3.out.1 HQ.out.2 (by omega) (by intro q hq; cases hq) HB3.out.1.size⟩
            rw [← flD_end]; exact HQ.out.1
          clear HQ HB3 HL3
          go_wp2
          go_ret2
          exact HP.out
end Go.Proofs.YtloagniacjfkfaaGreatDoor
