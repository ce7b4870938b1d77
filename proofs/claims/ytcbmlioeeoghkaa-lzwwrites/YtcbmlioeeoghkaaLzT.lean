/- LZW: Pack. -/
import Derived.Test.YtcbmlioeeoghkaaLzS
import Derived.Test.YtcbmlioeeoghkaaRwC
import Derived.Deep.DeepCutAuto
import Derived.Deep.CutBlock
namespace Go.Proofs.Ytcbmlioeeoghkaa
open Go.RowKit
set_option maxHeartbeats 800000 in
theorem areRoots_any {w : World} {av : Option Addr} {n cap L : Nat} {bs : List Int} (hL : 2 ≤ L ∧ L ≤ 8) (hbn : bs.length = n) (hnc : n ≤ cap) (hcap : cap ≤ 9223372036854775807) (hrow : Row w av bs) (hby : Bytes bs) :
    Calls Try.prog 30 #[.slice av n cap, .int .i64 L] w fun e w' => e = .returned (.bool (decide (∀ v ∈ bs, v < ((2 ^ L : Nat) : Int)))) ∧ w' = w := by
  have CC := clearCode_any hL w
  have hb := fc_bd hL
  obtain ⟨P, hP⟩ : ∃ P, 2 ^ L = P := ⟨_, rfl⟩
  rw [hP] at CC hb ⊢
  have HA : Hid (bs.length = n ∧ Row w av bs ∧ Bytes bs) := ⟨hbn, hrow, hby⟩
  clear hP hbn hrow hby
  go_enter Try.func30, Try.ntmps30
  go_wp2
  go_loopw [4, 6, 9, 10, 11, 12, 13, 14, 15, 16, 17, 18] (fun _ _ v9 _ _ _ _ _ _ _ _ _ wr => ∃ j : Nat, v9 = .int .i64 (j : Int) ∧ j ≤ n ∧ Hid (∀ v ∈ bs.take j, v < (P : Int)) ∧ wr = w) (fun _ _ v9 _ _ _ _ _ _ _ _ _ _ => n - (intOf v9).toNat)
  case atStart => exact ⟨0, rfl, Nat.zero_le _, (by intro v hv; simp at hv), rfl⟩
  case round =>
    obtain ⟨j, rfl, hjn, HV, rfl⟩ := hrel
    by_cases hlt : j < n
    · have hltI : (j : Int) < (n : Int) := by omega
      have hjl : j < bs.length := by have := HA.out.1; omega
      have hyb := byte_at HA.out.2.2 j
      obtain ⟨b, off, hav, hce⟩ : ∃ b off, av = some ⟨b, off, none⟩ ∧ wr.cell? ⟨b, off + j, none⟩ = some (.int .u8 ((bs[j]?).getD 0)) := by
        rcases HA.out.2.1 with h | ⟨b, off, h1, h2⟩
        · rw [h] at hjl; simp at hjl
        · exact ⟨b, off, h1, h2 j hjl⟩
      subst hav
      have htk : bs.take (j + 1) = bs.take j ++ [(bs[j]?).getD 0] := by
        rw [List.take_add_one, List.getElem?_eq_getElem hjl]; rfl
      obtain ⟨y, hy⟩ : ∃ y, (bs[j]?).getD 0 = y := ⟨_, rfl⟩
      have HY : Hid (y ∈ bs) := by
        rw [← hy, List.getElem?_eq_getElem hjl]; exact List.getElem_mem hjl
      rw [hy] at hce hyb htk
      have hj0 : (0 : Int) ≤ (j : Int) := by omega
      by_cases hyP : y < (P : Int)
      · have HN : Hid (∀ v ∈ bs.take (j + 1), v < (P : Int)) := by
          intro v hv
          rw [htk] at hv
          rcases List.mem_append.1 hv with h | h
          · exact HV.out v h
          · rw [List.mem_singleton] at h; rw [h]; exact hyP
        have hyP2 : ¬ (P : Int) ≤ y := by omega
        clear htk HV hy
        go_wp2_with fail
        refine CC.mono ?_
        rintro e w1 ⟨rfl, hw1⟩
        subst w1
        go_wp2
        go_roundw
        case rel => exact ⟨j + 1, by go_num, by omega, HN.out, trivial⟩
        case measure => simp [intOf]; omega
      · have hyP2 : (P : Int) ≤ y := by omega
        have HF : Hid (decide (∀ v ∈ bs, v < (P : Int)) = false) := by
          refine decide_eq_false fun h => ?_
          have := h y HY.out; omega
        clear htk HV hy hyP
        go_wp2_with fail
        refine CC.mono ?_
        rintro e w1 ⟨rfl, hw1⟩
        subst w1
        go_wp2
        go_ret
        exact ⟨by rw [HF.out]; rfl, rfl⟩
    · obtain rfl : j = n := by omega
      have HF : Hid (decide (∀ v ∈ bs, v < (P : Int)) = true) := by
        refine decide_eq_true ?_
        have := HV.out
        rwa [List.take_of_length_le (by have := HA.out.1; omega)] at this
      clear HV
      go_wp2
      go_ret
      exact ⟨by rw [HF.out]; rfl, rfl⟩
set_option maxHeartbeats 400000 in
/-- A number of least bits, or of late ones, that may not be. -/
theorem lpack_arg (v : Value) (l t : Int) (h : ¬ (2 ≤ l ∧ l ≤ 8) ∨ t < 0) (w : World) : Calls Try.prog 18 #[v, .int .i64 l, .int .i64 t] w fun e w' => e = .returned (.tuple #[.slice none 0 0, .int .i64 1]) ∧ w' = w := by
  have C := isLeast_any l w
  by_cases hl : 2 ≤ l ∧ l ≤ 8
  · have ht : t < 0 := by omega
    rw [decide_eq_true hl] at C
    clear h hl
    go_enter Try.func18, Try.ntmps18
    go_wp2_with fail
    refine C.mono ?_
    rintro e w1 ⟨rfl, hw1⟩
    subst w1
    go_wp2
    go_ret2
    exact ⟨rfl, rfl⟩
  · rw [decide_eq_false hl] at C
    clear h hl
    go_enter Try.func18, Try.ntmps18
    go_wp2_with fail
    refine C.mono ?_
    rintro e w1 ⟨rfl, hw1⟩
    subst w1
    go_wp2
    go_ret2
    exact ⟨rfl, rfl⟩
set_option maxHeartbeats 400000 in
/-- Bytes that are no roots. -/
theorem lpack_root {w : World} {av : Option Addr} {n cap L : Nat} {t : Int} {bs : List Int} (hL : 2 ≤ L ∧ L ≤ 8) (ht : 0 ≤ t) (hbn : bs.length = n) (hnc : n ≤ cap) (hcap : cap ≤ 9223372036854775807) (hrow : Row w av bs) (hby : Bytes bs) (hno : ¬ ∀ v ∈ bs, v < ((2 ^ L : Nat) : Int)) :
    Calls Try.prog 18 #[.slice av n cap, .int .i64 L, .int .i64 t] w fun e w' => e = .returned (.tuple #[.slice none 0 0, .int .i64 1]) ∧ w' = w := by
  have C := isLeast_any (L : Int) w
  rw [decide_eq_true (by omega)] at C
  have C2 := areRoots_any hL hbn hnc hcap hrow hby
  rw [decide_eq_false hno] at C2
  have ht2 : ¬ t < 0 := by omega
  clear hbn hrow hby hno
  go_enter Try.func18, Try.ntmps18
  go_wp2_with fail
  refine C.mono ?_
  clear C
  rintro e w1 ⟨rfl, hw1⟩
  subst w1
  go_wp2_with fail
  refine C2.mono ?_
  rintro e w1 ⟨rfl, hw1⟩
  subst w1
  go_wp2
  go_ret2
  exact ⟨rfl, rfl⟩
end Go.Proofs.Ytcbmlioeeoghkaa
