/- The reference's Check. -/
import Derived.Test.YtjellgkojmgmjaaHiB
namespace Go.Proofs.Ytjellgkojmgmjaa
open Go.RowKit

def onesN (ls : List Int) : Nat := ls.countP fun n => decide (n = 1)
theorem onesN_snoc (l : List Int) (x : Int) : onesN (l ++ [x]) = onesN l + if x = 1 then 1 else 0 := by
  simp [onesN, List.countP_append, List.countP_cons]
theorem onesN_le (ls : List Int) : onesN ls ≤ ls.length := List.countP_le_length
theorem words_zero {ls : List Int} (h : wordsN ls = 0) : onesN ls = 0 := by
  unfold wordsN at h
  unfold onesN
  rw [List.countP_eq_zero] at h ⊢
  intro x hx
  have := h x hx
  simp at this ⊢
  omega
theorem words_one {ls : List Int} (hk : ∀ x ∈ ls, 0 ≤ x ∧ x ≤ 15) (h : wordsN ls = 1) : ∃ n : Nat, 1 ≤ n ∧ n ≤ 15 ∧ sharesN ls = hshr n ∧ onesN ls = if n = 1 then 1 else 0 := by
  induction ls with
  | nil => simp [wordsN] at h
  | cons x r ih =>
    have hx := hk x (by simp)
    have e1 : wordsN (x :: r) = wordsN r + if 0 < x then 1 else 0 := by simp [wordsN, List.countP_cons]
    have e2 : sharesN (x :: r) = hshr x.toNat + sharesN r := by simp [sharesN, kraft]
    have e3 : onesN (x :: r) = onesN r + if x = 1 then 1 else 0 := by simp [onesN, List.countP_cons]
    by_cases hp : 0 < x
    · rw [if_pos hp] at e1
      have h0 : wordsN r = 0 := by omega
      refine ⟨x.toNat, by omega, by omega, by rw [e2, kraft_zero h0]; rfl, ?_⟩
      rw [e3, words_zero h0, Nat.zero_add]
      by_cases h1 : x = 1
      · subst h1; rfl
      · rw [if_neg h1, if_neg (by omega)]
    · rw [if_neg hp] at e1
      obtain ⟨n, q1, q2, q3, q4⟩ := ih (fun y hy => hk y (by simp [hy])) (by omega)
      obtain rfl : x = 0 := by omega
      exact ⟨n, q1, q2, by rw [e2, q3]; simp [hshr], by rw [e3, q4]; simp⟩
theorem hshr_top {n : Nat} (h1 : 1 ≤ n) (h2 : n ≤ 15) : (hshr n = 16384 ↔ n = 1) ∧ hshr n ≠ 32768 := by
  have : ∀ n : Fin 16, 1 ≤ n.val → (hshr n.val = 16384 ↔ n.val = 1) ∧ hshr n.val ≠ 32768 := by decide
  exact this ⟨n, by omega⟩ h1
theorem whole_check {ls : List Int} (hk : okLens ls = true) : (decide (sharesN ls = 32768) || decide (wordsN ls = 0) || (decide (wordsN ls = 1) && decide (onesN ls = 1))) = wholeB ls := by
  unfold wholeB
  by_cases h0 : wordsN ls = 0
  · simp [h0]
  · rw [if_neg h0]
    by_cases h1 : wordsN ls = 1
    · rw [if_pos h1]
      have hm : ∀ x ∈ ls, 0 ≤ x ∧ x ≤ 15 := fun x hx => by
        obtain ⟨i, hi, rfl⟩ := List.mem_iff_getElem.1 hx
        have := okLens_at hk i
        rw [List.getElem?_eq_getElem hi] at this
        exact this
      obtain ⟨n, q1, q2, q3, q4⟩ := words_one hm h1
      have ht := hshr_top q1 q2
      rw [q3, q4, h1]
      by_cases hn : n = 1
      · subst hn; decide
      · simp [hn, ht.2]
        intro h
        exact absurd (ht.1.1 h) hn
    · simp [h0, h1]
def checkV (ls : List Int) : Int := if okLens ls then (if wholeB ls then 0 else 5) else 1
set_option maxHeartbeats 1600000 in
theorem check_any (a : Option Addr) (len cap : Nat) (ls : List Int) (w : World) (hn : ls.length = len) (hl : len ≤ 140737488355328) (hr : IRow w a ls) :
    Calls Try.prog 11 #[.slice a len cap] w fun e w' => e = .returned (.int .i64 (checkV ls)) ∧ w' = w := by
  have HN : Hid (ls.length = len) := hn
  have HR : Hid (IRow w a ls) := hr
  clear hn hr
  by_cases hlong : 288 < len
  · have hz : (288 : Int) < (len : Int) := by omega
    have HO : Hid (checkV ls = 1) := by unfold checkV; rw [okLens_long (by rw [HN.out]; exact hlong)]; rfl
    go_enter Try.func11, Try.ntmps11
    go_wp2
    go_ret
    exact ⟨ret_int HO.out.symm, rfl⟩
  · have hz : ¬ (288 : Int) < (len : Int) := by omega
    go_enter Try.func11, Try.ntmps11
    go_wp2
    go_loop [3, 4, 5, 13] (fun rm ws os i => ∃ k : Nat, k ≤ len ∧ i = .int .i64 k ∧ rm = .int .i64 (sharesN (ls.take k)) ∧ ws = .int .i64 (wordsN (ls.take k)) ∧ os = .int .i64 (onesN (ls.take k)) ∧ Hid (∀ j, j < k → 0 ≤ ls[j]?.getD 0 ∧ ls[j]?.getD 0 ≤ 15)) (fun _ _ _ i => len - (intOf i).toNat)
    case atStart => exact ⟨0, Nat.zero_le _, rfl, rfl, rfl, rfl, fun j hj => by omega⟩
    case round =>
      obtain ⟨k, hk, rfl, rfl, rfl, rfl, HA⟩ := hrel
      have ht : (ls.take k).length ≤ 288 := by rw [List.length_take]; omega
      have hw1 := wordsN_le (ls.take k)
      have hs1 := sharesN_le (ls.take k)
      have ho1 := onesN_le (ls.take k)
      have hw2 : wordsN (ls.take k) ≤ 288 := by omega
      have hs2 : sharesN (ls.take k) ≤ 4718592 := by omega
      have ho2 : onesN (ls.take k) ≤ 288 := by omega
      clear hw1 hs1 ht ho1
      by_cases hlt : k < len
      · obtain ⟨b, off, rfl, hck⟩ := HR.out.at k (by have := HN.out; omega)
        have HW : Hid (wordsN (ls.take (k + 1)) = wordsN (ls.take k) + if 0 < ls[k]?.getD 0 then 1 else 0) := by show _ = _; rw [take_snocI ls k (by have := HN.out; omega), wordsN_snoc]
        have HS : Hid (sharesN (ls.take (k + 1)) = sharesN (ls.take k) + hshr (ls[k]?.getD 0).toNat) := by show _ = _; rw [take_snocI ls k (by have := HN.out; omega), sharesN_snoc]
        have HO1 : Hid (onesN (ls.take (k + 1)) = onesN (ls.take k) + if ls[k]?.getD 0 = 1 then 1 else 0) := by show _ = _; rw [take_snocI ls k (by have := HN.out; omega), onesN_snoc]
        generalize wordsN (ls.take k) = W at *
        generalize sharesN (ls.take k) = T at *
        generalize onesN (ls.take k) = O at *
        by_cases h0 : ls[k]?.getD 0 < 0
        · have HO : Hid (checkV ls = 1) := by unfold checkV; rw [okLens_no k (by rw [HN.out]; exact hlt) (.inl h0)]; rfl
          generalize ls[k]?.getD 0 = z at *
          go_wp2
          go_ret
          exact ⟨ret_int HO.out.symm, rfl⟩
        · by_cases h1 : 15 < ls[k]?.getD 0
          · have HO : Hid (checkV ls = 1) := by unfold checkV; rw [okLens_no k (by rw [HN.out]; exact hlt) (.inr h1)]; rfl
            generalize ls[k]?.getD 0 = z at *
            go_wp2
            go_ret
            exact ⟨ret_int HO.out.symm, rfl⟩
          · have HB : Hid (∀ j, j < k + 1 → 0 ≤ ls[j]?.getD 0 ∧ ls[j]?.getD 0 ≤ 15) := fun j hj => by
              by_cases hjk : j < k
              · exact HA.out j hjk
              · obtain rfl : j = k := by omega
                omega
            clear HA
            generalize ls[k]?.getD 0 = z at h0 h1 hck HW HS HO1
            obtain ⟨n, rfl⟩ := Int.eq_ofNat_of_zero_le (show 0 ≤ z by omega)
            have hq := hshr_le n
            rw [Int.toNat_natCast] at HS
            by_cases hp : 0 < n
            · have hpz : (0 : Int) < (n : Int) := by omega
              obtain ⟨he, _⟩ := hshr_pos n hp
              have HX : Hid (wordsN (ls.take (k + 1)) = W + 1) := by show _ = _; rw [HW.out, if_pos hpz]
              have hwn : IntKind.u64.wrap (15 - (n : Int)) = 15 - (n : Int) := by rw [IntKind.wrap_u64]; omega
              clear HW
              by_cases hone : n = 1
              · subst hone
                have HY : Hid (onesN (ls.take (k + 1)) = O + 1) := by show _ = _; rw [HO1.out]; rfl
                have e1 : hshr 1 = 16384 := rfl
                rw [e1] at HS
                clear HO1 he hq
                go_wp2
                go_round
                case rel => exact ⟨k + 1, by omega, by go_num, by rw [HS.out]; go_num, by rw [HX.out]; go_num, by rw [HY.out]; go_num, HB.out⟩
                case measure => simp [intOf]; omega
              · have honeb : ((n : Int) == 1) = false := by simp; omega
                have HY : Hid (onesN (ls.take (k + 1)) = O) := by show _ = _; rw [HO1.out, if_neg (by omega)]; rfl
                clear HO1
                generalize hshr n = q at *
                have hwr : wrap64 (q : Int) = (q : Int) := by unfold wrap64; omega
                go_wp2
                go_round
                case rel => exact ⟨k + 1, by omega, by go_num, by rw [HS.out]; go_num, by rw [HX.out]; go_num, by rw [HY.out], HB.out⟩
                case measure => simp [intOf]; omega
            · obtain rfl : n = 0 := by omega
              have HX : Hid (wordsN (ls.take (k + 1)) = W) := by show _ = _; rw [HW.out]; rfl
              have HY : Hid (onesN (ls.take (k + 1)) = O) := by show _ = _; rw [HO1.out]; rfl
              have HZ : Hid (sharesN (ls.take (k + 1)) = T) := by show _ = _; rw [HS.out]; rfl
              clear HW HO1 HS
              go_wp2
              go_round
              case rel => exact ⟨k + 1, by omega, by go_num, by rw [HZ.out], by rw [HX.out], by rw [HY.out], HB.out⟩
              case measure => simp [intOf]; omega
      · have e : ls.take k = ls := List.take_of_length_le (by have := HN.out; omega)
        have hok : okLens ls = true := okLens_yes (by rw [HN.out]; omega) (fun j hj => HA.out j (by rw [HN.out] at hj; omega))
        have HO : Hid (checkV ls = if (decide (sharesN ls = 32768) || decide (wordsN ls = 0) || (decide (wordsN ls = 1) && decide (onesN ls = 1))) then 0 else 5) := by
          show _ = _
          rw [whole_check hok]; unfold checkV; rw [hok]; rfl
        rw [e] at *
        clear e hok HA
        generalize wordsN ls = W at *
        generalize sharesN ls = T at *
        generalize onesN ls = O at *
        by_cases hT : T = 32768
        · subst hT
          go_wp2
          go_ret
          exact ⟨ret_int (by rw [HO.out]; rfl), rfl⟩
        · have hTb : ((T : Int) == 32768) = false := by simp; omega
          by_cases hW0 : W = 0
          · subst hW0
            go_wp2
            go_ret
            exact ⟨ret_int (by rw [HO.out]; simp), rfl⟩
          · have hW0b : ((W : Int) == 0) = false := by simp; omega
            by_cases hW1 : W = 1
            · subst hW1
              by_cases hO : O = 1
              · subst hO
                go_wp2
                go_ret
                exact ⟨ret_int (by rw [HO.out]; simp), rfl⟩
              · have hOb : ((O : Int) == 1) = false := by simp; omega
                go_wp2
                go_ret
                exact ⟨ret_int (by rw [HO.out]; simp [hT, hO]), rfl⟩
            · have hW1b : ((W : Int) == 1) = false := by simp; omega
              go_wp2
              go_ret
              exact ⟨ret_int (by rw [HO.out]; simp [hT, hW0, hW1]), rfl⟩
end Go.Proofs.Ytjellgkojmgmjaa
