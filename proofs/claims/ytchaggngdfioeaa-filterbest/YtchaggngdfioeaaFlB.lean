/- The program's and the reference's guess, and what they refuse. -/
import Derived.Test.YtchaggngdfioeaaFlA
namespace Go.Proofs.Ytchaggngdfioeaa
open Go.RowKit
def nearV (v a b c : Int) : Int := if szN (v - a) ≤ szN (v - b) ∧ szN (v - a) ≤ szN (v - c) then a else if szN (v - b) ≤ szN (v - c) then b else c
theorem nearN_V (l u c : Int) : nearN l u c = nearV (l + u - c) l u c := rfl
theorem szN_neg (a b : Int) : szN (a - b) = szN (b - a) := by unfold szN; split <;> split <;> omega
set_option maxHeartbeats 400000 in
theorem nearest_any (v a b c : Int) (w : World) (hv : -1000 ≤ v ∧ v ≤ 1000) (ha : -1000 ≤ a ∧ a ≤ 1000) (hb : -1000 ≤ b ∧ b ≤ 1000) (hc : -1000 ≤ c ∧ c ≤ 1000) :
    Calls Try.prog 23 #[.int .i64 v, .int .i64 a, .int .i64 b, .int .i64 c] w fun e w' => e = .returned (.int .i64 (nearV v a b c)) ∧ w' = w := by
  have cA := size_any (v - a) w (by omega) (by omega)
  have cB := size_any (v - b) w (by omega) (by omega)
  have cC := size_any (v - c) w (by omega) (by omega)
  unfold nearV
  generalize szN (v - a) = A at *
  generalize szN (v - b) = B at *
  generalize szN (v - c) = C at *
  obtain ⟨hv1, hv2⟩ := hv
  obtain ⟨ha1, ha2⟩ := ha
  obtain ⟨hb1, hb2⟩ := hb
  obtain ⟨hc1, hc2⟩ := hc
  by_cases h1 : A ≤ B
  · by_cases h2 : A ≤ C
    · rw [if_pos ⟨h1, h2⟩]
      go_enter Try.func23, Try.ntmps23
      go_wp2_with fail
      refine cA.mono ?_
      rintro e w1 ⟨rfl, rfl⟩
      go_wp2_with fail
      refine cB.mono ?_
      rintro e w1 ⟨rfl, rfl⟩
      go_wp2_with fail
      refine cC.mono ?_
      rintro e w1 ⟨rfl, rfl⟩
      go_wp2
      go_ret
      exact ⟨rfl, rfl⟩
    · rw [if_neg (fun h => h2 h.2)]
      by_cases h3 : B ≤ C
      · omega
      · rw [if_neg h3]
        go_enter Try.func23, Try.ntmps23
        go_wp2_with fail
        refine cA.mono ?_
        rintro e w1 ⟨rfl, rfl⟩
        go_wp2_with fail
        refine cB.mono ?_
        rintro e w1 ⟨rfl, rfl⟩
        go_wp2_with fail
        refine cC.mono ?_
        rintro e w1 ⟨rfl, rfl⟩
        go_wp2
        go_ret
        exact ⟨rfl, rfl⟩
  · rw [if_neg (fun h => h1 h.1)]
    by_cases h3 : B ≤ C
    · rw [if_pos h3]
      go_enter Try.func23, Try.ntmps23
      go_wp2_with fail
      refine cA.mono ?_
      rintro e w1 ⟨rfl, rfl⟩
      go_wp2_with fail
      refine cB.mono ?_
      rintro e w1 ⟨rfl, rfl⟩
      go_wp2_with fail
      refine cC.mono ?_
      rintro e w1 ⟨rfl, rfl⟩
      go_wp2
      go_ret
      exact ⟨rfl, rfl⟩
    · rw [if_neg h3]
      go_enter Try.func23, Try.ntmps23
      go_wp2_with fail
      refine cA.mono ?_
      rintro e w1 ⟨rfl, rfl⟩
      go_wp2_with fail
      refine cB.mono ?_
      rintro e w1 ⟨rfl, rfl⟩
      go_wp2_with fail
      refine cC.mono ?_
      rintro e w1 ⟨rfl, rfl⟩
      go_wp2
      go_ret
      exact ⟨rfl, rfl⟩
theorem guess_any (k : Int) (a : Option Addr) (n cap : Nat) (a' : Option Addr) (n' cap' : Nat) (i s : Int) (x y : List Int) (w : World) (hx : x.length = n) (hy : y.length = n') (bx : Bytes x) (bY : Bytes y) (rx : Row w a x) (ry : Row w a' y)
    (hi0 : 0 ≤ i) (hi1 : i ≤ 140737488355328) (hs0 : 0 ≤ s) (hs1 : s ≤ 8) :
    Calls Try.prog 18 #[.int .i64 k, .slice a n cap, .slice a' n' cap', .int .i64 i, .int .i64 s] w fun e w' => e = .returned (.int .i64 (gsN k x y i s)) ∧ w' = w := by
  have cA := at_any a n cap x (i - s) w hx bx rx
  have cB := at_any a' n' cap' y i w hy bY ry
  have cC := at_any a' n' cap' y (i - s) w hy bY ry
  have hA := atN_byte bx (i - s)
  have hB := atN_byte bY i
  have hC := atN_byte bY (i - s)
  unfold gsN
  generalize atN x (i - s) = A at *
  generalize atN y i = B at *
  generalize atN y (i - s) = C at *
  clear hx hy bx bY rx ry
  obtain ⟨hA0, hA1⟩ := hA
  obtain ⟨hB0, hB1⟩ := hB
  obtain ⟨hC0, hC1⟩ := hC
  by_cases k1 : k = 1
  · subst k1
    go_enter Try.func18, Try.ntmps18
    go_wp2_with fail
    refine cA.mono ?_
    rintro e w1 ⟨rfl, rfl⟩
    go_wp2_with fail
    refine cB.mono ?_
    rintro e w1 ⟨rfl, rfl⟩
    go_wp2_with fail
    refine cC.mono ?_
    rintro e w1 ⟨rfl, rfl⟩
    go_wp2
    go_ret
    exact ⟨rfl, rfl⟩
  by_cases k2 : k = 2
  · subst k2
    go_enter Try.func18, Try.ntmps18
    go_wp2_with fail
    refine cA.mono ?_
    rintro e w1 ⟨rfl, rfl⟩
    go_wp2_with fail
    refine cB.mono ?_
    rintro e w1 ⟨rfl, rfl⟩
    go_wp2_with fail
    refine cC.mono ?_
    rintro e w1 ⟨rfl, rfl⟩
    go_wp2
    go_ret
    exact ⟨rfl, rfl⟩
  by_cases k3 : k = 3
  · subst k3
    go_enter Try.func18, Try.ntmps18
    go_wp2_with fail
    refine cA.mono ?_
    rintro e w1 ⟨rfl, rfl⟩
    go_wp2_with fail
    refine cB.mono ?_
    rintro e w1 ⟨rfl, rfl⟩
    go_wp2_with fail
    refine cC.mono ?_
    rintro e w1 ⟨rfl, rfl⟩
    go_wp2
    go_ret
    exact ⟨rfl, rfl⟩
  by_cases k4 : k = 4
  · subst k4
    have cN := nearest_any (A + B - C) A B C w (by omega) (by omega) (by omega) (by omega)
    rw [show gsOf 4 A B C = nearV (A + B - C) A B C from rfl]
    generalize nearV (A + B - C) A B C = R at *
    go_enter Try.func18, Try.ntmps18
    go_wp2_with fail
    refine cA.mono ?_
    rintro e w1 ⟨rfl, rfl⟩
    go_wp2_with fail
    refine cB.mono ?_
    rintro e w1 ⟨rfl, rfl⟩
    go_wp2_with fail
    refine cC.mono ?_
    rintro e w1 ⟨rfl, rfl⟩
    go_wp2_with fail
    refine cN.mono ?_
    rintro e w1 ⟨rfl, rfl⟩
    go_wp2
    go_ret
    exact ⟨rfl, rfl⟩
  · rw [show gsOf k A B C = 0 from by unfold gsOf; rw [if_neg k1, if_neg k2, if_neg k3, if_neg k4]]
    go_enter Try.func18, Try.ntmps18
    go_wp2_with fail
    refine cA.mono ?_
    rintro e w1 ⟨rfl, rfl⟩
    go_wp2_with fail
    refine cB.mono ?_
    rintro e w1 ⟨rfl, rfl⟩
    go_wp2_with fail
    refine cC.mono ?_
    rintro e w1 ⟨rfl, rfl⟩
    go_wp2
    go_ret
    exact ⟨rfl, rfl⟩
set_option maxHeartbeats 400000 in
theorem check_any (k s : Int) (w : World) : Calls Try.prog 17 #[.int .i64 k, .int .i64 s] w fun e w' => e = .returned (.int .i64 (ckN k s)) ∧ w' = w := by
  unfold ckN
  by_cases h1 : s < 1
  · rw [if_pos (.inl h1)]
    go_enter Try.func17, Try.ntmps17
    go_wp2
    go_ret
    exact ⟨rfl, rfl⟩
  by_cases h2 : 8 < s
  · rw [if_pos (.inr h2)]
    go_enter Try.func17, Try.ntmps17
    go_wp2
    go_ret
    exact ⟨rfl, rfl⟩
  rw [if_neg (by omega)]
  by_cases h3 : k < 0
  · rw [if_pos (.inl h3)]
    go_enter Try.func17, Try.ntmps17
    go_wp2
    go_ret
    exact ⟨rfl, rfl⟩
  by_cases h4 : 4 < k
  · rw [if_pos (.inr h4)]
    have h5 : 5 ≤ k := by omega
    go_enter Try.func17, Try.ntmps17
    go_wp2
    go_ret
    exact ⟨rfl, rfl⟩
  · rw [if_neg (by omega)]
    have h5 : ¬ 5 ≤ k := by omega
    go_enter Try.func17, Try.ntmps17
    go_wp2
    go_ret
    exact ⟨rfl, rfl⟩
set_option maxHeartbeats 400000 in
theorem rcheck_any (k s : Int) (w : World) : Calls Try.prog 19 #[.int .i64 k, .int .i64 s] w fun e w' => e = .returned (.int .i64 (ckN k s)) ∧ w' = w := by
  unfold ckN
  by_cases h1 : s < 1
  · rw [if_pos (.inl h1)]
    go_enter Try.func19, Try.ntmps19
    go_wp2
    go_ret
    exact ⟨rfl, rfl⟩
  by_cases h2 : 8 < s
  · rw [if_pos (.inr h2)]
    go_enter Try.func19, Try.ntmps19
    go_wp2
    go_ret
    exact ⟨rfl, rfl⟩
  rw [if_neg (by omega)]
  by_cases h3 : k < 0
  · rw [if_pos (.inl h3)]
    go_enter Try.func19, Try.ntmps19
    go_wp2
    go_ret
    exact ⟨rfl, rfl⟩
  by_cases h4 : 4 < k
  · rw [if_pos (.inr h4)]
    go_enter Try.func19, Try.ntmps19
    go_wp2
    go_ret
    exact ⟨rfl, rfl⟩
  · rw [if_neg (by omega)]
    go_enter Try.func19, Try.ntmps19
    go_wp2
    go_ret
    exact ⟨rfl, rfl⟩
end Go.Proofs.Ytchaggngdfioeaa
