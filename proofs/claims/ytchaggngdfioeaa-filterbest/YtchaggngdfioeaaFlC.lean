/- The reference's guess. -/
import Derived.Test.YtchaggngdfioeaaFlB
namespace Go.Proofs.Ytchaggngdfioeaa
open Go.RowKit
theorem near_ref (l u c p : Int) (hp : p = l + u - c) : nearN l u c =
    (if szN (u - p) < szN (l - p) then (if szN (c - p) < szN (u - p) then c else u) else (if szN (c - p) < szN (l - p) then c else l)) := by
  subst hp
  unfold nearN
  rw [szN_neg u, szN_neg l, szN_neg c]
  generalize szN (l + u - c - l) = A
  generalize szN (l + u - c - u) = B
  generalize szN (l + u - c - c) = C
  by_cases h1 : A ≤ B
  · rw [if_neg (show ¬ B < A by omega)]
    by_cases h2 : A ≤ C
    · rw [if_pos ⟨h1, h2⟩, if_neg (by omega)]
    · rw [if_neg (fun h => h2 h.2), if_neg (show ¬ B ≤ C by omega), if_pos (by omega)]
  · rw [if_pos (show B < A by omega), if_neg (fun h => h1 h.1)]
    by_cases h2 : B ≤ C
    · rw [if_pos h2, if_neg (by omega)]
    · rw [if_neg h2, if_pos (by omega)]
set_option maxHeartbeats 800000 in
theorem rguess_any (k : Int) (a : Option Addr) (n cap : Nat) (a' : Option Addr) (n' cap' : Nat) (i s : Int) (x y : List Int) (w : World) (hx : x.length = n) (hy : y.length = n') (bx : Bytes x) (bY : Bytes y) (rx : Row w a x) (ry : Row w a' y)
    (hi0 : 0 ≤ i) (hi1 : i ≤ 140737488355328) (hs0 : 0 ≤ s) (hs1 : s ≤ 8) :
    Calls Try.prog 20 #[.int .i64 k, .slice a n cap, .slice a' n' cap', .int .i64 s, .int .i64 i] w fun e w' => e = .returned (.int .i64 (gsN k x y i s)) ∧ w' = w := by
  have cA := rat_any a n cap x (i - s) w hx bx rx
  have cB := rat_any a' n' cap' y i w hy bY ry
  have cC := rat_any a' n' cap' y (i - s) w hy bY ry
  have hA := atN_byte bx (i - s)
  have hB := atN_byte bY i
  have hC := atN_byte bY (i - s)
  unfold gsN
  generalize atN x (i - s) = A at *
  generalize atN y i = B at *
  generalize atN y (i - s) = C at *
  clear hx hy bx bY rx ry
  obtain ⟨hA0, hA1⟩ := hA
  obtain ⟨hB0, hB1⟩ := hB
  obtain ⟨hC0, hC1⟩ := hC
  by_cases k1 : k = 1
  · subst k1
    go_enter Try.func20, Try.ntmps20
    go_wp2_with fail
    refine cA.mono ?_
    rintro e w1 ⟨rfl, rfl⟩
    go_wp2_with fail
    refine cB.mono ?_
    rintro e w1 ⟨rfl, rfl⟩
    go_wp2_with fail
    refine cC.mono ?_
    rintro e w1 ⟨rfl, rfl⟩
    go_wp2
    go_ret
    exact ⟨rfl, rfl⟩
  by_cases k2 : k = 2
  · subst k2
    go_enter Try.func20, Try.ntmps20
    go_wp2_with fail
    refine cA.mono ?_
    rintro e w1 ⟨rfl, rfl⟩
    go_wp2_with fail
    refine cB.mono ?_
    rintro e w1 ⟨rfl, rfl⟩
    go_wp2_with fail
    refine cC.mono ?_
    rintro e w1 ⟨rfl, rfl⟩
    go_wp2
    go_ret
    exact ⟨rfl, rfl⟩
  by_cases k3 : k = 3
  · subst k3
    have hdiv : (A + B).tdiv 2 = (A + B) / 2 := Int.tdiv_eq_ediv_of_nonneg (by omega)
    go_enter Try.func20, Try.ntmps20
    go_wp2_with fail
    refine cA.mono ?_
    rintro e w1 ⟨rfl, rfl⟩
    go_wp2_with fail
    refine cB.mono ?_
    rintro e w1 ⟨rfl, rfl⟩
    go_wp2_with fail
    refine cC.mono ?_
    rintro e w1 ⟨rfl, rfl⟩
    go_wp2
    go_ret
    exact ⟨rfl, rfl⟩
  by_cases k4 : k = 4
  · subst k4
    rw [show gsOf 4 A B C = nearN A B C from rfl, near_ref A B C _ rfl]
    have sA := rsize_any (A - (A + B - C)) w (by omega) (by omega)
    have sB := rsize_any (B - (A + B - C)) w (by omega) (by omega)
    have sC := rsize_any (C - (A + B - C)) w (by omega) (by omega)
    generalize szN (A - (A + B - C)) = X at *
    generalize szN (B - (A + B - C)) = Y at *
    generalize szN (C - (A + B - C)) = Z at *
    generalize hP : A + B - C = P at *
    have HP : Hid (A + B - C = P) := hP
    by_cases h1 : Y < X
    · rw [if_pos h1]
      by_cases h2 : Z < Y
      · rw [if_pos h2]
        go_enter Try.func20, Try.ntmps20
        go_wp2_with fail
        refine cA.mono ?_
        rintro e w1 ⟨rfl, rfl⟩
        go_wp2_with fail
        refine cB.mono ?_
        rintro e w1 ⟨rfl, rfl⟩
        go_wp2_with fail
        refine cC.mono ?_
        rintro e w1 ⟨rfl, rfl⟩
        go_wp2_with fail
        refine sB.mono ?_
        rintro e w1 ⟨rfl, rfl⟩
        go_wp2_with fail
        refine sA.mono ?_
        rintro e w1 ⟨rfl, rfl⟩
        go_wp2_with fail
        refine sC.mono ?_
        rintro e w1 ⟨rfl, rfl⟩
        go_wp2_with fail
        refine sB.mono ?_
        rintro e w1 ⟨rfl, rfl⟩
        go_wp2
        go_ret
        exact ⟨rfl, rfl⟩
      · rw [if_neg h2]
        go_enter Try.func20, Try.ntmps20
        go_wp2_with fail
        refine cA.mono ?_
        rintro e w1 ⟨rfl, rfl⟩
        go_wp2_with fail
        refine cB.mono ?_
        rintro e w1 ⟨rfl, rfl⟩
        go_wp2_with fail
        refine cC.mono ?_
        rintro e w1 ⟨rfl, rfl⟩
        go_wp2_with fail
        refine sB.mono ?_
        rintro e w1 ⟨rfl, rfl⟩
        go_wp2_with fail
        refine sA.mono ?_
        rintro e w1 ⟨rfl, rfl⟩
        go_wp2_with fail
        refine sC.mono ?_
        rintro e w1 ⟨rfl, rfl⟩
        go_wp2_with fail
        refine sB.mono ?_
        rintro e w1 ⟨rfl, rfl⟩
        go_wp2
        go_ret
        exact ⟨rfl, rfl⟩
    · rw [if_neg h1]
      by_cases h2 : Z < X
      · rw [if_pos h2]
        go_enter Try.func20, Try.ntmps20
        go_wp2_with fail
        refine cA.mono ?_
        rintro e w1 ⟨rfl, rfl⟩
        go_wp2_with fail
        refine cB.mono ?_
        rintro e w1 ⟨rfl, rfl⟩
        go_wp2_with fail
        refine cC.mono ?_
        rintro e w1 ⟨rfl, rfl⟩
        go_wp2_with fail
        refine sB.mono ?_
        rintro e w1 ⟨rfl, rfl⟩
        go_wp2_with fail
        refine sA.mono ?_
        rintro e w1 ⟨rfl, rfl⟩
        go_wp2_with fail
        refine sC.mono ?_
        rintro e w1 ⟨rfl, rfl⟩
        go_wp2_with fail
        refine sA.mono ?_
        rintro e w1 ⟨rfl, rfl⟩
        go_wp2
        go_ret
        exact ⟨rfl, rfl⟩
      · rw [if_neg h2]
        go_enter Try.func20, Try.ntmps20
        go_wp2_with fail
        refine cA.mono ?_
        rintro e w1 ⟨rfl, rfl⟩
        go_wp2_with fail
        refine cB.mono ?_
        rintro e w1 ⟨rfl, rfl⟩
        go_wp2_with fail
        refine cC.mono ?_
        rintro e w1 ⟨rfl, rfl⟩
        go_wp2_with fail
        refine sB.mono ?_
        rintro e w1 ⟨rfl, rfl⟩
        go_wp2_with fail
        refine sA.mono ?_
        rintro e w1 ⟨rfl, rfl⟩
        go_wp2_with fail
        refine sC.mono ?_
        rintro e w1 ⟨rfl, rfl⟩
        go_wp2_with fail
        refine sA.mono ?_
        rintro e w1 ⟨rfl, rfl⟩
        go_wp2
        go_ret
        exact ⟨rfl, rfl⟩
  · rw [show gsOf k A B C = 0 from by unfold gsOf; rw [if_neg k1, if_neg k2, if_neg k3, if_neg k4]]
    go_enter Try.func20, Try.ntmps20
    go_wp2_with fail
    refine cA.mono ?_
    rintro e w1 ⟨rfl, rfl⟩
    go_wp2_with fail
    refine cB.mono ?_
    rintro e w1 ⟨rfl, rfl⟩
    go_wp2_with fail
    refine cC.mono ?_
    rintro e w1 ⟨rfl, rfl⟩
    go_wp2
    go_ret
    exact ⟨rfl, rfl⟩
end Go.Proofs.Ytchaggngdfioeaa
