import Derived.Test.YtmmgkfeedhnlbaaCJoinsW
namespace Go.Proofs.Ytmmgkfeedhnlbaa
open Go.RowKit
set_option maxHeartbeats 400000 in
theorem sums_law (n : Int) (a : Option Addr) (len cap : Nat) (w : World) (wn : (Lit.int .u32 n).wf = true) (ha : BArg w a len cap) :
    Calls Try.prog 3 #[.int .u32 n, .slice a len cap] w fun e w' => e = .returned (.bool true) ∧ Below w.heap.size w w' := by
  obtain ⟨x, rfl⟩ := word_of wn
  obtain ⟨A, hA, hAn, hn, hc, hc0, hAr⟩ := ha
  have HA : Hid (Bytes A) := hA
  have HN : Hid (A.length = len) := hAn
  have HR : Hid (Row w a A) := hAr
  clear hA hAn hAr wn
  by_cases hbig : 5000 < (len : Int)
  · go_enter Try.func3, Try.ntmps3
    go_wp2_with fail
    refine (fixed_any _).mono ?_
    rintro e w1 ⟨rfl, hB⟩
    go_wp2
    go_ret
    exact ⟨rfl, hB⟩
  go_enter Try.func3, Try.ntmps3
  go_wp2_with fail
  refine (fixed_any _).mono ?_
  rintro e w1 ⟨rfl, hb1⟩
  go_wp2_with (at_builtin; refine wpList_copy rfl _ _ rfl a len cap A rfl rfl hc0 HN.out (HR.out.old hb1) (by omega) ?_)
  intro a' c' w2 g hsl hg hb2
  have hB : Below w.heap.size w w2 := hb1.trans (hb2.mono hb1.size)
  obtain ⟨a2, c2, hv, hle, hmx, hnil⟩ := hsl.shape
  simp only [Value.slice.injEq] at hv
  obtain ⟨rfl, hln, rfl⟩ := hv
  rw [vals_len, HN.out] at hle
  have HS : Hid (Row w2 a' A) := hsl.row rfl
  have HT : Hid (Row w2 a A) := (HR.out.old hb1).old hb2
  unfold maxLen at hmx
  have HK : Hid (BOk w2 a' len c' A) := ⟨HN.out, HA.out, hle, by omega, hnil, HS.out⟩
  have HO2 : Hid (Below w.heap.size w (w2.alloc (.cells #[.slice a' len c'] 23))) := hB.alloc hB.size _
  have HS2 : Hid (Row (w2.alloc (.cells #[.slice a' len c'] 23)) a' A) := HS.out.alloc _
  have HT2 : Hid (Row (w2.alloc (.cells #[.slice a' len c'] 23)) a A) := HT.out.alloc _
  clear hsl hg hb1 hb2 HR hln hmx hnil hB
  go_wp2_with fail
  refine (more_any x a' len c' A _ HN.out (by omega) HA.out HS.out).mono ?_
  rintro e w3 ⟨rfl, rfl⟩
  go_wp2_with fail
  refine (rmore_any x a len cap A _ HN.out (by omega) HA.out HT.out).mono ?_
  rintro e w3 ⟨rfl, rfl⟩
  go_wp2_with fail
  refine (of_one _ _ (by simp) a' len c' A HK.out).mono ?_
  rintro e w4 ⟨rfl, rfl⟩
  go_wp2_with fail
  refine (rof_any a len cap A _ HN.out (by omega) HA.out HT2.out).mono ?_
  rintro e w4 ⟨rfl, hw4⟩
  rw [hw4]
  go_wp2_with fail
  refine (same_any a' a len c' cap A _ HN.out HS2.out HT2.out).mono ?_
  rintro e w5 ⟨rfl, hw5⟩
  rw [hw5]
  go_wp2
  go_ret
  exact ⟨rfl, HO2.out⟩
end Go.Proofs.Ytmmgkfeedhnlbaa
