import Derived.Test.YtmlondjkjdlcjaaAdF
namespace Go.Proofs.Ytmlondjkjdlcjaa
open Go.RowKit
set_option maxHeartbeats 400000 in
theorem sums_law (n : Int) (a : Option Addr) (len cap : Nat) (w : World) (wn : (Lit.int .u32 n).wf = true) (ha : BArg w a len cap) :
    Calls Try.prog 3 #[.int .u32 n, .slice a len cap] w fun e w' => e = .returned (.bool true) ∧ Below w.heap.size w w' := by
  have HU : U32 n := bounds_u32 wn
  obtain ⟨A, hA, hAn, hn, hc, hc0, hAr⟩ := ha
  have HA : Hid (Bytes A) := hA
  have HN : Hid (A.length = len) := hAn
  have HR : Hid (Row w a A) := hAr
  clear hA hAn hAr wn
  go_enter Try.func3, Try.ntmps3
  go_wp2_with fail
  refine (fixed_any _).mono ?_
  rintro e w1 ⟨rfl, hb1⟩
  go_wp2_with (at_builtin; refine wpList_copy rfl _ _ rfl a len cap A rfl rfl hc0 HN.out (HR.out.old hb1) (by omega) ?_)
  intro a' c' w2 g hsl hg hb2
  have HB : Hid (Below w.heap.size w w2) := hb1.trans (hb2.mono hb1.size)
  have HS : Hid (Row w2 a' A) := hsl.row rfl
  have HT : Hid (Row w2 a A) := (HR.out.old hb1).old hb2
  clear hsl hg hb1 hb2 HR
  go_wp2_with fail
  refine (more_any n a' len c' A _ HU HN.out (by omega) HA.out HS.out).mono ?_
  rintro e w3 ⟨rfl, rfl⟩
  go_wp2_with fail
  refine (rmore_any n a len cap A _ HU HN.out (by omega) HA.out HT.out).mono ?_
  rintro e w3 ⟨rfl, rfl⟩
  go_wp2_with fail
  refine (of_any a' len c' A _ HN.out (by omega) HA.out HS.out).mono ?_
  rintro e w3 ⟨rfl, rfl⟩
  go_wp2_with fail
  refine (rof_any a len cap A _ HN.out (by omega) HA.out HT.out).mono ?_
  rintro e w3 ⟨rfl, rfl⟩
  go_wp2_with fail
  refine (is_any n _ HU).mono ?_
  rintro e w3 ⟨rfl, rfl⟩
  go_wp2_with fail
  refine (ris_any n _ HU).mono ?_
  rintro e w3 ⟨rfl, rfl⟩
  go_wp2_with fail
  refine (same_any a' a len c' cap A _ HN.out HS.out HT.out).mono ?_
  rintro e w3 ⟨rfl, rfl⟩
  go_wp2
  go_ret
  exact ⟨rfl, HB.out⟩
end Go.Proofs.Ytmlondjkjdlcjaa
