import Derived.Test.YtmlondjkjdlcjaaAdF
namespace Go.Proofs.Ytmlondjkjdlcjaa
open Go.RowKit
set_option maxHeartbeats 400000 in
theorem joins_law (a b n : Int) (w : World) (wa : (Lit.int .u32 a).wf = true) (wb : (Lit.int .u32 b).wf = true) (wn : (Lit.int .i64 n).wf = true) :
    Calls Try.prog 5 #[.int .u32 a, .int .u32 b, .int .i64 n] w fun e w' => e = .returned (.bool true) ∧ Below w.heap.size w w' := by
  have HA : U32 a := bounds_u32 wa
  have HB : U32 b := bounds_u32 wb
  have HN : Hid _ := bounds_i64 wn
  clear wa wb wn
  have J := fun w => join_any a b n w HA HB HN.out
  have R := fun w => rjoin_any a b n w HA HB HN.out
  generalize joinN a b (max n 0) = r at *
  go_enter Try.func5, Try.ntmps5
  go_wp2_with fail
  refine (fixed_any _).mono ?_
  rintro e w1 ⟨rfl, hB⟩
  go_wp2_with fail
  refine (J _).mono ?_
  rintro e w2 ⟨rfl, rfl⟩
  go_wp2_with fail
  refine (R _).mono ?_
  rintro e w3 ⟨rfl, rfl⟩
  go_wp2
  go_ret
  exact ⟨rfl, hB⟩
end Go.Proofs.Ytmlondjkjdlcjaa
