import Derived.Test.YtmmgkfeedhnlbaaCrF
namespace Go.Proofs.Ytmmgkfeedhnlbaa
open Go.RowKit
theorem word_of {a : Int} (h : (Lit.int .u32 a).wf = true) : ∃ x : BitVec 32, a = (x.toNat : Int) := by
  have := bounds_u32 h
  exact ⟨wd a, (wd_toNat a this.1 (by omega)).symm⟩
set_option maxHeartbeats 400000 in
theorem joins_law (a b n : Int) (w : World) (wa : (Lit.int .u32 a).wf = true) (wb : (Lit.int .u32 b).wf = true) (wn : (Lit.int .i64 n).wf = true) :
    Calls Try.prog 5 #[.int .u32 a, .int .u32 b, .int .i64 n] w fun e w' => e = .returned (.bool true) ∧ Below w.heap.size w w' := by
  obtain ⟨x, rfl⟩ := word_of wa
  obtain ⟨y, rfl⟩ := word_of wb
  have hn := bounds_i64 wn
  clear wa wb wn
  by_cases hb : 5000 < n
  · go_enter Try.func5, Try.ntmps5
    go_wp2_with fail
    refine (fixed_any _).mono ?_
    rintro e w1 ⟨rfl, hB⟩
    go_wp2
    go_ret
    exact ⟨rfl, hB⟩
  have J := fun w => join_nat x y n (max n 0).toNat w (by omega) (by omega)
  have R := fun w => rjoin_nat x y n (max n 0).toNat w (by omega) (by omega)
  generalize joinW x y (max n 0).toNat = r at *
  go_enter Try.func5, Try.ntmps5
  go_wp2_with fail
  refine (fixed_any _).mono ?_
  rintro e w1 ⟨rfl, hB⟩
  go_wp2_with fail
  refine (J _).mono ?_
  rintro e w2 ⟨rfl, rfl⟩
  go_wp2_with fail
  refine (R _).mono ?_
  rintro e w3 ⟨rfl, rfl⟩
  go_wp2
  go_ret
  exact ⟨rfl, hB⟩
end Go.Proofs.Ytmmgkfeedhnlbaa
