import Derived.Test.YthoandjljgkcbaaBack
namespace Go.Proofs.Ythoandjljgkcbaa
open Go.RowKit
theorem back_law (v s : Int) (a2 : Option Addr) (len2 cap2 : Nat) (a3 : Option Addr) (len3 cap3 : Nat) (w : World) (_ : (Lit.int .i64 v).wf = true) (ws : (Lit.int .u8 s).wf = true) (h2 : BArg w a2 len2 cap2 ∧ cap2 ≤ 1048576) (h3 : BArg w a3 len3 cap3 ∧ cap3 ≤ 1048576) :
    Calls Try.prog 5 #[.int .i64 v, .int .u8 s, .slice a2 len2 cap2, .slice a3 len3 cap3] w fun e w' => e = .returned (.bool true) ∧ Below w.heap.size w w' := by
  have hs := bounds_u8 ws
  obtain ⟨n, hn⟩ := Int.eq_ofNat_of_zero_le (show 0 ≤ s % 4 by omega)
  exact back_walk v s a2 len2 cap2 a3 len3 cap3 n w (by omega) (by omega) hn (by omega) h2.1 h3.1 h2.2 h3.2
end Go.Proofs.Ythoandjljgkcbaa
