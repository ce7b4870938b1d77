import Derived.Test.YthoandjljgkcbaaArg
namespace Go.Proofs.Ythoandjljgkcbaa
open Go.RowKit
theorem numbers_law (a : Option Addr) (len cap : Nat) (p n : Int) (w : World) (h : BArg w a len cap) (_ : (Lit.int .i64 p).wf = true) (wn : (Lit.int .i64 n).wf = true) :
    Calls Try.prog 3 #[.slice a len cap, .int .i64 p, .int .i64 n] w fun e w' => e = .returned (.bool true) ∧ Below w.heap.size w w' := by
  obtain ⟨zs, hb, hn, hl, hm, _, hr⟩ := h
  exact numbers_walk a len cap p n zs w wn hn hl (by unfold maxLen; omega) hb hr
end Go.Proofs.Ythoandjljgkcbaa
