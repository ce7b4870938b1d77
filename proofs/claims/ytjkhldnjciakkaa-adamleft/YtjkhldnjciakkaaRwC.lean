/- Rows of bytes, cut; bytes put behind, at one step of a region that draws its order. -/
import Derived.Test.YtjkhldnjciakkaaStepL
import Derived.Test.YtjkhldnjciakkaaRdN
import Derived.Deep.RegionLaw
namespace Go.Proofs.Ytjkhldnjciakkaa
open Go.RowKit
theorem Row.take {w : World} {a : Option Addr} {l : List Int} (h : Row w a l) (k : Nat) : Row w a (l.take k) := by
  rcases h with rfl | ⟨b, off, e, hc⟩
  · exact .inl (by simp)
  · refine .inr ⟨b, off, e, fun i hi => ?_⟩
    rw [List.length_take] at hi
    have hi' : i < k := by omega
    rw [hc i (by omega)]
    simp [hi']
theorem Row.cut {w : World} {a : Option Addr} {l : List Int} (h : Row w a l) (k cap : Nat) (hk : k ≤ l.length) (hc : l.length ≤ cap) : Row w (if cap = k then a else Option.map (fun x => x.add k) a) (l.drop k) := by
  by_cases hkl : k = l.length
  · exact .inl (by rw [hkl]; simp)
  · rcases h with rfl | ⟨b, off, rfl, hr⟩
    · simp at hk; exact absurd hk hkl
    · rw [if_neg (by omega)]
      refine .inr ⟨b, off + k, by simp [Addr.add_lit], fun i hi => ?_⟩
      rw [List.length_drop] at hi
      rw [Nat.add_assoc, hr (k + i) (by omega)]
      simp
end Go.Proofs.Ytjkhldnjciakkaa
