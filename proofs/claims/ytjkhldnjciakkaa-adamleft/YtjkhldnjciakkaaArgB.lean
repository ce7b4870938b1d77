import Derived.Test.YtjkhldnjciakkaaBas
import Derived.Below
import Derived.ProofKit
import Derived.OpenShut
import Derived.ShutString
import Derived.SizedLaws
namespace Go.Proofs.Ytjkhldnjciakkaa
open Go.ChangeShapes Go.WideShapes Go.ChangeAt Go.RowKit

theorem row_of_arg {w : World} {k : Nat} {zs : List Int} {x : Addr} (hk : k ≤ zs.length) (h : ∀ i, i < zs.length → w.cell? (x.add i) = some (.int .u8 (zs.getD i 0))) : Row w (some x) (zs.take k) := by
  by_cases h0 : k = 0
  · subst h0; exact .inl rfl
  · obtain ⟨b, off, spot⟩ := x
    have hc := h 0 (by omega)
    have hspot : spot = none := by simpa [Addr.add] using World.cell?_spot hc
    subst hspot
    refine .inr ⟨b, off, rfl, fun i hi => ?_⟩
    rw [List.length_take] at hi
    have h1 : i < k := by omega
    have hq := h i (by omega)
    simp only [List.getElem?_take, h1, if_true]
    cases i with
    | zero => simpa [Addr.add] using hq
    | succ j => simpa [Addr.add] using hq
theorem bytes_of_wf {zs : List Int} (h : ∀ n ∈ zs, (Lit.int .u8 n).wf = true) : Bytes zs := by
  intro z hz
  have := bounds_u8 (h z hz)
  omega

theorem Try.bytes5 : Try.prog.bytesOf 5 = 1 := by kernel_rfl
theorem Try.cells5 : Try.prog.cellsOf 5 = 1 := by kernel_rfl
theorem Try.own : ownKnob Try.prog.godebug = none := by kernel_rfl
theorem Try.laidOut : laidOutB Try.prog = true := by kernel_rfl

/-- What is known of bytes that came in: they lie in memory, within the form's reach. -/
def BArg (W : World) (a : Option Addr) (len cap : Nat) : Prop :=
  ∃ zs : List Int, Bytes zs ∧ zs.length = len ∧ len ≤ cap ∧ cap ≤ 140737488351232 ∧ (a = none → cap = 0) ∧ Row W a zs

end Go.Proofs.Ytjkhldnjciakkaa
