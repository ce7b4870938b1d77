/- What a raster must be: the document's tables. -/
import Derived.Test.YtbjoalgglmalnabDoorPyF
namespace Go.Proofs.YtbjoalgglmalnabDoor
open Go.RowKit
theorem allB_cons_not {e : Int} {l : List Int} {j : Nat} (hj : j < l.length) (hz : ¬ (0 ≤ l[j]?.getD 0 ∧ l[j]?.getD 0 < e)) : ¬ allB e l := allB_not hj hz
end Go.Proofs.YtbjoalgglmalnabDoor
