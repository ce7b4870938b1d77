/- What a row's condition on the program's table gives; the door's own heap meets it. -/
import Derived.Test.YtomoolipegmlcaaDoorRows
import Derived.Test.YtomoolipegmlcaaDoorZm
import Derived.ProofKit
import Derived.LaidMore
import Derived.OpenShut
import Derived.Stop.Joined
namespace Go.Proofs.YtomoolipegmlcaaDoor
open Go.ChangeShapes Go.WideShapes Go.ChangeAt Go.WideMaps Go.WideElems Go.RowKit
/-- The table's name: the one that the rows list. -/
abbrev nOrd : String := Rows.inflateNilRow.named.headD Tryd.f0.name
abbrev Laid1 : List (String × DataW Unit) := [(nOrd, Rows.laid_halftone_inflate_codeOrder)]
theorem gOrd : Tryd.prog.globalNamed nOrd = some 0 := by kernel_rfl
theorem tOrd : (Tryd.prog.globals[0]?).map (·.type) = some 92 := by kernel_rfl
theorem ord_of_laid {W : World} (h : laidMetH Tryd.prog Laid1 W) : Ord W := by
  rw [MakeChecks.laidMetH_plain _ _ _ (by kernel_rfl)] at h
  obtain ⟨ps, ⟨g0, t0, cs0, f0, p0, q0, hg0, ht0, hv0, hd0, _⟩, _⟩ := h
  obtain rfl := Option.some.inj (gOrd.symm.trans hg0)
  obtain rfl := Option.some.inj (tOrd.symm.trans ht0)
  obtain ⟨xs, m1, rfl, hx1, hlen, hn19, hel⟩ := DataW.trod_array Tryd.underlying92 hd0
  have c3 : Tryd.prog.cellsOf 3 = 1 := by kernel_rfl
  simp only [Prod.mk.injEq] at hx1
  intro i hi
  have h0 := hel i hi
  rw [c3, Nat.mul_one] at h0
  obtain ⟨y, hy⟩ : ∃ y, xs[i]? = some y := ⟨_, List.getElem?_eq_getElem (by omega)⟩
  rw [hy] at h0
  obtain ⟨k, e1, e2, _⟩ := DataW.trod_int Tryd.underlying3 h0
  have hc : cs0.toList[i]? = some (.int .i64 k) := by
    have := congrArg (fun l => l[0]?) e1
    simpa using this
  have hcell := World.var?_cell hg0 hv0 i
  rw [hcell]
  have hv := congrArg (fun l : DataW _ => match l with | .agg ys => ys[i]? | _ => none) hx1.1
  simp only [Rows.laid_halftone_inflate_codeOrder, List.getElem?_map, hy, Option.map_some, e2] at hv
  have hk : k = ((ordL[i]?.getD 0 : Nat) : Int) := by
    match i, hi, hv with
    | 0, _, hv | 1, _, hv | 2, _, hv | 3, _, hv | 4, _, hv | 5, _, hv | 6, _, hv | 7, _, hv | 8, _, hv | 9, _, hv | 10, _, hv | 11, _, hv | 12, _, hv | 13, _, hv | 14, _, hv | 15, _, hv | 16, _, hv | 17, _, hv | 18, _, hv => simpa [ordL] using hv.symm
  rw [← hk]
  simpa using hc
theorem door_met (os : Os) (args : Array Value) : laidMetH Tryd.prog Laid1 ((World.doorLaid Tryd.prog 400 os).forCall (fun _ _ => 0) ⟨#[], args, []⟩).memory :=
  laidMetH_of_parts3 (fuel := 8) (laidMet_of_run' 8 (by kernel_rfl) (by kernel_rfl)) (by kernel_rfl) (by kernel_rfl)
end Go.Proofs.YtomoolipegmlcaaDoor
