/- What the rows' condition on the program's tables gives; the door's own heap meets it. -/
import Derived.Test.YtloagniacjfkfaaGreatDoorRows
import Derived.Test.YtloagniacjfkfaaGreatDoorQY
import Derived.Test.YtloagniacjfkfaaGreatDoorQM
import Derived.ProofKit
import Derived.LaidMore
import Derived.OpenShut
import Derived.Stop.Joined
namespace Go.Proofs.YtloagniacjfkfaaGreatDoor
open Go.ChangeShapes Go.WideShapes Go.ChangeAt Go.WideMaps Go.WideElems Go.RowKit
noncomputable abbrev Laid1 : List (String × DataW Unit) := Rows.zlibCutsRow.laid
theorem tInf : (Tryz.prog.globals[2]?).map (·.type) = some 181 := by kernel_rfl
theorem tSec : (Tryz.prog.globals[0]?).map (·.type) = some 63 := by kernel_rfl
theorem both_of_laid {W : World} (h : laidMetH Tryz.prog Laid1 W) : Ord W ∧ Sec W := by
  rw [MakeChecks.laidMetH_plain _ _ _ (by kernel_rfl)] at h
  obtain ⟨ps, h0, _⟩ := h
  obtain ⟨g0, t0, cs0, f0, p0, q0, hg0, ht0, hv0, hd0, hr0, _⟩ := h0
  obtain ⟨g1, t1, cs1, f1, p1, q1, hg1, ht1, hv1, hd1, hr1, _⟩ := hr0
  obtain ⟨g2, t2, cs2, f2, p2, q2, hg2, ht2, hv2, hd2, _, _⟩ := hr1
  obtain rfl : g1 = 2 := Option.some.inj (hg1.symm.trans (show _ = some 2 by kernel_rfl))
  obtain rfl : g2 = 0 := Option.some.inj (hg2.symm.trans (show _ = some 0 by kernel_rfl))
  obtain rfl := Option.some.inj (tInf.symm.trans ht1)
  obtain rfl := Option.some.inj (tSec.symm.trans ht2)
  constructor
  · obtain ⟨xs, m1, rfl, hx1, hlen, hn19, hel⟩ := DataW.trod_array Tryz.underlying181 hd1
    have c3 : Tryz.prog.cellsOf 3 = 1 := by kernel_rfl
    simp only [Prod.mk.injEq] at hx1
    intro i hi
    have h0 := hel i hi
    rw [c3, Nat.mul_one] at h0
    obtain ⟨y, hy⟩ : ∃ y, xs[i]? = some y := ⟨_, List.getElem?_eq_getElem (by omega)⟩
    rw [hy] at h0
    obtain ⟨k, e1, e2, _⟩ := DataW.trod_int Tryz.underlying3 h0
    have hc : cs1.toList[i]? = some (.int .i64 k) := by
      have := congrArg (fun l => l[0]?) e1
      simpa using this
    have hcell := World.var?_cell hg1 hv1 i
    rw [hcell]
    have hv := congrArg (fun l : DataW _ => match l with | .agg ys => ys[i]? | _ => none) hx1.1
    simp only [Rows.laid_halftone_inflate_codeOrder, List.getElem?_map, hy, Option.map_some, e2] at hv
    have hk : k = ((ordL[i]?.getD 0 : Nat) : Int) := by
      match i, hi, hv with
      | 0, _, hv | 1, _, hv | 2, _, hv | 3, _, hv | 4, _, hv | 5, _, hv | 6, _, hv | 7, _, hv | 8, _, hv | 9, _, hv | 10, _, hv | 11, _, hv | 12, _, hv | 13, _, hv | 14, _, hv | 15, _, hv | 16, _, hv | 17, _, hv | 18, _, hv => simpa [ordL] using hv.symm
    rw [← hk]
    simpa using hc
  · obtain ⟨xs, m1, rfl, hx1, hlen, hn19, hel⟩ := DataW.trod_array Tryz.underlying63 hd2
    have c3 : Tryz.prog.cellsOf 5 = 1 := by kernel_rfl
    simp only [Prod.mk.injEq] at hx1
    intro i hi
    have h0 := hel i hi
    rw [c3, Nat.mul_one] at h0
    obtain ⟨y, hy⟩ : ∃ y, xs[i]? = some y := ⟨_, List.getElem?_eq_getElem (by omega)⟩
    rw [hy] at h0
    obtain ⟨k, e1, e2, _⟩ := DataW.trod_int Tryz.underlying5 h0
    have hc : cs2.toList[i]? = some (.int .u8 k) := by
      have := congrArg (fun l => l[0]?) e1
      simpa using this
    have hcell := World.var?_cell hg2 hv2 i
    rw [hcell]
    have hv := congrArg (fun l : DataW _ => match l with | .agg ys => ys[i]? | _ => none) hx1.1
    simp only [Rows.laid_halftone_zlib_secondByte, List.getElem?_map, hy, Option.map_some, e2] at hv
    have hk : k = secL[i]?.getD 0 := by
      match i, hi, hv with
      | 0, _, hv | 1, _, hv | 2, _, hv | 3, _, hv => simpa [secL] using hv.symm
    rw [← hk]
    simpa using hc
theorem door_met (os : Os) (args : Array Value) : laidMetH Tryz.prog Laid1 ((World.doorLaid Tryz.prog 400 os).forCall (fun _ _ => 0) ⟨#[], args, []⟩).memory :=
  laidMetH_of_parts3 (fuel := 8) (laidMet_of_run' 8 (by kernel_rfl) (by kernel_rfl)) (by kernel_rfl) (by kernel_rfl)
end Go.Proofs.YtloagniacjfkfaaGreatDoor
