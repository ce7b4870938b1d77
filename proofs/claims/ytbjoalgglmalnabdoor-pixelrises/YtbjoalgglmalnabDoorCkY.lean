/- What the rows' condition on the program's two tables gives; the door's own heap meets it. -/
import Derived.Test.YtbjoalgglmalnabDoorRows
import Derived.Test.YtbjoalgglmalnabDoorHeA
import Derived.ProofKit
import Derived.LaidMore
import Derived.OpenShut
import Derived.Stop.Joined
namespace Go.Proofs.YtbjoalgglmalnabDoor
open Go.ChangeShapes Go.WideShapes Go.ChangeAt Go.WideMaps Go.WideElems Go.RowKit
theorem tPr : (Tryd.prog.globals[1]?).map (·.type) = some 62 := by kernel_rfl
theorem tSp : (Tryd.prog.globals[0]?).map (·.type) = some 56 := by kernel_rfl
theorem tab_of_laid {W : World} (h : laidMetH Tryd.prog Rows.pixelRisesRow.laid W) : Tab W := by
  rw [MakeChecks.laidMetH_plain _ _ _ (by kernel_rfl)] at h
  obtain ⟨ps, h0, _⟩ := h
  obtain ⟨g0, t0, cs0, f0, p0, q0, hg0, ht0, hv0, hd0, hr0, _⟩ := h0
  obtain ⟨g1, t1, cs1, f1, p1, q1, hg1, ht1, hv1, hd1, _, _⟩ := hr0
  obtain rfl : g0 = 1 := Option.some.inj (hg0.symm.trans (show _ = some 1 by kernel_rfl))
  obtain rfl : g1 = 0 := Option.some.inj (hg1.symm.trans (show _ = some 0 by kernel_rfl))
  obtain rfl := Option.some.inj (tPr.symm.trans ht0)
  obtain rfl := Option.some.inj (tSp.symm.trans ht1)
  have c3 : Tryd.prog.cellsOf 3 = 1 := by kernel_rfl
  have cp : Tryd.prog.cellsOf 61 = 2 := by kernel_rfl
  constructor
  · obtain ⟨xs, m1, rfl, hx1, hlen, hn15, hel⟩ := DataW.trod_array Tryd.underlying62 hd0
    simp only [Prod.mk.injEq] at hx1
    intro i hi
    have h0 := hel i hi
    rw [cp] at h0
    obtain ⟨y, hy⟩ : ∃ y, xs[i]? = some y := ⟨_, List.getElem?_eq_getElem (by omega)⟩
    rw [hy] at h0
    obtain ⟨y0, y1, m2, e2, _, h1, h2⟩ := trod_struct2 Tryd.underlying61 h0
    obtain ⟨k0, a1, a2, _⟩ := DataW.trod_int Tryd.underlying3 h1
    obtain ⟨k1, b1, b2, _⟩ := DataW.trod_int Tryd.underlying3 h2
    rw [c3] at a1 b1
    have hca : cs0.toList[2 * i]? = some (.int .i64 k0) := by
      have := congrArg (fun l => l[0]?) a1
      simpa [Nat.mul_comm] using this
    have hcb : cs0.toList[2 * i + 1]? = some (.int .i64 k1) := by
      have := congrArg (fun l => l[0]?) b1
      simpa [Nat.mul_comm] using this
    have hv := congrArg (fun l : DataW _ => match l with | .agg ys => ys[i]? | _ => none) hx1.1
    simp only [Rows.laid_halftone_head_pairs, List.getElem?_map, hy, Option.map_some, e2, a2, b2] at hv
    have hk : k0 = (prL[i]?.getD (0, 0)).1 ∧ k1 = (prL[i]?.getD (0, 0)).2 := by
      match i, hi, hv with
      | 0, _, hv | 1, _, hv | 2, _, hv | 3, _, hv | 4, _, hv | 5, _, hv | 6, _, hv | 7, _, hv | 8, _, hv | 9, _, hv | 10, _, hv | 11, _, hv | 12, _, hv | 13, _, hv | 14, _, hv =>
        simp at hv
        exact ⟨hv.1.symm, hv.2.symm⟩
    rw [World.var?_cell hg0 hv0, World.var?_cell hg0 hv0, ← hk.1, ← hk.2]
    exact ⟨by simpa using hca, by simpa using hcb⟩
  · obtain ⟨xs, m1, rfl, hx1, hlen, hn7, hel⟩ := DataW.trod_array Tryd.underlying56 hd1
    simp only [Prod.mk.injEq] at hx1
    intro i hi
    have h0 := hel i hi
    rw [c3, Nat.mul_one] at h0
    obtain ⟨y, hy⟩ : ∃ y, xs[i]? = some y := ⟨_, List.getElem?_eq_getElem (by omega)⟩
    rw [hy] at h0
    obtain ⟨k, e1, e2, _⟩ := DataW.trod_int Tryd.underlying3 h0
    have hc : cs1.toList[i]? = some (.int .i64 k) := by
      have := congrArg (fun l => l[0]?) e1
      simpa using this
    rw [World.var?_cell hg1 hv1 i]
    have hv := congrArg (fun l : DataW _ => match l with | .agg ys => ys[i]? | _ => none) hx1.1
    simp only [Rows.laid_halftone_head_sampleCount, List.getElem?_map, hy, Option.map_some, e2] at hv
    have hk : k = spL[i]?.getD 0 := by
      match i, hi, hv with
      | 0, _, hv | 1, _, hv | 2, _, hv | 3, _, hv | 4, _, hv | 5, _, hv | 6, _, hv => simpa [spL] using hv.symm
    rw [← hk]
    simpa using hc
theorem door_met (os : Os) (args : Array Value) : laidMetH Tryd.prog Rows.pixelRisesRow.laid ((World.doorLaid Tryd.prog 400 os).forCall (fun _ _ => 0) ⟨#[], args, []⟩).memory :=
  laidMetH_of_parts3 (fuel := 8) (laidMet_of_run' 8 (by kernel_rfl) (by kernel_rfl)) (by kernel_rfl) (by kernel_rfl)
end Go.Proofs.YtbjoalgglmalnabDoor
