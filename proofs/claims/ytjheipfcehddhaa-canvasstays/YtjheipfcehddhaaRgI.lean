/- A region that draws its order, by what holds between two of its operations, whichever came first. -/
import Derived.Test.YtjheipfcehddhaaRgH
namespace Go.Proofs.Ytjheipfcehddhaa
open Go.RowKit
def unlisted (l : Array Bool) : Nat := (l.toList.filter (fun b => !b)).length
theorem filter_set : ∀ (l : List Bool) (i : Nat), l[i]? = some false → ((l.set i true).filter (fun b => !b)).length + 1 = (l.filter (fun b => !b)).length
  | [], i, h => by simp at h
  | b :: r, 0, h => by simp at h; subst h; simp
  | b :: r, i + 1, h => by
    have := filter_set r i (by simpa using h)
    cases b <;> simp at this ⊢ <;> omega
theorem ready_false {md : Region.Mode} {ops : Array Oper} {l : Array Bool} {i : Nat} (h : i ∈ Region.ready md ops l) (hs : l.size = ops.size) : l.toList[i]? = some false := by
  unfold Region.ready at h
  simp only [List.mem_filter, List.mem_range, Bool.and_eq_true, Bool.not_eq_true'] at h
  have hlt : i < l.size := by rw [hs]; exact h.1
  have h2 := h.2.1
  simp only [Array.getD, hlt, dif_pos] at h2
  rw [Array.getElem?_toList, Array.getElem?_eq_getElem hlt]
  exact congrArg some h2
theorem wpAny_inv {P : Program} {md : Region.Mode} {ops : Array Oper} {Q : Exit → Act → World → Prop} (I : Array Bool → Act → World → Prop) (hsz : ∀ l a w, I l a w → l.size = ops.size)
    (hstep : ∀ l a w, I l a w → ∀ i ∈ Region.ready md ops l, wpOp P ops Q i (fun a' w' => I (l.setIfInBounds i true) a' w') a w)
    (hend : ∀ l a w, I l a w → Region.ready md ops l = [] → Q .normal a w) : ∀ (fuel : Nat) (l : Array Bool) (a : Act) (w : World), I l a w → unlisted l ≤ fuel → wpAny P md ops Q fuel l a w
  | 0, l, a, w, hI, hf => by
    have hr : Region.ready md ops l = [] := by
      rw [List.eq_nil_iff_forall_not_mem]
      intro i hi
      have h1 := ready_false hi (hsz l a w hI)
      have h2 : false ∈ l.toList.filter (fun b => !b) := List.mem_filter.2 ⟨List.mem_of_getElem? h1, rfl⟩
      have h3 := List.length_pos_of_mem h2
      unfold unlisted at hf
      omega
    exact ⟨hr, hend l a w hI hr⟩
  | fuel + 1, l, a, w, hI, hf => by
    refine ⟨fun hr => hend l a w hI hr, fun i hi => ?_⟩
    refine wpOp_mono (fun a' w' hI' => wpAny_inv I hsz hstep hend fuel _ a' w' hI' ?_) (hstep l a w hI i hi)
    have h1 := ready_false hi (hsz l a w hI)
    have := filter_set _ _ h1
    unfold unlisted at hf ⊢
    rw [Array.toList_setIfInBounds]
    omega
end Go.Proofs.Ytjheipfcehddhaa
