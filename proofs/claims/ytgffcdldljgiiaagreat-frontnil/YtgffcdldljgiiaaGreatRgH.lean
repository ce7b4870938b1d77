/- A region that draws its order, within a round's frame: by the laws of the plain frame. -/
import Derived.Test.YtgffcdldljgiiaaGreatRfL
import Derived.Deep.RegionHeld3
namespace Go.Proofs.YtgffcdldljgiiaaGreat
open Go.RowKit
theorem wpOpIn_of_wpOp {P : Program} {l m i : Nat} {ops : Array Oper} {Q : Exit → Act → World → Prop} {K : Act → World → Prop} {a : Act} {w : World} (hq : ¬ LetsOut Q) (hd : ∀ o, ops[i]? = some o → ∀ c, o.op ≠ .defer c)
    (h : wpOp P ops Q i K a w) : wpOpIn (Fence.wide.inRound l) m P ops Q i K a w := by
  unfold wpOp at h
  unfold wpOpIn
  cases ho : ops[i]? with
  | none => simp only [ho] at h ⊢; exact h
  | some o =>
    simp only [ho] at h ⊢
    split
    · rename_i hw
      rw [if_pos hw] at h
      rcases h with h | ⟨_, h⟩
      · exact wpIn_of_wp (hd o ho) h
      · exact absurd h hq
    · rename_i hw
      rw [if_neg hw] at h
      exact ⟨fun f _ => trivial, h⟩
theorem wpAnyIn_of_wpAny {P : Program} {l m : Nat} {md : Region.Mode} {ops : Array Oper} {Q : Exit → Act → World → Prop} (hq : ¬ LetsOut Q) (hd : ∀ (i : Nat) o, ops[i]? = some o → ∀ c, o.op ≠ .defer c) :
    ∀ (fuel : Nat) (listed : Array Bool) (a : Act) (w : World), wpAny P md ops Q fuel listed a w → wpAnyIn (Fence.wide.inRound l) m P md ops Q fuel listed a w
  | 0, _, _, _, h => h
  | fuel + 1, _, _, _, h => ⟨h.1, fun i hi => wpOpIn_of_wpOp hq (hd i) (wpOp_mono (fun a w => wpAnyIn_of_wpAny hq hd fuel _ a w) (h.2 i hi))⟩
/-- The beginning: a region that draws, in a round's frame; S holds behind the draw. -/
theorem wpIn_region_held {P : Program} {l m id : Nat} {ops : Array Oper} {Q : Exit → Act → World → Prop} {a : Act} {w : World} (S : World → Prop) (hm : P.follows .mixedOrders = true) (hq : ¬ LetsOut Q) (hd : (ops.all fun o => match o.op with | .defer _ => false | _ => true) = true)
    (hS : S w.drew) (h : S w.drew → wpAnyH P .any ops Q S ops.size (Array.replicate ops.size false) a w.drew) : (Code.region id ops true).wpIn (Fence.wide.inRound l) m P Q a w := by
  refine wpIn_region_any hm (wpAnyIn_of_wpAny hq ?_ _ _ _ _ (wpAny_of_held _ _ _ _ (h hS)))
  intro i o ho c hc
  obtain ⟨hlt, he⟩ := Array.getElem?_eq_some_iff.1 ho
  have h1 := Array.all_eq_true.1 hd i hlt
  rw [he, hc] at h1
  cases h1
end Go.Proofs.YtgffcdldljgiiaaGreat
