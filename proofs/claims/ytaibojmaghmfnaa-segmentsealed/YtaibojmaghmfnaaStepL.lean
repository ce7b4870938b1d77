/- A law for a list of operations, at one step of a region that draws its order. -/
import Derived.Test.YtaibojmaghmfnaaBas
namespace Go.Proofs.Ytaibojmaghmfnaa
open Go.RowKit

def OnlyK (K : Act → World → Prop) : Exit → Act → World → Prop := fun e a w => e = .normal ∧ K a w
theorem wp_only {o : Oper} {a : Act} {w : World} {K L : Act → World → Prop} {Q : Exit → Act → World → Prop} (h : Oper.wp Try.prog o a w K (OnlyK L)) : Oper.wp Try.prog o a w K Q := by
  unfold Oper.wp at h ⊢
  generalize (execOp a.eval o).run Try.prog w = r at *
  cases r with
  | ok n w' =>
    cases n <;> simp only [Oper.upon] at h ⊢
    all_goals first
      | exact h
      | exact Calls.mono h (fun e w'' he => by
          cases e with
          | returned v => exact he
          | panicked c => exact absurd he.1 (by simp)
          | outgrown => obtain ⟨_, _, h1, _⟩ := he; cases h1)
  | halt y w' =>
    cases y <;> simp only [Oper.upon] at h ⊢
    all_goals exact absurd h.1 (by simp)
/-- A law for a list of operations, at one step of a region that draws its order. -/
theorem step_of_list {ops : Array Oper} {o : Oper} {a : Act} {w : World} {K : Act → World → Prop} {Q : Exit → Act → World → Prop} {E : Prop} (hgd : o.guard = none)
    (h : wpList Try.prog ops (OnlyK K) [o] a w) : if Region.wanted o (yielded ops a.tmps) = true then Oper.wp Try.prog o a w K Q else E := by
  have hw : Region.wanted o (yielded ops a.tmps) = true := by simp [Region.wanted, hgd]
  rw [if_pos hw]
  simp only [wpList, hw, if_true] at h
  rcases h with h | ⟨_, a', w', h, _⟩
  · exact wp_only (Oper.wp_mono (fun a w h => h.2) h)
  · cases h
end Go.Proofs.Ytaibojmaghmfnaa
