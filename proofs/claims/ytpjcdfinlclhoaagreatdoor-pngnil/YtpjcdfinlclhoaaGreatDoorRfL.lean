/- A range over a function, whose iterator and body are walked side by side: the laws. -/
import Derived.Test.YtpjcdfinlclhoaaGreatDoorRwC
import Derived.RangeFuncNested
import Derived.RangeFuncBound
import Derived.OwnWalkIn
import Derived.TacticsInMore
namespace Go.Proofs.YtpjcdfinlclhoaaGreatDoor
open Go.RowKit

/-- What is asked at a round's end. -/
def rfPost (mk : LoopState → Option Code → Loop) (l : Nat) (R : Ending → World → Prop) : Exit → Act → World → Prop
  | .normal, _, W => W.heap[l]? = some (.loop (mk .busy none)) ∧ R (.returned (.bool true)) (W.putObj l (.loop (mk .ready none)))
  | .ret, _, W => W.heap[l]? = some (.loop (mk .busy none)) ∧ R (.returned (.bool false)) (W.putObj l (.loop (mk .done (some .ret))))
  | .exit id, _, W => W.heap[l]? = some (.loop (mk .busy none)) ∧ R (.returned (.bool false)) (W.putObj l (.loop (mk .done (some (.exit id)))))
  | .goto t, _, W => W.heap[l]? = some (.loop (mk .busy none)) ∧ R (.returned (.bool false)) (W.putObj l (.loop (mk .done (some (.goto t)))))
  | _, _, _ => False

/-- A loop's record in memory, ready for a round. -/
def RfAt (W : World) (l : Nat) (mk : LoopState → Option Code → Loop) : Prop := W.heap[l]? = some (.loop (mk .ready none))

/-- How a call of yield is met: the assignments, then the body, in a round's frame. -/
def RfYield (P : Program) (ps : Array Tmp) (assign body : Code) (tmps : Array Value) (mk : LoopState → Option Code → Loop) (l : Nat) : Prop :=
  ∀ (args : Array Value) (W : World) (R : Ending → World → Prop), args.size = ps.size → RfAt W l mk →
    assign.wpIn (Fence.wide.inRound l) 3 P (Exit.then (fun a₁ w₁ => RfAt w₁ l mk ∧ body.wpIn (Fence.wide.inRound l) 3 P (rfPost mk l R) a₁ (w₁.putObj l (.loop (mk .busy none)))) (fun _ _ _ => False))
      { tmps := (ps.zip args).foldl (fun t (p, v) => t.setIfInBounds p v) tmps, defers := [] } W →
    YieldAt Fence.wide 3 P l args W R

/-- **The statement 'for .. := range g { .. }' at an outermost loop.** -/
theorem wp_rangeFunc_any {P : Program} {g : Operand} {ps : Array Tmp} {assign body : Code} {Q : Exit → Act → World → Prop} {a : Act} {w : World} {gf : Nat} {lb : Array Value}
    (hg : a.eval g = .func (.func gf) #[] lb) (eg : ∀ args w, (callFunc gf args).run P w = .ok (.enter gf args) w)
    (h : ∀ (mk : LoopState → Option Code → Loop) (W1 : World), (w.alloc (.deferred (some []))).alloc (.loop (mk .ready none)) = W1 → RfYield P ps assign body a.tmps mk (w.heap.size + 1) →
      Calls P gf (#[.func (.yield (w.heap.size + 1)) #[] #[]] ++ lb) W1 fun e W' => (∃ v, e = .returned v) ∧
        ((RfAt W' (w.heap.size + 1) mk ∧ Q .normal { a with defers := { target := .collected w.heap.size, args := #[] } :: a.defers } (W'.putObj (w.heap.size + 1) (.loop (mk .exhausted none)))) ∨
         ∃ c, W'.heap[w.heap.size + 1]? = some (.loop (mk .done (some c))) ∧ c.wp P Q { a with defers := { target := .collected w.heap.size, args := #[] } :: a.defers } (W'.putObj (w.heap.size + 1) (.loop (mk .exhausted (some c)))))) :
    (Code.rangeFunc g ps assign body).wp P Q a w := by
  refine wpIn_wide (n := 5).1 (wpIn_rangeFunc ?_)
  intro fn hfn
  obtain ⟨rec, hrec⟩ : ∃ rec : LoopState → Option Code → Loop, rec = fun st pe => { state := st, pending := pe, fn, tmps := a.tmps, params := ps, assign, body, defers := w.heap.size } := ⟨_, rfl⟩
  obtain ⟨W1, hW1⟩ : ∃ W1, (w.alloc (.deferred (some []))).alloc (.loop (rec .ready none)) = W1 := ⟨_, rfl⟩
  refine ⟨w.heap.size + 1, [{ target := .collected w.heap.size, args := #[] }], W1, { target := .fn (.func gf) lb, args := #[.func (.yield (w.heap.size + 1)) #[] #[]] }, W1, gf,
    #[.func (.yield (w.heap.size + 1)) #[] #[]] ++ lb, W1, ?_, ?_, ?_, ?_, (fun h => by simp [Fence.wide] at h), ?_⟩
  · rw [← hW1, hrec]; exact run_enterLoop_outer _ _ _ _ _
  · simp only [resolve, hg]
    simp [go_sem]
  · intro f' _; trivial
  · simp [invoke, go_sem, eg]
  · refine callsIn_wide.2 ((h rec W1 hW1 ?_).mono ?_)
    · intro args W R hsz hl hw
      have hl' : W.heap[w.heap.size + 1]? = some (.loop (rec .ready none)) := hl
      have hy := run_yield (P := P) (args := args) hl' (by rw [hrec]; exact hsz)
      rw [hrec] at hy
      refine ⟨fn, _, assign, body, hy, roundIn_of_wpIn hfn ?_⟩
      refine Code.wpIn_mono ?_ hw
      intro e a' w' hq
      cases e with
      | normal =>
        obtain ⟨hr, hb⟩ := hq
        have hr' : w'.heap[w.heap.size + 1]? = some (.loop (rec .ready none)) := hr
        refine ⟨_, run_beginRound hr' (by rw [hrec]), ?_⟩
        have e1 : ({ rec .ready none with state := .busy } : Loop) = rec .busy none := by rw [hrec]
        rw [e1]
        refine Code.wpIn_mono ?_ hb
        intro e2 a2 w2 hq2
        have fin : ∀ jump : Option Code, w2.heap[w.heap.size + 1]? = some (.loop (rec .busy none)) → (Instr.endRound (w.heap.size + 1) jump).run P w2 = .ok (.bool jump.isNone) (w2.putObj (w.heap.size + 1) (.loop (rec (if jump.isNone then .ready else .done) jump))) := by
          intro jump hb2
          have := run_endRound (P := P) jump hb2
          rw [this, hrec]
        cases e2 with
        | normal => exact ⟨_, _, fin none hq2.1, hq2.2⟩
        | ret => exact ⟨_, _, fin (some .ret) hq2.1, hq2.2⟩
        | exit id => exact ⟨_, _, fin (some (.exit id)) hq2.1, hq2.2⟩
        | goto t => exact ⟨_, _, fin (some (.goto t)) hq2.1, hq2.2⟩
        | panic ch => exact hq2.elim
        | outgrown => exact hq2.elim
      | exit id => exact hq.elim
      | goto t => exact hq.elim
      | ret => exact hq.elim
      | panic chain => exact hq.elim
      | outgrown => exact hq.elim
    · rintro e W2 ⟨⟨v, rfl⟩, (⟨hl, hq⟩ | ⟨c, hl, hq⟩)⟩
      · have hl' : W2.heap[w.heap.size + 1]? = some (.loop (rec .ready none)) := hl
        refine ⟨none, _, ?_, hq⟩
        have := run_endLoop (P := P) hl' (by rw [hrec]; simp)
        rw [this, hrec]
      · refine ⟨some c, _, ?_, wpIn_wide.2 hq⟩
        have := run_endLoop (P := P) hl (by rw [hrec]; simp)
        rw [this, hrec]

/-- An operation's plain law serves in a round's frame, too. -/
theorem wpIn_of_wp {P : Program} {l m : Nat} {o : Oper} {a : Act} {w : World} {K : Act → World → Prop} {Q : Exit → Act → World → Prop} (hd : ∀ c, o.op ≠ .defer c)
    (h : Oper.wp P o a w K Q) : Oper.wpIn (Fence.wide.inRound l) m P o a w K Q := by
  refine ⟨fun f _ => trivial, ?_⟩
  rw [Oper.semAt_plain _ _ _ hd]
  unfold Oper.wp at h
  generalize (execOp a.eval o).run P w = r at *
  cases r with
  | ok x w' =>
    cases x <;> simp only [Oper.upon, Oper.uponIn] at h ⊢
    all_goals first
      | exact h
      | exact ⟨fun hh => by simp [Fence.wide, Fence.inRound] at hh, callsIn_wide (n := m - 1).2 h⟩
      | exact ⟨fun hh => by simp [Fence.wide, Fence.inRound] at hh, fun c cs _ => by obtain ⟨v, w2, r2, s2⟩ := h c cs; exact ⟨v, w2, r2, stepsIn_wide.2 s2⟩⟩
  | halt y w' =>
    cases y <;> simp only [Oper.upon, Oper.uponIn] at h ⊢
    all_goals exact h
/-- A list of plain laws, in a round's frame. -/
theorem wpListIn_of_wpList {P : Program} {l m : Nat} {ops : Array Oper} {Q : Exit → Act → World → Prop} (hq : ¬ LetsOut Q) : ∀ (os : List Oper) (a : Act) (w : World), (∀ o ∈ os, ∀ c, o.op ≠ .defer c) → wpList P ops Q os a w → wpListIn (Fence.wide.inRound l) m P ops Q os a w
  | [], _, _, _, h => h
  | o :: os, a, w, hd, h => by
    simp only [wpList, wpListIn] at h ⊢
    split
    · rename_i hw
      rw [if_pos hw] at h
      rcases h with h | ⟨_, h⟩
      · exact wpIn_of_wp (hd o (by simp)) (Oper.wp_mono (fun a w h => wpListIn_of_wpList hq os a w (fun o ho => hd o (by simp [ho])) h) h)
      · exact absurd h hq
    · rename_i hw
      rw [if_neg hw] at h
      exact ⟨fun f _ => trivial, wpListIn_of_wpList hq os _ _ (fun o ho => hd o (by simp [ho])) h⟩
theorem rfPost_in {mk : LoopState → Option Code → Loop} {l : Nat} {R : Ending → World → Prop} : ¬ LetsOut (rfPost mk l R) := by
  rintro ⟨a, w, h⟩
  exact h
/-- A straight region in a round's frame, by the plain laws. -/
theorem wpIn_region_round {P : Program} {l m id : Nat} {os : List Oper} {Q : Exit → Act → World → Prop} {a : Act} {w : World} (hq : ¬ LetsOut Q) (hd : ∀ o ∈ os, ∀ c, o.op ≠ .defer c)
    (h : wpList P os.toArray Q os a w) : (Code.region id os.toArray false).wpIn (Fence.wide.inRound l) m P Q a w :=
  wpIn_region_lit (wpListIn_of_wpList hq os a w hd h)
/-- A region in which yield is called, in a plain frame. -/
theorem wp_region_yield {P : Program} {id : Nat} {os : List Oper} {Q : Exit → Act → World → Prop} {a : Act} {w : World}
    (h : wpListIn Fence.wide 4 P os.toArray Q os a w) : (Code.region id os.toArray false).wp P Q a w := wpIn_wide.1 (wpIn_region_lit h)
/-- A function that holds a range over a function: its contract from its body, walked as everywhere. -/
theorem calls_of_wp_marks {P : Program} {f : FuncId} {fn : Func} {c : Code} {args : Array Value} {w : World} {R : Ending → World → Prop}
    (hf : P.funcs[f]? = some fn) (hb : fn.body = some c)
    (h : c.wp P (bodyPostM Fence.wide 5 P fn R) { tmps := args ++ Array.replicate (fn.ntmps - args.size) undef, defers := [] } w) : Calls P f args w R :=
  callsIn_wide.1 (callsIn_of_wp_marks hf hb trivial (wpIn_wide.2 h))
end Go.Proofs.YtpjcdfinlclhoaaGreatDoor
