/- A message off its bytes: what all kinds come to. -/
import Derived.Test.YtaibojmaghmfnaaMgU4
namespace Go.Proofs.Ytaibojmaghmfnaa
open Go.RowKit
def tkN (i : Int) (st : St) : Mn := if i = 1 then tk_ask st else if i = 2 then tk_offer st else if i = 3 then tk_data st else if i = 4 then tk_ack st else tk_no st
def tkS (i : Int) (st : St) : St := if i = 1 then bS 4 (bS 4 (bS 1 st)) else if i = 2 then bS 2 (bS 4 (bS 4 (bS 4 (bS 1 st)))) else if i = 3 then bS (stZ (dtS st)).length (dtS st) else if i = 4 then tk_ackS st else bS 1 (bS 1 st)
structure KdT (k : Int) (a b c d : Nat) : Prop where
  v : kdV k = .agg #[fnv a, fnv b, fnv c, fnv d]
  cd : ∀ args w, (callFunc d args).run Try.prog w = .ok (.enter d args) w
  take : ∀ w cu U st, CS w cu U st → U ≤ w.heap.size → (stZ st).length ≤ 100000 → Calls Try.prog d #[.pointer (some ⟨cu, 0, none⟩)] w fun e w' => TkP w cu U (tkN k st) (tkS k st) e w'
theorem kdT_any (k : Int) (hk : isKd k = true) : ∃ a b c d, KdT k a b c d := by
  have hk' : 1 ≤ k ∧ k ≤ 5 := of_decide_eq_true hk
  by_cases k1 : k = 1
  ·
    have e1 : ∀ st, tkN k st = tk_ask st := fun st => by unfold tkN; rw [if_pos k1]
    have e2 : ∀ st, tkS k st = bS 4 (bS 4 (bS 1 st)) := fun st => by unfold tkS; rw [if_pos k1]
    have e4 : kdV k = kd_ask := by unfold kdV; rw [if_pos k1]
    refine ⟨54, 55, 58, 59, e4, callFn Try.func59 (by kernel_rfl) (by kernel_rfl), fun w cu U st h hU hl => ?_⟩
    rw [e1, e2]
    exact take_ask w cu U st h hU
  ·
    by_cases k2 : k = 2
    ·
      have e1 : ∀ st, tkN k st = tk_offer st := fun st => by unfold tkN; rw [if_neg k1, if_pos k2]
      have e2 : ∀ st, tkS k st = bS 2 (bS 4 (bS 4 (bS 4 (bS 1 st)))) := fun st => by unfold tkS; rw [if_neg k1, if_pos k2]
      have e4 : kdV k = kd_offer := by unfold kdV; rw [if_neg k1, if_pos k2]
      refine ⟨60, 61, 62, 63, e4, callFn Try.func63 (by kernel_rfl) (by kernel_rfl), fun w cu U st h hU hl => ?_⟩
      rw [e1, e2]
      exact take_offer w cu U st h hU
    ·
      by_cases k3 : k = 3
      ·
        have e1 : ∀ st, tkN k st = tk_data st := fun st => by unfold tkN; rw [if_neg k1, if_neg k2, if_pos k3]
        have e2 : ∀ st, tkS k st = bS (stZ (dtS st)).length (dtS st) := fun st => by unfold tkS; rw [if_neg k1, if_neg k2, if_pos k3]
        have e4 : kdV k = kd_data := by unfold kdV; rw [if_neg k1, if_neg k2, if_pos k3]
        refine ⟨64, 65, 67, 68, e4, callFn Try.func68 (by kernel_rfl) (by kernel_rfl), fun w cu U st h hU hl => ?_⟩
        rw [e1, e2]
        exact take_data w cu U st h hU hl
      ·
        by_cases k4 : k = 4
        ·
          have e1 : ∀ st, tkN k st = tk_ack st := fun st => by unfold tkN; rw [if_neg k1, if_neg k2, if_neg k3, if_pos k4]
          have e2 : ∀ st, tkS k st = tk_ackS st := fun st => by unfold tkS; rw [if_neg k1, if_neg k2, if_neg k3, if_pos k4]
          have e4 : kdV k = kd_ack := by unfold kdV; rw [if_neg k1, if_neg k2, if_neg k3, if_pos k4]
          refine ⟨70, 71, 73, 74, e4, callFn Try.func74 (by kernel_rfl) (by kernel_rfl), fun w cu U st h hU hl => ?_⟩
          rw [e1, e2]
          exact take_ack w cu U st h hU
        ·
          have e1 : ∀ st, tkN k st = tk_no st := fun st => by unfold tkN; rw [if_neg k1, if_neg k2, if_neg k3, if_neg k4]
          have e2 : ∀ st, tkS k st = bS 1 (bS 1 st) := fun st => by unfold tkS; rw [if_neg k1, if_neg k2, if_neg k3, if_neg k4]
          have e4 : kdV k = kd_no := by unfold kdV; rw [if_neg k1, if_neg k2, if_neg k3, if_neg k4, if_pos (by omega)]
          refine ⟨75, 76, 77, 78, e4, callFn Try.func78 (by kernel_rfl) (by kernel_rfl), fun w cu U st h hU hl => ?_⟩
          rw [e1, e2]
          exact take_no w cu U st h hU
theorem may_any (m : Ms) (G : List (Int × Int)) (D : List Int) (w : World) (hk : isKd m.k = true) (hm : MsM w m G D) : Calls Try.prog 18 #[kdV m.k, m.V] w fun e w' => e = .returned (.bool (myM m G)) ∧ Below w.heap.size w w' := by
  obtain ⟨a, b, c, d, h⟩ := kdF_any m G D w hk hm
  rw [h.v]
  exact h.may w (Below.refl _ _)
def myN (n : Mn) : Bool := myM (n.ms none 0 none 0) n.G
theorem myN_ms (n : Mn) (ra : Option Addr) (rc : Nat) (da : Option Addr) (dc : Nat) : myM (n.ms ra rc da dc) n.G = myN n := rfl
/-- A message with its kind and its boot. -/
def Mn.kb (n : Mn) (k bo : Int) : Mn := ⟨k, bo, n.fi, n.su, n.si, n.ap, n.bd, n.ix, n.pa, n.co, n.G, n.D⟩
/-- What bytes without their sum say. -/
def kdT (t : List Int) : Int := bN 1 (.ok t)
def boT (t : List Int) : Int := bN 4 (bS 1 (.ok t))
def s2T (t : List Int) : St := bS 4 (bS 1 (.ok t))
def mnT (t : List Int) : Mn := (tkN (kdT t) (s2T t)).kb (kdT t) (boT t)
def enT (t : List Int) : St := tkS (kdT t) (s2T t)
def okT (t : List Int) : Bool := isKd (kdT t) && decide (stE (enT t) = 0) && decide ((stZ (enT t)).length = 0) && myN (mnT t)
/-- What parse and Read come to. -/
def MsP (w : World) (ok : Bool) (er : Int) (n : Mn) (e : Ending) (w' : World) : Prop :=
  Below w.heap.size w w' ∧ (ok = false → e = .returned (.tuple #[.agg #[.int .i64 0, .int .u32 0, .int .i64 0, .int .u32 0, .int .i64 0, .int .i64 0, .int .i64 0, .int .i64 0, .int .i64 0, .int .i64 0, .slice none 0 0, .slice none 0 0], .int .i64 er])) ∧ (ok = true → ∃ ra rc da dc, e = .returned (.tuple #[(n.ms ra rc da dc).V, .int .i64 0]) ∧ MsR w.heap.size w' n ra rc da dc)
theorem results_ct {fn : Func} {p q : Tmp} {ty : TypeId} (h : fn.results = #[.cell p ty, .tmp q]) (tmps : Array Value) (P : Program) (w : World) :
    (results fn tmps).run P w = ((asAddr (tmps.getD p undef)).run P w).andThen fun a w₁ => ((loadVar ty a).run P w₁).andThen fun v w2 => .ok (.tuple #[v, tmps.getD q undef]) w2 := by
  simp only [results, h]
  simp [Sem.run_bind]
end Go.Proofs.Ytaibojmaghmfnaa
