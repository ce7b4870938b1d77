/- What covers nothing is read: the program's ReadClear; whether numbers are the same. -/
import Derived.Test.YticdpibaojhpiaaDoorHdK
namespace Go.Proofs.YticdpibaojhpiaaDoor
open Go.RowKit
/-- What ReadClear answers: alpha, samples, the error. -/
def rcA (W H C D : Int) (t : Int) (b : List Int) : List Int := if mayN W H C D ∧ C = 3 ∧ alOk t b then b else []
def rcS (W H C D : Int) (b : List Int) : List Int := if mayN W H C D ∧ (C = 0 ∨ C = 2) ∧ smOk C D b then smL b else []
def rcE (W H C D : Int) (t : Int) (b : List Int) : Int := if mayN W H C D then (if C = 3 then (if alOk t b then 0 else 12) else if C = 0 ∨ C = 2 then (if smOk C D b then 0 else 12) else 12) else 11
theorem rcPost_alpha {w w1 w' : World} {A : List Int} {er : Int} {e : Ending} (h : R1Post w1 A er e w') (hb : Below w.heap.size w w1) : ∃ a1 c1, e = .returned (.tuple #[.slice a1 A.length c1, .int .i64 er]) ∧ Hid (RcPost w A [] er (.returned (.tuple #[.slice a1 A.length c1, .slice none 0 0, .int .i64 er])) w' ∧ RcPost w [] A er (.returned (.tuple #[.slice none 0 0, .slice a1 A.length c1, .int .i64 er])) w') := by
  obtain ⟨a1, c1, e1, e2, e3⟩ := h
  have hb' := hb.trans (e3.mono hb.size)
  exact ⟨a1, c1, e1, ⟨a1, c1, none, 0, rfl, e2, .inl rfl, hb'⟩, ⟨none, 0, a1, c1, rfl, .inl rfl, e2, hb'⟩⟩
theorem rcPost_nil {w w' : World} {er : Int} (hb : Below w.heap.size w w') : RcPost w [] [] er (.returned (.tuple #[.slice none 0 0, .slice none 0 0, .int .i64 er])) w' := ⟨none, 0, none, 0, rfl, .inl rfl, .inl rfl, hb⟩
theorem alpha_any (t : Int) (a : Option Addr) (n cap : Nat) (x : List Int) (w : World) (hx : x.length = n) (hb : Bytes x) (rx : Row w a x) (hn : n ≤ 2000000) : Calls Tryd.prog 37 #[.int .i64 t, .slice a n cap] w fun e w' => R1Post w (if alOk t x then x else []) (if alOk t x then 0 else 12) e w' := by
  by_cases h : alOk t x
  · rw [if_pos h, if_pos h]; exact alpha_yes t a n cap x w hx hb rx hn h
  · rw [if_neg h, if_neg h]; exact alpha_no t a n cap x w hx h
set_option maxHeartbeats 1600000 in
theorem rclear_any (W H C D : Int) (L : Bool) (t : Int) (a : Option Addr) (n cap : Nat) (b : List Int) (w : World) (ht : Tab w) (hn : b.length = n) (hs : n ≤ 2000000) (hb : Bytes b) (hnil : a = none → cap = 0) (hr : Row w a b) :
    Calls Tryd.prog 24 #[HdV W H C D L, .int .i64 t, .slice a n cap] w fun e w' => RcPost w (rcA W H C D t b) (rcS W H C D b) (rcE W H C D t b) e w' := by
  have HB0 : Hid (Qh w W H C D L _) := Qh.box w W H C D L
  have CM := may_any W H C D L _ (ht.old HB0.out.1)
  by_cases hm : mayN W H C D
  · have hbd := isPr_bd hm.2.2.1
    rw [decide_eq_true hm] at CM
    have HSm : Hid (∀ w1, Below w.heap.size w w1 → Calls Tryd.prog 38 #[HdV W H C D L, .slice a n cap] w1 fun e w' => R1Post w1 (if smOk C D b then smL b else []) (if smOk C D b then 0 else 12) e w') := fun w1 h =>
      rsamp_any W H C D L a n cap b w1 (ht.old h) hn hs hb hnil (hr.old h) (by omega) (by omega) _ _ (fun k => by rw [if_pos k, if_pos k]; exact ⟨rfl, rfl⟩) (fun k => by rw [if_neg k, if_neg k]; exact ⟨rfl, rfl⟩)
    have HAl : Hid (∀ w1, Below w.heap.size w w1 → Calls Tryd.prog 37 #[.int .i64 t, .slice a n cap] w1 fun e w' => R1Post w1 (if alOk t b then b else []) (if alOk t b then 0 else 12) e w') := fun w1 h => alpha_any t a n cap b w1 hn hb (hr.old h) hs
    clear ht hn hs hb hnil hr
    by_cases h3 : C = 3
    · have e1 : rcA W H C D t b = (if alOk t b then b else []) := by
        by_cases k : alOk t b
        · rw [if_pos k]; unfold rcA; rw [if_pos ⟨hm, h3, k⟩]
        · rw [if_neg k]; unfold rcA; rw [if_neg (fun q => k q.2.2)]
      have e2 : rcS W H C D b = [] := by unfold rcS; rw [if_neg (by omega)]
      have e3 : rcE W H C D t b = (if alOk t b then 0 else 12) := by unfold rcE; rw [if_pos hm, if_pos h3]
      rw [e1, e2, e3]
      clear e1 e2 e3 HSm hm
      generalize (if alOk t b then b else []) = R at *
      generalize (if alOk t b then (0 : Int) else 12) = er at *
      subst h3
      unfold HdV at *
      go_enter Tryd.func24, Tryd.ntmps24
      go_wp2_with fail
      refine CM.mono ?_
      clear CM
      rintro e w1 ⟨rfl, hb1⟩
      have HQ : Hid (Qh w W H 3 D L w1) := HB0.out.old hb1
      obtain ⟨c0, c1, c2, c3, c4⟩ := HQ.out.five
      have CA := HAl.out w1 HQ.out.1
      clear hb1 HB0
      go_wp2_with fail
      refine CA.mono ?_
      clear CA
      intro e w2 h2
      obtain ⟨a1, k1, rfl, HF⟩ := rcPost_alpha h2 HQ.out.1
      clear h2
      go_wp2
      go_ret3
      exact HF.out.1
    · by_cases h0 : C = 0 ∨ C = 2
      · have e1 : rcA W H C D t b = [] := by unfold rcA; rw [if_neg (fun k => h3 k.2.1)]
        have e2 : rcS W H C D b = (if smOk C D b then smL b else []) := by
          by_cases k : smOk C D b
          · rw [if_pos k]; unfold rcS; rw [if_pos ⟨hm, h0, k⟩]
          · rw [if_neg k]; unfold rcS; rw [if_neg (fun q => k q.2.2)]
        have e3 : rcE W H C D t b = (if smOk C D b then 0 else 12) := by unfold rcE; rw [if_pos hm, if_neg h3, if_pos h0]
        rw [e1, e2, e3]
        clear e1 e2 e3 HAl hm
        generalize (if smOk C D b then smL b else []) = R at *
        generalize (if smOk C D b then (0 : Int) else 12) = er at *
        unfold HdV at *
        rcases h0 with rfl | rfl
        all_goals
          clear h3
          go_enter Tryd.func24, Tryd.ntmps24
          go_wp2_with fail
          refine CM.mono ?_
          clear CM
          rintro e w1 ⟨rfl, hb1⟩
          have HQ : Hid (Qh w W H _ D L w1) := HB0.out.old hb1
          obtain ⟨c0, c1, c2, c3, c4⟩ := HQ.out.five
          have CA := HSm.out w1 HQ.out.1
          clear hb1 HB0
          go_wp2_with fail
          refine CA.mono ?_
          clear CA
          intro e w2 h2
          obtain ⟨a1, k1, rfl, HF⟩ := rcPost_alpha h2 HQ.out.1
          clear h2
          go_wp2
          go_ret3
          exact HF.out.2
      · have e1 : rcA W H C D t b = [] := by unfold rcA; rw [if_neg (fun k => h3 k.2.1)]
        have e2 : rcS W H C D b = [] := by unfold rcS; rw [if_neg (fun k => h0 k.2.1)]
        have e3 : rcE W H C D t b = 12 := by unfold rcE; rw [if_pos hm, if_neg h3, if_neg h0]
        rw [e1, e2, e3]
        have k3 : (C == 3) = false := by simpa using h3
        have k0 : (C == 0) = false := by simp; omega
        have k2 : (C == 2) = false := by simp; omega
        clear e1 e2 e3 HAl HSm hm h3 h0 hbd
        unfold HdV at *
        go_enter Tryd.func24, Tryd.ntmps24
        go_wp2_with fail
        refine CM.mono ?_
        clear CM
        rintro e w1 ⟨rfl, hb1⟩
        have HQ : Hid (Qh w W H C D L w1) := HB0.out.old hb1
        obtain ⟨c0, c1, c2, c3, c4⟩ := HQ.out.five
        clear hb1 HB0
        go_wp2
        go_ret3
        exact rcPost_nil HQ.out.1
  · rw [decide_eq_false hm] at CM
    have e1 : rcA W H C D t b = [] := by unfold rcA; rw [if_neg (fun k => hm k.1)]
    have e2 : rcS W H C D b = [] := by unfold rcS; rw [if_neg (fun k => hm k.1)]
    have e3 : rcE W H C D t b = 11 := by unfold rcE; rw [if_neg hm]
    rw [e1, e2, e3]
    clear e1 e2 e3 hm ht hn hs hb hnil hr
    unfold HdV at *
    go_enter Tryd.func24, Tryd.ntmps24
    go_wp2_with fail
    refine CM.mono ?_
    clear CM
    rintro e w1 ⟨rfl, hb1⟩
    have HQ : Hid (Qh w W H C D L w1) := HB0.out.old hb1
    clear hb1 HB0
    go_wp2
    go_ret3
    exact rcPost_nil HQ.out.1
set_option maxHeartbeats 800000 in
theorem sameI_any (a a' : Option Addr) (n c c' : Nat) (l : List Int) (w : World) (hl : l.length = n) (hn : n ≤ 2000000) (r1 : IRow w a l) (r2 : IRow w a' l) : Calls Tryd.prog 26 #[.slice a n c, .slice a' n c'] w fun e w' => e = .returned (.bool true) ∧ Below w.heap.size w w' := by
  have HR : Hid (l.length = n ∧ IRow w a l ∧ IRow w a' l) := ⟨hl, r1, r2⟩
  clear hl r1 r2
  go_enter Tryd.func26, Tryd.ntmps26
  go_wp2
  go_loopw [5, 13] (fun _ t wq => ∃ j : Nat, j ≤ n ∧ t = .int .i64 j ∧ Hid (Below w.heap.size w wq)) (fun _ t _ => n - (intOf t).toNat)
  case atStart => exact ⟨0, Nat.zero_le _, rfl, Below.refl _ _⟩
  case round =>
    obtain ⟨j, hj, rfl, HQ⟩ := hrel
    by_cases hlt : j < n
    · obtain ⟨b, off, rfl, h1⟩ := (HR.out.2.1.old HQ.out).at j (by rw [HR.out.1]; exact hlt)
      obtain ⟨b', off', rfl, h2⟩ := (HR.out.2.2.old HQ.out).at j (by rw [HR.out.1]; exact hlt)
      generalize l[j]?.getD 0 = z at *
      go_wp2
      go_quiet (fail)
      go_wp2
      go_roundw
      case rel => exact ⟨j + 1, by omega, by go_num, ⟨HQ.out.os, HQ.out.tape, HQ.out.output, HQ.out.size, HQ.out.block⟩⟩
      case measure => simp [intOf]; omega
    · go_wp2
      go_ret
      exact ⟨rfl, HQ.out⟩
end Go.Proofs.YticdpibaojhpiaaDoor
