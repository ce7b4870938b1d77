/- What a kind keeps of a message, and its bounds. -/
import Derived.Test.YtaibojmaghmfnaaMgD
namespace Go.Proofs.Ytaibojmaghmfnaa
open Go.RowKit
def on_ask (m : Ms) : Ms := ⟨0, 0, m.fi, m.su, 0, m.ap, 0, 0, 0, 0, none, 0, 0, none, 0, 0⟩
set_option maxHeartbeats 800000 in
theorem only_ask (m : Ms) (w : World) : Calls Try.prog 54 #[m.V] w fun e w' => e = .returned (on_ask m).V ∧ Below w.heap.size w w' := by
  obtain ⟨k, bo, fi, su, si, ap, bd, ix, pa, co, ra, rn, rc, da, dn, dc⟩ := m
  unfold on_ask Ms.V Ms.c12
  simp only
  go_enter Try.func54, Try.ntmps54
  go_wp2
  refine bodyPost_ret (v := .agg (on_ask ⟨k, bo, fi, su, si, ap, bd, ix, pa, co, ra, rn, rc, da, dn, dc⟩).c12) (by simp [results, Try.results54, go_sem, on_ask, Ms.c12]) rfl ⟨by simp [on_ask, Ms.c12], ?_⟩
  exact ((Below.refl _ _).alloc (Nat.le_refl _) _).alloc (by simp) _
def on_offer (m : Ms) : Ms := ⟨0, 0, m.fi, m.su, m.si, m.ap, m.bd, 0, 0, 0, none, 0, 0, none, 0, 0⟩
set_option maxHeartbeats 800000 in
theorem only_offer (m : Ms) (w : World) : Calls Try.prog 60 #[m.V] w fun e w' => e = .returned (on_offer m).V ∧ Below w.heap.size w w' := by
  obtain ⟨k, bo, fi, su, si, ap, bd, ix, pa, co, ra, rn, rc, da, dn, dc⟩ := m
  unfold on_offer Ms.V Ms.c12
  simp only
  go_enter Try.func60, Try.ntmps60
  go_wp2
  refine bodyPost_ret (v := .agg (on_offer ⟨k, bo, fi, su, si, ap, bd, ix, pa, co, ra, rn, rc, da, dn, dc⟩).c12) (by simp [results, Try.results60, go_sem, on_offer, Ms.c12]) rfl ⟨by simp [on_offer, Ms.c12], ?_⟩
  exact ((Below.refl _ _).alloc (Nat.le_refl _) _).alloc (by simp) _
def on_data (m : Ms) : Ms := ⟨0, 0, 0, 0, 0, 0, 0, m.ix, m.pa, 0, none, 0, 0, m.da, m.dn, m.dc⟩
set_option maxHeartbeats 800000 in
theorem only_data (m : Ms) (w : World) : Calls Try.prog 64 #[m.V] w fun e w' => e = .returned (on_data m).V ∧ Below w.heap.size w w' := by
  obtain ⟨k, bo, fi, su, si, ap, bd, ix, pa, co, ra, rn, rc, da, dn, dc⟩ := m
  unfold on_data Ms.V Ms.c12
  simp only
  go_enter Try.func64, Try.ntmps64
  go_wp2
  refine bodyPost_ret (v := .agg (on_data ⟨k, bo, fi, su, si, ap, bd, ix, pa, co, ra, rn, rc, da, dn, dc⟩).c12) (by simp [results, Try.results64, go_sem, on_data, Ms.c12]) rfl ⟨by simp [on_data, Ms.c12], ?_⟩
  exact ((Below.refl _ _).alloc (Nat.le_refl _) _).alloc (by simp) _
def on_ack (m : Ms) : Ms := ⟨0, 0, 0, 0, 0, 0, 0, m.ix, 0, 0, m.ra, m.rn, m.rc, none, 0, 0⟩
set_option maxHeartbeats 800000 in
theorem only_ack (m : Ms) (w : World) : Calls Try.prog 70 #[m.V] w fun e w' => e = .returned (on_ack m).V ∧ Below w.heap.size w w' := by
  obtain ⟨k, bo, fi, su, si, ap, bd, ix, pa, co, ra, rn, rc, da, dn, dc⟩ := m
  unfold on_ack Ms.V Ms.c12
  simp only
  go_enter Try.func70, Try.ntmps70
  go_wp2
  refine bodyPost_ret (v := .agg (on_ack ⟨k, bo, fi, su, si, ap, bd, ix, pa, co, ra, rn, rc, da, dn, dc⟩).c12) (by simp [results, Try.results70, go_sem, on_ack, Ms.c12]) rfl ⟨by simp [on_ack, Ms.c12], ?_⟩
  exact ((Below.refl _ _).alloc (Nat.le_refl _) _).alloc (by simp) _
def on_no (m : Ms) : Ms := ⟨0, 0, m.fi, 0, 0, 0, 0, 0, 0, m.co, none, 0, 0, none, 0, 0⟩
set_option maxHeartbeats 800000 in
theorem only_no (m : Ms) (w : World) : Calls Try.prog 75 #[m.V] w fun e w' => e = .returned (on_no m).V ∧ Below w.heap.size w w' := by
  obtain ⟨k, bo, fi, su, si, ap, bd, ix, pa, co, ra, rn, rc, da, dn, dc⟩ := m
  unfold on_no Ms.V Ms.c12
  simp only
  go_enter Try.func75, Try.ntmps75
  go_wp2
  refine bodyPost_ret (v := .agg (on_no ⟨k, bo, fi, su, si, ap, bd, ix, pa, co, ra, rn, rc, da, dn, dc⟩).c12) (by simp [results, Try.results75, go_sem, on_no, Ms.c12]) rfl ⟨by simp [on_no, Ms.c12], ?_⟩
  exact ((Below.refl _ _).alloc (Nat.le_refl _) _).alloc (by simp) _
end Go.Proofs.Ytaibojmaghmfnaa
