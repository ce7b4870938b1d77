/- The document's Plain. -/
import Derived.Test.YtaibojmaghmfnaaMhB
namespace Go.Proofs.Ytaibojmaghmfnaa
open Go.RowKit
/-- A message with all that its kind has, and nothing else. -/
def Ms.kb (m : Ms) (k bo : Int) : Ms := ⟨k, bo, m.fi, m.su, m.si, m.ap, m.bd, m.ix, m.pa, m.co, m.ra, m.rn, m.rc, m.da, m.dn, m.dc⟩
def on_none : Ms := ⟨0, 0, 0, 0, 0, 0, 0, 0, 0, 0, none, 0, 0, none, 0, 0⟩
def plM (m : Ms) : Ms := (if m.k = 1 then on_ask m else if m.k = 2 then on_offer m else if m.k = 3 then on_data m else if m.k = 4 then on_ack m else if m.k = 5 then on_no m else on_none).kb m.k m.bo
theorem end3 (w : World) (o1 o2 o3 : Obj) : Below w.heap.size w (((w.alloc o1).alloc o2).alloc o3) := (((Below.refl _ _).alloc (Nat.le_refl _) _).alloc (by simp) _).alloc (by simp; omega) _
set_option maxHeartbeats 3200000 in
theorem rplain_ask (m : Ms) (w : World) (hk : m.k = 1) : Calls Try.prog 45 #[m.V] w fun e w' => e = .returned ((on_ask m).kb m.k m.bo).V ∧ Below w.heap.size w w' := by
  obtain ⟨k, bo, fi, su, si, ap, bd, ix, pa, co, ra, rn, rc, da, dn, dc⟩ := m
  unfold Ms.kb on_ask Ms.V Ms.c12
  simp only at hk ⊢
  subst hk
  go_enter Try.func45, Try.ntmps45
  go_wp2
  refine bodyPost_ret (v := .agg #[.int .i64 1, .int .u32 bo, .int .i64 fi, .int .u32 su, .int .i64 0, .int .i64 ap, .int .i64 0, .int .i64 0, .int .i64 0, .int .i64 0, .slice none 0 0, .slice none 0 0]) (by simp [results, Try.results45, go_sem]) rfl ⟨rfl, ?_⟩
  exact end3 _ _ _ _
set_option maxHeartbeats 3200000 in
theorem rplain_offer (m : Ms) (w : World) (hk : m.k = 2) : Calls Try.prog 45 #[m.V] w fun e w' => e = .returned ((on_offer m).kb m.k m.bo).V ∧ Below w.heap.size w w' := by
  obtain ⟨k, bo, fi, su, si, ap, bd, ix, pa, co, ra, rn, rc, da, dn, dc⟩ := m
  unfold Ms.kb on_offer Ms.V Ms.c12
  simp only at hk ⊢
  subst hk
  go_enter Try.func45, Try.ntmps45
  go_wp2
  refine bodyPost_ret (v := .agg #[.int .i64 2, .int .u32 bo, .int .i64 fi, .int .u32 su, .int .i64 si, .int .i64 ap, .int .i64 bd, .int .i64 0, .int .i64 0, .int .i64 0, .slice none 0 0, .slice none 0 0]) (by simp [results, Try.results45, go_sem]) rfl ⟨rfl, ?_⟩
  exact end3 _ _ _ _
set_option maxHeartbeats 3200000 in
theorem rplain_data (m : Ms) (w : World) (hk : m.k = 3) : Calls Try.prog 45 #[m.V] w fun e w' => e = .returned ((on_data m).kb m.k m.bo).V ∧ Below w.heap.size w w' := by
  obtain ⟨k, bo, fi, su, si, ap, bd, ix, pa, co, ra, rn, rc, da, dn, dc⟩ := m
  unfold Ms.kb on_data Ms.V Ms.c12
  simp only at hk ⊢
  subst hk
  go_enter Try.func45, Try.ntmps45
  go_wp2
  refine bodyPost_ret (v := .agg #[.int .i64 3, .int .u32 bo, .int .i64 0, .int .u32 0, .int .i64 0, .int .i64 0, .int .i64 0, .int .i64 ix, .int .i64 pa, .int .i64 0, .slice none 0 0, .slice da dn dc]) (by simp [results, Try.results45, go_sem]) rfl ⟨rfl, ?_⟩
  exact end3 _ _ _ _
set_option maxHeartbeats 3200000 in
theorem rplain_ack (m : Ms) (w : World) (hk : m.k = 4) : Calls Try.prog 45 #[m.V] w fun e w' => e = .returned ((on_ack m).kb m.k m.bo).V ∧ Below w.heap.size w w' := by
  obtain ⟨k, bo, fi, su, si, ap, bd, ix, pa, co, ra, rn, rc, da, dn, dc⟩ := m
  unfold Ms.kb on_ack Ms.V Ms.c12
  simp only at hk ⊢
  subst hk
  go_enter Try.func45, Try.ntmps45
  go_wp2
  refine bodyPost_ret (v := .agg #[.int .i64 4, .int .u32 bo, .int .i64 0, .int .u32 0, .int .i64 0, .int .i64 0, .int .i64 0, .int .i64 ix, .int .i64 0, .int .i64 0, .slice ra rn rc, .slice none 0 0]) (by simp [results, Try.results45, go_sem]) rfl ⟨rfl, ?_⟩
  exact end3 _ _ _ _
set_option maxHeartbeats 3200000 in
theorem rplain_no (m : Ms) (w : World) (hk : m.k = 5) : Calls Try.prog 45 #[m.V] w fun e w' => e = .returned ((on_no m).kb m.k m.bo).V ∧ Below w.heap.size w w' := by
  obtain ⟨k, bo, fi, su, si, ap, bd, ix, pa, co, ra, rn, rc, da, dn, dc⟩ := m
  unfold Ms.kb on_no Ms.V Ms.c12
  simp only at hk ⊢
  subst hk
  go_enter Try.func45, Try.ntmps45
  go_wp2
  refine bodyPost_ret (v := .agg #[.int .i64 5, .int .u32 bo, .int .i64 fi, .int .u32 0, .int .i64 0, .int .i64 0, .int .i64 0, .int .i64 0, .int .i64 0, .int .i64 co, .slice none 0 0, .slice none 0 0]) (by simp [results, Try.results45, go_sem]) rfl ⟨rfl, ?_⟩
  exact end3 _ _ _ _
set_option maxHeartbeats 3200000 in
theorem rplain_none (m : Ms) (w : World) (hk : ¬ (1 ≤ m.k ∧ m.k ≤ 5)) : Calls Try.prog 45 #[m.V] w fun e w' => e = .returned ((on_none).kb m.k m.bo).V ∧ Below w.heap.size w w' := by
  obtain ⟨k, bo, fi, su, si, ap, bd, ix, pa, co, ra, rn, rc, da, dn, dc⟩ := m
  unfold Ms.kb on_none Ms.V Ms.c12
  simp only at hk ⊢
  have h1 : (k == 1) = false := by simp; omega
  have h2 : (k == 2) = false := by simp; omega
  have h3 : (k == 3) = false := by simp; omega
  have h4 : (k == 4) = false := by simp; omega
  have h5 : (k == 5) = false := by simp; omega
  clear hk
  go_enter Try.func45, Try.ntmps45
  go_wp2
  refine bodyPost_ret (v := .agg #[.int .i64 k, .int .u32 bo, .int .i64 0, .int .u32 0, .int .i64 0, .int .i64 0, .int .i64 0, .int .i64 0, .int .i64 0, .int .i64 0, .slice none 0 0, .slice none 0 0]) (by simp [results, Try.results45, go_sem]) rfl ⟨rfl, ?_⟩
  exact end3 _ _ _ _
theorem rplain_any (m : Ms) (w : World) : Calls Try.prog 45 #[m.V] w fun e w' => e = .returned (plM m).V ∧ Below w.heap.size w w' := by
  unfold plM
  by_cases k1 : m.k = 1
  · rw [if_pos k1]; exact rplain_ask m w k1
  by_cases k2 : m.k = 2
  · rw [if_neg k1, if_pos k2]; exact rplain_offer m w k2
  by_cases k3 : m.k = 3
  · rw [if_neg k1, if_neg k2, if_pos k3]; exact rplain_data m w k3
  by_cases k4 : m.k = 4
  · rw [if_neg k1, if_neg k2, if_neg k3, if_pos k4]; exact rplain_ack m w k4
  by_cases k5 : m.k = 5
  · rw [if_neg k1, if_neg k2, if_neg k3, if_neg k4, if_pos k5]; exact rplain_no m w k5
  rw [if_neg k1, if_neg k2, if_neg k3, if_neg k4, if_neg k5]
  exact rplain_none m w (by omega)
end Go.Proofs.Ytaibojmaghmfnaa
