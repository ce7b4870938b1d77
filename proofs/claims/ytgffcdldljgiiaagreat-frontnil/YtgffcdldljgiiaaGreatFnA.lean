/- A front: its cells; begun; what a new one and a nil one answer. -/
import Derived.Test.YtgffcdldljgiiaaGreatGfB
namespace Go.Proofs.YtgffcdldljgiiaaGreat
open Go.RowKit
def FrB (w : World) (f : Nat) (fv : Value) (wv : Bool) : Prop := w.heap[f]? = some (.cells #[fv, .bool wv] 45 (0, 0))
theorem FrB.cells {w : World} {f : Nat} {fv : Value} {wv : Bool} (h : FrB w f fv wv) : w.cell? ⟨f, 0, none⟩ = some fv ∧ w.cell? ⟨f, 1, none⟩ = some (.bool wv) ∧ ∀ j, w.frozen? ⟨f, j, none⟩ = false := by
  unfold FrB at h
  refine ⟨?_, ?_, fun j => ?_⟩ <;> simp [World.cell?, World.frozen?, h]
theorem FrB.set0 {w : World} {f : Nat} {fv : Value} {wv : Bool} (h : FrB w f fv wv) (v : Value) : FrB (w.setCell ⟨f, 0, none⟩ v) f v wv := by
  unfold FrB at h ⊢
  rw [heap_setCell_same w f 0 _ _ _ h]; rfl
theorem FrB.set1 {w : World} {f : Nat} {fv : Value} {wv : Bool} (h : FrB w f fv wv) (b : Bool) : FrB (w.setCell ⟨f, 1, none⟩ (.bool b)) f fv b := by
  unfold FrB at h ⊢
  rw [heap_setCell_same w f 1 _ _ _ h]; rfl
theorem FrB.old {w w' : World} {f : Nat} {fv : Value} {wv : Bool} (h : FrB w f fv wv) (hb : Below w.heap.size w w') : FrB w' f fv wv := (hb.block f (lt_of_block h)).trans h
theorem iface_neq (w : World) (t : TypeId) (v : Value) : (binOp .neq 43 (.iface t v) .nilIface).run Tryz.prog w = .ok (.bool true) w := by
  unfold binOp Op.equal
  obtain ⟨m, hm⟩ : ∃ m, Op.maxDepth = m + 1 := ⟨9999, rfl⟩
  rw [hm]
  unfold Op.equalIn
  go_simp
theorem iface_neq0 (w : World) : (binOp .neq 43 .nilIface .nilIface).run Tryz.prog w = .ok (.bool false) w := by
  unfold binOp Op.equal
  obtain ⟨m, hm⟩ : ∃ m, Op.maxDepth = m + 1 := ⟨9999, rfl⟩
  rw [hm]
  unfold Op.equalIn
  go_simp
set_option maxHeartbeats 400000 in
theorem begun_nil (w : World) : Calls Tryz.prog 12 #[.pointer none] w fun e w' => e = .returned (.bool false) ∧ w' = w := by
  go_enter Tryz.func12, Tryz.ntmps12
  go_wp2
  go_ret
  exact ⟨rfl, rfl⟩
set_option maxHeartbeats 400000 in
theorem begun_no {w : World} {f : Nat} {wv : Bool} (h : FrB w f .nilIface wv) : Calls Tryz.prog 12 #[.pointer (some ⟨f, 0, none⟩)] w fun e w' => e = .returned (.bool false) ∧ w' = w := by
  obtain ⟨k0, -, -⟩ := h.cells
  have q := iface_neq0
  clear h
  go_enter Tryz.func12, Tryz.ntmps12
  go_wp2
  go_ret
  exact ⟨rfl, rfl⟩
set_option maxHeartbeats 400000 in
theorem begun_yes {w : World} {f : Nat} {t : TypeId} {v : Value} {wv : Bool} (h : FrB w f (.iface t v) wv) : Calls Tryz.prog 12 #[.pointer (some ⟨f, 0, none⟩)] w fun e w' => e = .returned (.bool true) ∧ w' = w := by
  obtain ⟨k0, -, -⟩ := h.cells
  have q := iface_neq
  clear h
  go_enter Tryz.func12, Tryz.ntmps12
  go_wp2
  go_ret
  exact ⟨rfl, rfl⟩
set_option maxHeartbeats 400000 in
theorem fnew_any (w : World) : Calls Tryz.prog 11 #[] w fun e w' => ∃ f, e = .returned (.pointer (some ⟨f, 0, none⟩)) ∧ FrB w' f .nilIface false ∧ w.heap.size ≤ f ∧ Below w.heap.size w w' := by
  have HF : Hid (∀ o, Below w.heap.size w (w.alloc o) ∧ (w.alloc o).heap[w.heap.size]? = some o) := fun o => ⟨(Below.refl _ _).alloc (Nat.le_refl _) _, heap_alloc_newG w o⟩
  go_enter Tryz.func11, Tryz.ntmps11
  go_wp2
  go_ret
  exact ⟨w.heap.size, rfl, (HF.out _).2, Nat.le_refl _, (HF.out _).1⟩
set_option maxHeartbeats 400000 in
theorem fPush_nil (v : Value) (w : World) : Calls Tryz.prog 5 #[.pointer none, v] w fun e w' => e = .returned (.tuple #[.slice none 0 0, .int .i64 1]) ∧ w' = w := by
  go_enter Tryz.func5, Tryz.ntmps5
  go_wp2
  go_ret2
  exact ⟨rfl, rfl⟩
set_option maxHeartbeats 400000 in
theorem fPush_none {w : World} {f : Nat} {wv : Bool} (h : FrB w f .nilIface wv) : Calls Tryz.prog 5 #[.pointer (some ⟨f, 0, none⟩), .slice none 0 0] w fun e w' => e = .returned (.tuple #[.slice none 0 0, .int .i64 0]) ∧ w' = w := by
  have C := begun_no h
  clear h
  go_enter Tryz.func5, Tryz.ntmps5
  go_wp2_with fail
  refine C.mono ?_
  rintro e w' ⟨rfl, rfl⟩
  go_wp2_with fail
  refine C.mono ?_
  rintro e w' ⟨rfl, rfl⟩
  go_wp2
  go_ret2
  exact ⟨rfl, rfl⟩
set_option maxHeartbeats 400000 in
theorem fDone_nil (w : World) : Calls Tryz.prog 7 #[.pointer none] w fun e w' => e = .returned (.bool false) ∧ w' = w := by
  have C := begun_nil w
  go_enter Tryz.func7, Tryz.ntmps7
  go_wp2_with fail
  refine C.mono ?_
  rintro e w' ⟨rfl, rfl⟩
  go_wp2
  go_ret
  exact ⟨rfl, rfl⟩
set_option maxHeartbeats 400000 in
theorem fDone_no {w : World} {f : Nat} {wv : Bool} (h : FrB w f .nilIface wv) : Calls Tryz.prog 7 #[.pointer (some ⟨f, 0, none⟩)] w fun e w' => e = .returned (.bool false) ∧ w' = w := by
  have C := begun_no h
  clear h
  go_enter Tryz.func7, Tryz.ntmps7
  go_wp2_with fail
  refine C.mono ?_
  rintro e w' ⟨rfl, rfl⟩
  go_wp2
  go_ret
  exact ⟨rfl, rfl⟩
set_option maxHeartbeats 400000 in
theorem fTold_nil (w : World) : Calls Tryz.prog 8 #[.pointer none] w fun e w' => e = .returned (.int .i64 0) ∧ w' = w := by
  have C := begun_nil w
  go_enter Tryz.func8, Tryz.ntmps8
  go_wp2_with fail
  refine C.mono ?_
  rintro e w' ⟨rfl, rfl⟩
  go_wp2
  go_ret
  exact ⟨rfl, rfl⟩
set_option maxHeartbeats 400000 in
theorem fWoven_nil (w : World) : Calls Tryz.prog 9 #[.pointer none] w fun e w' => e = .returned (.bool false) ∧ w' = w := by
  go_enter Tryz.func9, Tryz.ntmps9
  go_wp2
  go_ret
  exact ⟨rfl, rfl⟩
set_option maxHeartbeats 400000 in
theorem fWoven_any {w : World} {f : Nat} {fv : Value} {wv : Bool} (h : FrB w f fv wv) : Calls Tryz.prog 9 #[.pointer (some ⟨f, 0, none⟩)] w fun e w' => e = .returned (.bool wv) ∧ w' = w := by
  obtain ⟨-, k1, -⟩ := h.cells
  clear h
  go_enter Tryz.func9, Tryz.ntmps9
  go_wp2
  go_ret
  exact ⟨rfl, rfl⟩
/-- Some bytes of a GIF, one at a time. -/
theorem gg_71 : gAll ([] ++ [71]) = .error 2 := by rfl
theorem gg_73 : gAll ([] ++ [71] ++ [73]) = .error 2 := by rfl
end Go.Proofs.YtgffcdldljgiiaaGreat
