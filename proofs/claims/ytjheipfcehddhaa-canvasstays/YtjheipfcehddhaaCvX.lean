/- The region of CanvasStays that copies a line: whatever its order. -/
import Derived.Test.YtjheipfcehddhaaCvW
import Derived.Test.YtjheipfcehddhaaRgI
namespace Go.Proofs.Ytjheipfcehddhaa
open Go.RowKit
def ownOps : Array Oper := #[
  { dst := some 55, op := .buildSlice 32 0 #[], type := 32, pos := "law.go:107", after := #[], guard := none },
  { dst := some 56, op := .fieldAddr 35 (.tmp 12) 1, type := 0, pos := "law.go:107", after := #[], guard := none },
  { dst := some 57, op := .load 32 (.tmp 56), type := 32, pos := "law.go:107", after := #[{ on := 1, ground := .data }], guard := none },
  { dst := some 58, op := .call { callee := .builtin .append, args := #[.tmp 55, .tmp 57], argTypes := #[32, 32] }, type := 32, pos := "law.go:107", after := #[{ on := 0, ground := .data }, { on := 2, ground := .data }], guard := none },
  { dst := some 59, op := .buildSlice 33 0 #[], type := 33, pos := "law.go:107", after := #[], guard := none },
  { dst := some 60, op := .fieldAddr 35 (.tmp 12) 2, type := 0, pos := "law.go:107", after := #[], guard := none },
  { dst := some 61, op := .load 33 (.tmp 60), type := 33, pos := "law.go:107", after := #[{ on := 5, ground := .data }], guard := none },
  { dst := some 62, op := .call { callee := .builtin .append, args := #[.tmp 59, .tmp 61], argTypes := #[33, 33] }, type := 33, pos := "law.go:107", after := #[{ on := 4, ground := .data }, { on := 6, ground := .data }, { on := 3, ground := .chain }], guard := none },
  { dst := some 63, op := .build 35 #[(1, .tmp 58), (2, .tmp 62)], type := 35, pos := "law.go:107", after := #[{ on := 3, ground := .data }, { on := 7, ground := .data }], guard := none },
  { dst := some 15, op := .alloc 35, type := 0, pos := "law.go:107", after := #[], guard := none },
  { dst := none, op := .store 35 (.tmp 15) (.tmp 63), type := 0, pos := "law.go:107", after := #[{ on := 9, ground := .data }, { on := 8, ground := .data }, { on := 7, ground := .chain }, { on := 0, ground := .phase }, { on := 1, ground := .phase }, { on := 2, ground := .phase }, { on := 3, ground := .phase }, { on := 4, ground := .phase }, { on := 5, ground := .phase }, { on := 6, ground := .phase }, { on := 7, ground := .phase }, { on := 8, ground := .phase }, { on := 9, ground := .phase }], guard := none }]
def ownChk (i : Nat) (b0 b1 b2 b3 b4 b5 b6 b7 b8 b9 b10 : Bool) : Bool := (i == 0 && !b0) || (i == 1 && !b1) || (i == 2 && (!b2 && b1)) || (i == 3 && (!b3 && (b0 && b2))) || (i == 4 && !b4) || (i == 5 && !b5) || (i == 6 && (!b6 && b5)) || (i == 7 && (!b7 && (b4 && (b6 && b3)))) || (i == 8 && (!b8 && (b3 && b7))) || (i == 9 && !b9) || (i == 10 && (!b10 && (b9 && (b8 && (b3 && b7)))))
theorem own_chk : ∀ b0 b1 b2 b3 b4 b5 b6 b7 b8 b9 b10 : Bool, (Region.ready .any ownOps #[b0, b1, b2, b3, b4, b5, b6, b7, b8, b9, b10]).all (fun i => ownChk i b0 b1 b2 b3 b4 b5 b6 b7 b8 b9 b10) = true := by decide +kernel
theorem own_deps (b0 b1 b2 b3 b4 b5 b6 b7 b8 b9 b10 : Bool) (i : Nat) (hi : i ∈ Region.ready .any ownOps #[b0, b1, b2, b3, b4, b5, b6, b7, b8, b9, b10]) : (i = 0 ∧ b0 = false) ∨ (i = 1 ∧ b1 = false) ∨ (i = 2 ∧ b2 = false ∧ b1 = true) ∨ (i = 3 ∧ b3 = false ∧ b0 = true ∧ b2 = true) ∨ (i = 4 ∧ b4 = false) ∨ (i = 5 ∧ b5 = false) ∨ (i = 6 ∧ b6 = false ∧ b5 = true) ∨ (i = 7 ∧ b7 = false ∧ b4 = true ∧ b6 = true ∧ b3 = true) ∨ (i = 8 ∧ b8 = false ∧ b3 = true ∧ b7 = true) ∨ (i = 9 ∧ b9 = false) ∨ (i = 10 ∧ b10 = false ∧ b9 = true ∧ b8 = true ∧ b3 = true ∧ b7 = true) := by
  have h := List.all_eq_true.1 (own_chk b0 b1 b2 b3 b4 b5 b6 b7 b8 b9 b10) i hi
  simp only [ownChk, Bool.or_eq_true, Bool.and_eq_true, beq_iff_eq, Bool.not_eq_true', or_assoc] at h
  exact h
theorem own_end : ∀ b0 b1 b2 b3 b4 b5 b6 b7 b8 b9 b10 : Bool, Region.ready .any ownOps #[b0, b1, b2, b3, b4, b5, b6, b7, b8, b9, b10] = [] → b3 = true ∧ b7 = true ∧ b9 = true ∧ b10 = true := by
  decide +kernel
/-- The slots, as a function. -/
structure TA (a0 a : Act) (V : Nat → Value) : Prop where
  d : a.defers = a0.defers
  s : a.tmps.size = 168
  v : ∀ k, k < 168 → a.tmps[k]? = some (V k)
theorem TA.put {a0 a : Act} {V : Nat → Value} (h : TA a0 a V) (j : Nat) (v : Value) : TA a0 (a.put (some j) v) (upd V j v) := by
  refine ⟨h.d, by simp [Act.put, h.s], fun k hk => ?_⟩
  unfold upd
  simp only [Act.put]
  by_cases e : k = j
  · subst e; rw [if_pos rfl, Array.getElem?_setIfInBounds_self_of_lt (by rw [h.s]; exact hk)]
  · rw [if_neg e, Array.getElem?_setIfInBounds_ne (fun q => e q.symm)]; exact h.v k hk
theorem TA.ev {a0 a : Act} {V : Nat → Value} (h : TA a0 a V) {j : Nat} (hj : j < 168) : a.eval (.tmp j) = V j := by
  obtain ⟨hlt, he⟩ := Array.getElem?_eq_some_iff.1 (h.v j hj)
  simp [Act.eval, Array.getD, hlt, he]
theorem wpOp_val {Q : Exit → Act → World → Prop} {i : Nat} {K : Act → World → Prop} {a : Act} {w w' : World} {o : Oper} {v : Value} (ho : ownOps[i]? = some o) (hg : o.guard = none) (hr : (execOp a.eval o).run Try.prog w = .ok (.value v) w') (h : K (a.put o.dst v) w') : wpOp Try.prog ownOps Q i K a w := by
  unfold wpOp
  simp only [ho]
  rw [if_pos (by simp [Region.wanted, hg])]
  refine .inl ?_
  simp only [Oper.wp, hr, Oper.upon]
  exact h
def sel (V0 : Nat → Value) (v15 v55 v56 v57 v58 v59 v60 v61 v62 v63 : Value) : Nat → Value := fun k => if k = 15 then v15 else if k = 55 then v55 else if k = 56 then v56 else if k = 57 then v57 else if k = 58 then v58 else if k = 59 then v59 else if k = 60 then v60 else if k = 61 then v61 else if k = 62 then v62 else if k = 63 then v63 else V0 k
variable {V0 : Nat → Value} {v15 v55 v56 v57 v58 v59 v60 v61 v62 v63 x : Value}
theorem sel15 : upd (sel V0 v15 v55 v56 v57 v58 v59 v60 v61 v62 v63) 15 x = sel V0 x v55 v56 v57 v58 v59 v60 v61 v62 v63 := by
  funext k; unfold upd sel; by_cases h : k = 15 <;> simp [h]
theorem sel55 : upd (sel V0 v15 v55 v56 v57 v58 v59 v60 v61 v62 v63) 55 x = sel V0 v15 x v56 v57 v58 v59 v60 v61 v62 v63 := by
  funext k; unfold upd sel; by_cases h : k = 55 <;> simp [h]
theorem sel56 : upd (sel V0 v15 v55 v56 v57 v58 v59 v60 v61 v62 v63) 56 x = sel V0 v15 v55 x v57 v58 v59 v60 v61 v62 v63 := by
  funext k; unfold upd sel; by_cases h : k = 56 <;> simp [h]
theorem sel57 : upd (sel V0 v15 v55 v56 v57 v58 v59 v60 v61 v62 v63) 57 x = sel V0 v15 v55 v56 x v58 v59 v60 v61 v62 v63 := by
  funext k; unfold upd sel; by_cases h : k = 57 <;> simp [h]
theorem sel58 : upd (sel V0 v15 v55 v56 v57 v58 v59 v60 v61 v62 v63) 58 x = sel V0 v15 v55 v56 v57 x v59 v60 v61 v62 v63 := by
  funext k; unfold upd sel; by_cases h : k = 58 <;> simp [h]
theorem sel59 : upd (sel V0 v15 v55 v56 v57 v58 v59 v60 v61 v62 v63) 59 x = sel V0 v15 v55 v56 v57 v58 x v60 v61 v62 v63 := by
  funext k; unfold upd sel; by_cases h : k = 59 <;> simp [h]
theorem sel60 : upd (sel V0 v15 v55 v56 v57 v58 v59 v60 v61 v62 v63) 60 x = sel V0 v15 v55 v56 v57 v58 v59 x v61 v62 v63 := by
  funext k; unfold upd sel; by_cases h : k = 60 <;> simp [h]
theorem sel61 : upd (sel V0 v15 v55 v56 v57 v58 v59 v60 v61 v62 v63) 61 x = sel V0 v15 v55 v56 v57 v58 v59 v60 x v62 v63 := by
  funext k; unfold upd sel; by_cases h : k = 61 <;> simp [h]
theorem sel62 : upd (sel V0 v15 v55 v56 v57 v58 v59 v60 v61 v62 v63) 62 x = sel V0 v15 v55 v56 v57 v58 v59 v60 v61 x v63 := by
  funext k; unfold upd sel; by_cases h : k = 62 <;> simp [h]
theorem sel63 : upd (sel V0 v15 v55 v56 v57 v58 v59 v60 v61 v62 v63) 63 x = sel V0 v15 v55 v56 v57 v58 v59 v60 v61 v62 x := by
  funext k; unfold upd sel; by_cases h : k = 63 <;> simp [h]
theorem wpOp_list {Q : Exit → Act → World → Prop} {i : Nat} {K : Act → World → Prop} {a : Act} {w : World} {o : Oper} (ho : ownOps[i]? = some o) (hg : o.guard = none) (h : wpList Try.prog ownOps (OnlyK K) [o] a w) : wpOp Try.prog ownOps Q i K a w := by
  unfold wpOp
  simp only [ho]
  have hw : Region.wanted o (yielded ownOps a.tmps) = true := by simp [Region.wanted, hg]
  rw [if_pos hw]
  have := step_of_list (E := True) (Q := Q) hg h
  rw [if_pos hw] at this
  exact .inl this
theorem run_0 (ev : Operand → Value) (u : World) : (execOp ev (ownOps[0]!)).run Try.prog u = .ok (.value (.slice (some ⟨u.heap.size, 0, none⟩) 0 0)) (u.alloc (.cells #[] 58)) := by
  show (execOp ev { dst := some 55, op := .buildSlice 32 0 #[], type := 32, pos := "law.go:107", after := #[], guard := none }).run Try.prog u = _
  go_simp
theorem run_1 (ev : Operand → Value) (u : World) (lb : Nat) (h : ev (.tmp 12) = .pointer (some ⟨lb, 0, none⟩)) : (execOp ev (ownOps[1]!)).run Try.prog u = .ok (.value (.pointer (some ⟨lb, 1, none⟩))) u := by
  show (execOp ev { dst := some 56, op := .fieldAddr 35 (.tmp 12) 1, type := 0, pos := "law.go:107", after := #[], guard := none }).run Try.prog u = _
  go_simp
theorem run_2 (ev : Operand → Value) (u : World) (lb : Nat) (a : Option Addr) (n c : Nat) (h : ev (.tmp 56) = .pointer (some ⟨lb, 1, none⟩)) (hc : u.cell? ⟨lb, 1, none⟩ = some (.slice a n c)) : (execOp ev (ownOps[2]!)).run Try.prog u = .ok (.value (.slice a n c)) u := by
  show (execOp ev { dst := some 57, op := .load 32 (.tmp 56), type := 32, pos := "law.go:107", after := #[{ on := 1, ground := .data }], guard := none }).run Try.prog u = _
  go_simp
theorem run_4 (ev : Operand → Value) (u : World) : (execOp ev (ownOps[4]!)).run Try.prog u = .ok (.value (.slice (some ⟨u.heap.size, 0, none⟩) 0 0)) (u.alloc (.cells #[] 49)) := by
  show (execOp ev { dst := some 59, op := .buildSlice 33 0 #[], type := 33, pos := "law.go:107", after := #[], guard := none }).run Try.prog u = _
  go_simp
theorem run_5 (ev : Operand → Value) (u : World) (lb : Nat) (h : ev (.tmp 12) = .pointer (some ⟨lb, 0, none⟩)) : (execOp ev (ownOps[5]!)).run Try.prog u = .ok (.value (.pointer (some ⟨lb, 2, none⟩))) u := by
  show (execOp ev { dst := some 60, op := .fieldAddr 35 (.tmp 12) 2, type := 0, pos := "law.go:107", after := #[], guard := none }).run Try.prog u = _
  go_simp
theorem run_6 (ev : Operand → Value) (u : World) (lb : Nat) (a : Option Addr) (n c : Nat) (h : ev (.tmp 60) = .pointer (some ⟨lb, 2, none⟩)) (hc : u.cell? ⟨lb, 2, none⟩ = some (.slice a n c)) : (execOp ev (ownOps[6]!)).run Try.prog u = .ok (.value (.slice a n c)) u := by
  show (execOp ev { dst := some 61, op := .load 33 (.tmp 60), type := 33, pos := "law.go:107", after := #[{ on := 5, ground := .data }], guard := none }).run Try.prog u = _
  go_simp
theorem run_8 (ev : Operand → Value) (u : World) (a b : Option Addr) (n c m d : Nat) (h : ev (.tmp 58) = .slice a n c) (h' : ev (.tmp 62) = .slice b m d) : (execOp ev (ownOps[8]!)).run Try.prog u = .ok (.value (.agg #[.int .i64 0, .slice a n c, .slice b m d])) u := by
  show (execOp ev { dst := some 63, op := .build 35 #[(1, .tmp 58), (2, .tmp 62)], type := 35, pos := "law.go:107", after := #[{ on := 3, ground := .data }, { on := 7, ground := .data }], guard := none }).run Try.prog u = _
  go_simp
theorem run_9 (ev : Operand → Value) (u : World) : (execOp ev (ownOps[9]!)).run Try.prog u = .ok (.value (.pointer (some ⟨u.heap.size, 0, none⟩))) (u.alloc (.cells #[.int .i64 0, .slice none 0 0, .slice none 0 0] 35)) := by
  show (execOp ev { dst := some 15, op := .alloc 35, type := 0, pos := "law.go:107", after := #[], guard := none }).run Try.prog u = _
  go_simp
end Go.Proofs.Ytjheipfcehddhaa
