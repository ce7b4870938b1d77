/- A copy of bytes. -/
import Derived.Test.YtinmkhdangknbaaTkD
import Derived.Test.YtinmkhdangknbaaCpy
namespace Go.Proofs.Ytinmkhdangknbaa
open Go.RowKit
def ptV (q : Pt) : Value := .slice q.a q.z.length q.c
theorem Try.infoBs : (Try.prog.info? 23).map (fun i => (i.zero, i.size, i.bytes)) = some (some (.slice none 0 0), 1, 24) := by kernel_rfl
theorem slB_not_nil (a : Addr) (n c : Nat) (w : World) : (binOp .eql 23 (.slice (some a) n c) (.slice none 0 0)).run Try.prog w = .ok (.bool false) w := by
  unfold binOp Op.equal
  obtain ⟨m, hm⟩ : ∃ m, Op.maxDepth = m + 1 := ⟨9999, rfl⟩
  rw [hm]
  unfold Op.equalIn
  go_simp
theorem slB_nil (n c : Nat) (w : World) : (binOp .eql 23 (.slice none n c) (.slice none 0 0)).run Try.prog w = .ok (.bool true) w := by
  unfold binOp Op.equal
  obtain ⟨m, hm⟩ : ∃ m, Op.maxDepth = m + 1 := ⟨9999, rfl⟩
  rw [hm]
  unfold Op.equalIn
  go_simp
/-- A copy of bytes. -/
def ClB (w : World) (zs : List Int) (e : Ending) (w' : World) : Prop := ∃ q : Pt, e = .returned (ptV q) ∧ q.z = zs ∧ PtOk w' q ∧ Below w.heap.size w w' ∧ ∀ x, q.a = some x → w.heap.size ≤ x.block
theorem Sl.ptok {w : World} {a : Option Addr} {n c : Nat} {g : Option Nat} {l : List Int} (h : Sl w 5 (.slice a n c) g (vals l)) (hl : l.length = n) (hb : Bytes l) (hn : n ≤ 140737488351232) : PtOk w ⟨a, c, l⟩ := by
  obtain ⟨a', c', hv, h1, h2, h3⟩ := h.shape
  simp only [Value.slice.injEq] at hv
  obtain ⟨rfl, h4, rfl⟩ := hv
  rw [vals_len] at h1
  unfold maxLen at h2
  exact ⟨hb, h1, ⟨by simp only; omega, by simp only; omega⟩, h3, h.row rfl⟩
set_option maxHeartbeats 1600000 in
theorem rclone_any {w : World} {a : Option Addr} {n c : Nat} {zs : List Int} (hn : zs.length = n) (hnil : a = none → c = 0) (hl : n ≤ 140737488351232) (hb : Bytes zs) (hr : Row w a zs) : Calls Try.prog 43 #[.slice a n c] w fun e w' => ClB w zs e w' := by
  cases a with
  | none =>
    have hz : zs = [] := by
      rcases hr with h | ⟨b, off, h, _⟩
      · exact h
      · cases h
    subst hz
    simp at hn
    subst hn
    have hc0 := hnil rfl
    subst hc0
    have NN := slB_nil 0 0
    have HE : Hid (ClB w [] (.returned (.slice none 0 0)) w) := ⟨⟨none, 0, []⟩, rfl, rfl, ⟨Bytes.nil, Nat.le_refl _, by simp, fun _ => rfl, .inl rfl⟩, Below.refl _ _, fun x h => by cases h⟩
    go_enter Try.func43, Try.ntmps43
    go_wp2
    go_ret
    exact HE.out
  | some x =>
    have NN := slB_not_nil x n c
    have HR : Hid (zs.length = n ∧ Row w (some x) zs ∧ Bytes zs) := ⟨hn, hr, hb⟩
    clear hr hb hn hnil
    go_enter Try.func43, Try.ntmps43
    go_wp2_with (at_builtin; go_must (refine wpList_copy rfl _ _ rfl (some x) n c zs rfl rfl (fun h => by cases h) HR.out.1 HR.out.2.1 (by omega) ?_))
    intro a' c' w' g' h1 h2 h3
    have HE : Hid (ClB w zs (.returned (.slice a' n c')) w') := by
      refine ⟨⟨a', c', zs⟩, by unfold ptV; rw [HR.out.1], rfl, h1.ptok HR.out.1 HR.out.2.2 (by omega), h3, fun y hy => ?_⟩
      have hy : a' = some y := hy
      subst hy
      rcases h1 with ⟨e, _, _⟩ | ⟨b, off, cap, cur, e, eg, _⟩
      · cases e
      · simp only [Value.slice.injEq, Option.some.injEq] at e
        rw [e.1]
        exact h2 b eg
    clear h1 h2 h3
    go_wp2
    go_ret
    exact HE.out
end Go.Proofs.Ytinmkhdangknbaa
