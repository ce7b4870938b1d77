/- A store: the document's. -/
import Derived.Test.YtinmkhdangknbaaTkL
import Derived.Test.YtinmkhdangknbaaTkQ
namespace Go.Proofs.Ytinmkhdangknbaa
open Go.RowKit
structure RS (w : World) (c : Nat) (K B : Pt) (s : Bool) : Prop where
  ce : w.heap[c]? = some (.cells #[ptV K, ptV B, .bool s] 45 (0, 0))
  k : PtOk w K
  b : PtOk w B
theorem RS.old {w w' : World} {b : Nat} {K B : Pt} {s : Bool} (h : RS w b K B s) (hb : Below w.heap.size w w') : RS w' b K B s := ⟨(hb.block _ (lt_of_block h.ce)).trans h.ce, h.k.old hb, h.b.old hb⟩
theorem rput_busy {w : World} {c : Nat} {K B : Pt} (h : RS w c K B true) (v : Value) : Calls Try.prog 20 #[.pointer (some ⟨c, 0, none⟩), v] w fun e w' => e = .returned (.int .i64 17) ∧ w' = w := by
  obtain ⟨d0, d1, d2⟩ := three_cells h.ce
  clear h
  unfold ptV at *
  go_enter Try.func20, Try.ntmps20
  go_wp2
  go_ret
  exact ⟨rfl, rfl⟩
theorem set_1_2 {w : World} {c : Nat} {z0 z1 z2 : Value} (v1 v2 : Value) {t : TypeId} (h : w.heap[c]? = some (.cells #[z0, z1, z2] t (0, 0))) : ((w.setCell ⟨c, 1, none⟩ v1).setCell ⟨c, 2, none⟩ v2).heap[c]? = some (.cells #[z0, v1, v2] t (0, 0)) := by
  have h1 := heap_setCell_same w c 1 _ _ v1 h
  have h2 := heap_setCell_same _ c 2 _ _ v2 h1
  simpa using h2
set_option maxHeartbeats 1600000 in
theorem rput_ok {w : World} {c : Nat} {K B : Pt} (h : RS w c K B false) {a : Option Addr} {n cp : Nat} {zs : List Int} (hb : BOk w a n cp zs) : Calls Try.prog 20 #[.pointer (some ⟨c, 0, none⟩), .slice a n cp] w fun e w' => ∃ Q, e = .returned (.int .i64 0) ∧ Q.z = zs ∧ RS w' c K Q true ∧ w.grownBy w' (some c) ∧ ∀ x, Q.a = some x → w.heap.size ≤ x.block := by
  have HR : Hid (RS w c K B false) := h
  have HB : Hid (BOk w a n cp zs) := hb
  have HA : Hid (Below w.heap.size w (w.alloc (.cells #[] 5))) := below_allocQ w _
  obtain ⟨d0, d1, d2⟩ := three_cells h.ce
  clear h hb
  unfold ptV at d0 d1
  go_enter Try.func20, Try.ntmps20
  go_wp2_with (at_builtin; refine wpList_more rfl _ _ rfl _ _ [] rfl (Sl.empty w 5) a n cp zs rfl HB.out.2.2.2.2.1 HB.out.1 (HB.out.2.2.2.2.2.old HA.out) (by have := HB.out.2.2.2.1; simp; omega) ?_; intro v1 w1 g1 sl1 hg1 hw1; obtain ⟨a1, c1, hv1, -⟩ := sl1.shape; have hl1 : (vals ([] ++ zs)).length = n := (by rw [vals_len, List.nil_append]; exact HB.out.1); rw [hl1] at hv1; subst hv1; have HS1 : Hid (Sl w1 5 (.slice a1 n c1) g1 (vals zs)) := sl1; have HF1 : Hid (∀ k, g1 = some k → w.heap.size ≤ k) := (fun k hk => by
        rcases hg1 with e | ⟨q, e, hq⟩
        · rw [e] at hk; cases hk; exact Nat.le_refl _
        · rw [e] at hk; cases hk; simp at hq; omega); have HB1 : Hid (Below w.heap.size w w1) := HA.out.grown hw1 HA.out.size (fun k hk => by cases hk; exact Nat.le_refl _); have HR1 : Hid (RS w1 c K B false) := HR.out.old HB1.out; obtain ⟨e0, e1, e2⟩ := three_cells HR1.out.ce; obtain ⟨y0, y1, y2⟩ := fz_three HR1.out.ce; unfold ptV at e0 e1; clear sl1 hg1 hw1 hl1)
  go_ret
  refine ⟨⟨a1, c1, zs⟩, rfl, rfl, ?_, ?_, ?_⟩
  · have hq : PtOk w1 ⟨a1, c1, zs⟩ := HS1.out.ptok HB.out.1 HB.out.2.1 (by have := HB.out.2.2.2.1; omega)
    have gs : w1.grownBy ((w1.setCell ⟨c, 1, none⟩ (.slice a1 n c1)).setCell ⟨c, 2, none⟩ (.bool true)) (some c) := grownBy_trans (grownBy_set _ _ _ _) (grownBy_set _ _ _ _)
    refine ⟨?_, PtOk.keep HR1.out.ce HR1.out.k gs, PtOk.keep HR1.out.ce hq gs⟩
    have := set_1_2 (.slice a1 n c1) (.bool true) HR1.out.ce
    unfold ptV at this ⊢
    simp only [HB.out.1]
    exact this
  · exact grown_old HB1.out (grownBy_trans (grownBy_set _ _ _ _) (grownBy_set _ _ _ _))
  · intro x hx
    have hx : a1 = some x := hx
    subst hx
    rcases HS1.out with ⟨e, _, _⟩ | ⟨b, off, cap, cur, e, eg, _⟩
    · cases e
    · simp only [Value.slice.injEq, Option.some.injEq] at e
      rw [e.1]
      exact HF1.out b eg
theorem set_0_2 {w : World} {c : Nat} {z0 z1 z2 : Value} (v0 v2 : Value) {t : TypeId} (h : w.heap[c]? = some (.cells #[z0, z1, z2] t (0, 0))) : ((w.setCell ⟨c, 0, none⟩ v0).setCell ⟨c, 2, none⟩ v2).heap[c]? = some (.cells #[v0, z1, v2] t (0, 0)) := by
  have h1 := heap_setCell_same w c 0 _ _ v0 h
  have h2 := heap_setCell_same _ c 2 _ _ v2 h1
  simpa using h2
theorem set_2 {w : World} {c : Nat} {z0 z1 z2 : Value} (v2 : Value) {t : TypeId} (h : w.heap[c]? = some (.cells #[z0, z1, z2] t (0, 0))) : (w.setCell ⟨c, 2, none⟩ v2).heap[c]? = some (.cells #[z0, z1, v2] t (0, 0)) := by
  have h1 := heap_setCell_same w c 2 _ _ v2 h
  simpa using h1
theorem rcrash_any {w : World} {c : Nat} {K B : Pt} {s : Bool} (h : RS w c K B s) (k : Bool) : Calls Try.prog 22 #[.pointer (some ⟨c, 0, none⟩), .bool k] w fun e w' => e = .returned (.tuple #[]) ∧ RS w' c (if s && k then B else K) B false ∧ w.grownBy w' (some c) := by
  have HR : Hid (RS w c K B s) := h
  obtain ⟨d0, d1, d2⟩ := three_cells h.ce
  obtain ⟨y0, y1, y2⟩ := fz_three h.ce
  have HE0 : Hid (RS (w.setCell ⟨c, 2, none⟩ (.bool false)) c K B false ∧ w.grownBy (w.setCell ⟨c, 2, none⟩ (.bool false)) (some c)) := by
    have gs := grownBy_set w c 2 (.bool false)
    exact ⟨⟨set_2 _ h.ce, PtOk.keep h.ce h.k gs, PtOk.keep h.ce h.b gs⟩, gs⟩
  have HE1 : Hid (RS ((w.setCell ⟨c, 0, none⟩ (ptV B)).setCell ⟨c, 2, none⟩ (.bool false)) c B B false ∧ w.grownBy ((w.setCell ⟨c, 0, none⟩ (ptV B)).setCell ⟨c, 2, none⟩ (.bool false)) (some c)) := by
    have gs : w.grownBy ((w.setCell ⟨c, 0, none⟩ (ptV B)).setCell ⟨c, 2, none⟩ (.bool false)) (some c) := grownBy_trans (grownBy_set _ _ _ _) (grownBy_set _ _ _ _)
    exact ⟨⟨set_0_2 _ _ h.ce, PtOk.keep h.ce h.b gs, PtOk.keep h.ce h.b gs⟩, gs⟩
  clear h
  unfold ptV at d0 d1
  cases s
  · go_enter Try.func22, Try.ntmps22
    go_wp2
    go_end0
    exact ⟨rfl, HE0.out⟩
  · cases k
    · go_enter Try.func22, Try.ntmps22
      go_wp2
      go_end0
      exact ⟨rfl, HE0.out⟩
    · go_enter Try.func22, Try.ntmps22
      go_wp2
      go_end0
      exact ⟨rfl, HE1.out⟩
end Go.Proofs.Ytinmkhdangknbaa
