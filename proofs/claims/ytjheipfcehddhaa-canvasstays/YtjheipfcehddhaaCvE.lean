/- Copies of pixels; what a canvas tells: Image, Mask, At; a new one. -/
import Derived.Test.YtjheipfcehddhaaCvD
namespace Go.Proofs.Ytjheipfcehddhaa
open Go.RowKit
def k4 (F : Nat → Col) (i : Nat) : List Value := [.int .u16 (F i).1, .int .u16 (F i).2.1, .int .u16 (F i).2.2.1, .int .u16 (F i).2.2.2]
def k4L (F : Nat → Col) (k : Nat) : List Value := (List.range k).flatMap (k4 F)
theorem k4L_snoc (F : Nat → Col) (k : Nat) : k4L F (k + 1) = k4L F k ++ k4 F k := by simp [k4L, List.range_succ]
theorem k4L_len (F : Nat → Col) (k : Nat) : (k4L F k).length = k * 4 := by
  induction k with
  | zero => simp [k4L]
  | succ k ih => rw [k4L_snoc, List.length_append, ih]; simp [k4]; omega
theorem k4L_at (F : Nat → Col) (k i j : Nat) (hi : i < k) (hj : j < 4) : (k4L F k)[i * 4 + j]? = (k4 F i)[j]? := by
  induction k with
  | zero => omega
  | succ k ih =>
    rw [k4L_snoc]
    by_cases h : i < k
    · rw [List.getElem?_append_left (by rw [k4L_len]; omega), ih h]
    · obtain rfl : i = k := by omega
      rw [List.getElem?_append_right (by rw [k4L_len]; omega), k4L_len]
      congr 1; omega
theorem k4L_one (F : Nat → Col) (k : Nat) : ∀ u ∈ k4L F k, u.oneCell' = true := by
  intro u hu
  simp only [k4L, List.mem_flatMap, k4, List.mem_cons, List.not_mem_nil, or_false] at hu
  obtain ⟨i, _, rfl | rfl | rfl | rfl⟩ := hu <;> rfl
theorem PxM.news {w : World} {g N : Nat} {F : Nat → Col} (h : PxM w g N F) : ∀ j u, (k4L F N)[j]? = some u → w.cell? ((⟨g, 0, none⟩ : Addr).add j) = some u := by
  intro j u hj
  have hlt : j < N * 4 := by
    by_cases hq : j < N * 4
    · exact hq
    · rw [List.getElem?_eq_none (by rw [k4L_len]; omega)] at hj; cases hj
  have e : j = (j / 4) * 4 + j % 4 := by omega
  rw [e, k4L_at F N (j / 4) (j % 4) (by omega) (by omega)] at hj
  obtain ⟨c0, c1, c2, c3⟩ := h.cells (i := j / 4) (by omega)
  have ea : (⟨g, 0, none⟩ : Addr).add j = ⟨g, j, none⟩ := by rw [Addr.add_lit]; simp
  rw [ea]
  have hm : j % 4 < 4 := Nat.mod_lt _ (by omega)
  generalize hr : j % 4 = r at *
  generalize j / 4 = q at *
  subst e
  match r, hm with
  | 0, _ => simp [k4] at hj; rw [← hj]; exact c0
  | 1, _ => simp [k4] at hj; rw [← hj]; exact c1
  | 2, _ => simp [k4] at hj; rw [← hj]; exact c2
  | 3, _ => simp [k4] at hj; rw [← hj]; exact c3
theorem owns_px {w : World} {B g N c : Nat} {F : Nat → Col} (h : w.ownsRow B 49 4 (.slice (some ⟨g, 0, none⟩) N c) N (k4L F N)) : PxM w g N F := by
  rcases h.2 with ⟨h, _⟩ | ⟨g', cap, cur, he, hb, hh, h1, h2, h3, h4⟩
  · cases h
  · simp only [Value.slice.injEq, Option.some.injEq, Addr.mk.injEq] at he
    obtain ⟨⟨rfl, -, -⟩, -, rfl⟩ := he
    refine ⟨cur, hh, fun i hi => ?_⟩
    have q : ∀ j, j < 4 → cur[i * 4 + j]? = (k4 F i)[j]? := fun j hj => by
      rw [← k4L_at F N i j hi hj, ← h4, List.getElem?_take, if_pos (by omega)]; simp
    exact ⟨q 0 (by omega), q 1 (by omega), q 2 (by omega), q 3 (by omega)⟩
def bL (M : Nat → Bool) (k : Nat) : List Value := (List.range k).map (fun i => .bool (M i))
theorem bL_len (M : Nat → Bool) (k : Nat) : (bL M k).length = k := by simp [bL]
theorem bL_at (M : Nat → Bool) (k i : Nat) (hi : i < k) : (bL M k)[i]? = some (.bool (M i)) := by simp [bL, hi]
theorem bL_one (M : Nat → Bool) (k : Nat) : ∀ u ∈ bL M k, u.oneCell' = true := by
  intro u hu
  simp only [bL, List.mem_map] at hu
  obtain ⟨i, _, rfl⟩ := hu
  rfl
theorem KnM.news {w : World} {g N : Nat} {M : Nat → Bool} (h : KnM w g N M) : ∀ j u, (bL M N)[j]? = some u → w.cell? ((⟨g, 0, none⟩ : Addr).add j) = some u := by
  intro j u hj
  have hlt : j < N := by
    by_cases hq : j < N
    · exact hq
    · rw [List.getElem?_eq_none (by rw [bL_len]; omega)] at hj; cases hj
  rw [bL_at M N j hlt] at hj
  have ea : (⟨g, 0, none⟩ : Addr).add j = ⟨g, j, none⟩ := by rw [Addr.add_lit]; simp
  rw [ea, ← hj]
  exact h.cell hlt
theorem owns_kn {w : World} {B g N c : Nat} {M : Nat → Bool} (h : w.ownsRow B 4 1 (.slice (some ⟨g, 0, none⟩) N c) N (bL M N)) : KnM w g N M := by
  rcases h.2 with ⟨h, _⟩ | ⟨g', cap, cur, he, hb, hh, h1, h2, h3, h4⟩
  · cases h
  · simp only [Value.slice.injEq, Option.some.injEq, Addr.mk.injEq] at he
    obtain ⟨⟨rfl, -, -⟩, -, rfl⟩ := he
    refine ⟨cur, hh, fun i hi => ?_⟩
    rw [← bL_at M N i hi, ← h4, List.getElem?_take, if_pos (by omega)]; simp
theorem Try.infoCol : (Try.prog.info? 49).map (fun i => (i.zero, i.size, i.bytes)) = some (some (.agg #[.int .u16 0, .int .u16 0, .int .u16 0, .int .u16 0]), 4, 8) := by kernel_rfl
theorem Try.infoB : (Try.prog.info? 4).map (fun i => (i.zero, i.size, i.bytes)) = some (some (.bool false), 1, 1) := by kernel_rfl
theorem owns_emptyC (w : World) (e : TypeId) (s : Nat) : (w.alloc (.cells #[] e)).ownsRow w.heap.size e s (.slice (some ⟨w.heap.size, 0, none⟩) 0 0) 0 [] :=
  ⟨by simp, .inr ⟨_, 0, #[], rfl, Nat.le_refl _, heap_alloc_new _ _, Nat.le_refl _, by unfold maxLen; omega, by simp, by simp⟩⟩
theorem slP_not_nil (a : Addr) (n c : Nat) (w : World) : (binOp .eql 33 (.slice (some a) n c) (.slice none 0 0)).run Try.prog w = .ok (.bool false) w := by
  unfold binOp Op.equal
  obtain ⟨m, hm⟩ : ∃ m, Op.maxDepth = m + 1 := ⟨9999, rfl⟩
  rw [hm]
  unfold Op.equalIn
  go_simp
theorem slK_not_nil (a : Addr) (n c : Nat) (w : World) : (binOp .eql 45 (.slice (some a) n c) (.slice none 0 0)).run Try.prog w = .ok (.bool false) w := by
  unfold binOp Op.equal
  obtain ⟨m, hm⟩ : ∃ m, Op.maxDepth = m + 1 := ⟨9999, rfl⟩
  rw [hm]
  unfold Op.equalIn
  go_simp
/-- A copy of pixels. -/
def ClP (w : World) (N : Nat) (F : Nat → Col) (e : Ending) (w' : World) : Prop := ∃ g c, e = .returned (.slice (some ⟨g, 0, none⟩) N c) ∧ N ≤ c ∧ c ≤ maxLen ∧ PxM w' g N F ∧ w.heap.size ≤ g ∧ Below w.heap.size w w'
def ClK (w : World) (N : Nat) (M : Nat → Bool) (e : Ending) (w' : World) : Prop := ∃ g c, e = .returned (.slice (some ⟨g, 0, none⟩) N c) ∧ N ≤ c ∧ c ≤ maxLen ∧ KnM w' g N M ∧ w.heap.size ≤ g ∧ Below w.heap.size w w'
set_option maxHeartbeats 800000 in
theorem cloneP_any {w : World} {g N : Nat} {F : Nat → Col} (cap : Nat) (h : PxM w g N F) (h1 : 1 ≤ N) (h2 : N ≤ 65536) : Calls Try.prog 35 #[.slice (some ⟨g, 0, none⟩) N cap] w fun e w' => ClP w N F e w' := by
  obtain ⟨i0, hi, hz0, hz1, hz2⟩ := info_parts Try.infoCol
  have HP : Hid (PxM (w.alloc (.cells #[] 49)) g N F) := h.same (below_new w _ |>.block _ h.lt)
  have HBN := below_new w (.cells #[] 49)
  clear h
  have NN := slP_not_nil ⟨g, 0, none⟩ N cap
  go_enter Try.func35, Try.ntmps35
  go_wp2_with (at_builtin; go_must (refine wpList_append_own _ rfl _ _ 33 rfl w.heap.size 49 i0 _ 4 8 Try.underlying33 hi hz0 hz1 hz2 rfl (by decide) _ 0 [] rfl (owns_emptyC w _ 4) ⟨g, 0, none⟩ N _ (k4L F N) rfl (k4L_len F N) HP.out.news (k4L_one F N) (by unfold maxLen; omega) (by omega) (by simp) ?_))
  intro v' w' hown hgrow hnn
  have HE : Hid (ClP w N F (.returned v') w') := by
    rcases hown.2 with ⟨_, h0⟩ | ⟨g', c', cur, hv, hb, hh, q1, q2, q3, q4⟩
    · omega
    · subst hv
      exact ⟨g', c', rfl, q1, q2, owns_px hown, hb, HBN.grown hgrow (by simp) (fun k hk => by cases hk; exact Nat.le_refl _)⟩
  clear hown hgrow hnn HP HBN
  go_wp2
  go_ret
  exact HE.out
set_option maxHeartbeats 800000 in
theorem cloneK_any {w : World} {g N : Nat} {M : Nat → Bool} (cap : Nat) (h : KnM w g N M) (h1 : 1 ≤ N) (h2 : N ≤ 65536) : Calls Try.prog 36 #[.slice (some ⟨g, 0, none⟩) N cap] w fun e w' => ClK w N M e w' := by
  obtain ⟨i0, hi, hz0, hz1, hz2⟩ := info_parts Try.infoB
  have HP : Hid (KnM (w.alloc (.cells #[] 4)) g N M) := h.same (below_new w _ |>.block _ h.lt)
  have HBN := below_new w (.cells #[] 4)
  clear h
  have NN := slK_not_nil ⟨g, 0, none⟩ N cap
  go_enter Try.func36, Try.ntmps36
  go_wp2_with (at_builtin; go_must (refine wpList_append_own _ rfl _ _ 45 rfl w.heap.size 4 i0 _ 1 1 Try.underlying45 hi hz0 hz1 hz2 rfl (by decide) _ 0 [] rfl (owns_emptyC w _ 1) ⟨g, 0, none⟩ N _ (bL M N) rfl (by rw [bL_len]; omega) HP.out.news (bL_one M N) (by unfold maxLen; omega) (by omega) (by simp) ?_))
  intro v' w' hown hgrow hnn
  have HE : Hid (ClK w N M (.returned v') w') := by
    rcases hown.2 with ⟨_, h0⟩ | ⟨g', c', cur, hv, hb, hh, q1, q2, q3, q4⟩
    · omega
    · subst hv
      exact ⟨g', c', rfl, q1, q2, owns_kn hown, hb, HBN.grown hgrow (by simp) (fun k hk => by cases hk; exact Nat.le_refl _)⟩
  clear hown hgrow hnn HP HBN
  go_wp2
  go_ret
  exact HE.out
theorem Sz.pos {W H : Int} {N : Nat} (h : Sz W H N) : 1 ≤ N := by
  have := mul_bd h.w1 h.w2 h.h1 h.h2
  have := h.n
  omega
set_option maxHeartbeats 800000 in
theorem cmask_any {w : World} {c p k : Nat} {W H : Int} {N : Nat} {F : Nat → Col} {M : Nat → Bool} {n : Int} (h : Cv w c p k W H N F M n) : Calls Try.prog 19 #[.pointer (some ⟨c, 0, none⟩)] w fun e w' => ClK w N M e w' := by
  obtain ⟨k0, k1, k2, k3, k4, -⟩ := h.cells
  have CK := cloneK_any N h.kn h.sz.pos h.sz.m
  clear h
  go_enter Try.func19, Try.ntmps19
  go_wp2_with fail
  refine CK.mono ?_
  clear CK
  rintro e w1 ⟨g, cp, rfl, h1, h2, h3, h4, h5⟩
  have HE : Hid (ClK w N M (.returned (.slice (some ⟨g, 0, none⟩) N cp)) w1) := ⟨g, cp, rfl, h1, h2, h3, h4, h5⟩
  clear h3 h4 h5
  go_wp2
  go_ret
  exact HE.out
set_option maxHeartbeats 400000 in
theorem mask_nil (w : World) : Calls Try.prog 19 #[.pointer none] w fun e w' => e = .returned (.slice none 0 0) ∧ w' = w := by
  go_enter Try.func19, Try.ntmps19
  go_wp2
  go_ret
  exact ⟨rfl, rfl⟩
set_option maxHeartbeats 400000 in
theorem count_nil (w : World) : Calls Try.prog 20 #[.pointer none] w fun e w' => e = .returned (.int .i64 0) ∧ w' = w := by
  go_enter Try.func20, Try.ntmps20
  go_wp2
  go_ret
  exact ⟨rfl, rfl⟩
set_option maxHeartbeats 400000 in
theorem full_nil (w : World) : Calls Try.prog 23 #[.pointer none] w fun e w' => e = .returned (.bool false) ∧ w' = w.drew := by
  go_enter Try.func23, Try.ntmps23
  go_wp2
  go_region
  go_wp2
  go_ret
  exact ⟨rfl, rfl⟩
end Go.Proofs.Ytjheipfcehddhaa
