/- The library's Grow and Concat of two slices of symbols. -/
import Derived.Test.YtjellgkojmgmjaaHgE
import Derived.Shelf.Spec.SlicesGrow
namespace Go.Proofs.Ytjellgkojmgmjaa
open Go.RowKit

theorem Try.info3 : (Try.prog.info? 3).map (fun i => (i.zero, i.size, i.bytes)) = some (some (.int .i64 0), 1, 8) := by kernel_rfl
def ren53 : Shelf.Ren := { f := fun x => match x with | 4 => 53 | n => n, t := fun x => match x with | 22 => 22 | 25 => 3 | n => n, g := fun n => n }
theorem l53 : Lays8.n4 Try.prog ren53 :=
  { mixed := by kernel_rfl
    f4 := ⟨Try.f53.name, of_decide_eq_true (by kernel_rfl), Eq.trans Try.func53 (congrArg some (by kernel_rfl))⟩
    t0 := Try.underlying0
    a0 := Try.isAgg0
    z0 := Try.sizeOf0
    v0 := Try.zeroValue0
    t3 := Try.underlying3
    a3 := Try.isAgg3
    z3 := Try.sizeOf3
    v3 := Try.zeroValue3
    t4 := Try.underlying4
    a4 := Try.isAgg4
    z4 := Try.sizeOf4
    v4 := Try.zeroValue4
    t9 := Try.underlying9
    a9 := Try.isAgg9
    z9 := Try.sizeOf9
    v9 := Try.zeroValue9
    t20 := Try.underlying20
    a20 := Try.isAgg20
    z20 := Try.sizeOf20
    v20 := Try.zeroValue20
    t22 := Try.underlying22
    a22 := Try.isAgg22
    z22 := Try.sizeOf22
    v22 := Try.zeroValue22 }
theorem grow_any (n : Nat) (w : World) (h1 : 1 ≤ n) (h2 : n ≤ 1000000) :
    Calls Try.prog 53 #[.slice none 0 0, .int .i64 n] w fun e w' => ∃ v, e = .returned v ∧ w'.ownsRow w.heap.size 3 1 v 0 [] ∧ Below w.heap.size w w' := by
  obtain ⟨i0, hi, hz0, hz1, hz2⟩ := info_parts Try.info3
  refine (Any8.slices_Grow_grow l53 i0 (.int .i64 0) hi hz0 (by rw [hz1]; exact Nat.one_pos) none 0 0 n [] w (Nat.le_refl _) (by omega) (by rw [hz2]; omega) (by omega) (by rw [hz1]; rfl) (fun _ => rfl) (by intro a h; cases h)).mono ?_
  rintro e w' ⟨rfl, rfl⟩
  refine ⟨_, rfl, ⟨rfl, .inr ⟨w.heap.size, _, _, rfl, Nat.le_refl _, heap_alloc_new _ _, Nat.zero_le _, grownCap_le_maxLen _ _ _ _ (by unfold maxLen; omega), ?_, rfl⟩⟩, below_drew_alloc _ _⟩
  have := grownCap_ge w n 0 (ren53.t 25)
  simp [Builtin.zeroCells, Value.cells]
  omega
theorem Sy.news {w : World} {x : Pv} {l : List Int} (h : Sy w x l) : ∀ j u, (ivals l)[j]? = some u → w.cell? (Addr.add ⟨x.b, 0, none⟩ j) = some u := by
  intro j u hj
  obtain ⟨_, _, _, _, cur, hh, hc⟩ := h
  simp only [ivals, List.getElem?_map, Option.map_eq_some_iff] at hj
  obtain ⟨z, hz, rfl⟩ := hj
  have hlt : j < l.length := by
    by_cases h : j < l.length
    · exact h
    · rw [List.getElem?_eq_none (by omega)] at hz; cases hz
  have := hc j hlt
  rw [hz] at this
  cases j with
  | zero => simp [Addr.add, World.cell?, hh, this]
  | succ k => simp [Addr.add, World.cell?, hh, this]
theorem ivals_one (l : List Int) : ∀ u ∈ ivals l, u.oneCell' = true := by
  intro u hu
  simp only [ivals, List.mem_map] at hu
  obtain ⟨z, _, rfl⟩ := hu
  rfl
theorem ivals_len (l : List Int) : (ivals l).length = l.length := by simp [ivals]
theorem ivals_append (l m : List Int) : ivals (l ++ m) = ivals l ++ ivals m := by simp [ivals]
theorem own_base {w : World} {base e size : Nat} {v : Value} {n : Nat} {xs : List Value} (h : w.ownsRow base e size v n xs) : ∀ k, v.ownBlock = some k → base ≤ k := by
  intro k hk
  rcases h.2 with ⟨rfl, _⟩ | ⟨g, cap, cur, rfl, hb, _⟩
  · cases hk
  · cases hk; exact hb
def ConPost (w : World) (l : List Int) (e : Ending) (w' : World) : Prop :=
  ∃ g c, e = .returned (.slice (some ⟨g, 0, none⟩) l.length c) ∧ (∀ wt, Sy w' ⟨wt, g, l.length, c⟩ l) ∧ w.heap.size ≤ g ∧ Below w.heap.size w w'
theorem con_fin {w w' : World} {v : Value} {l : List Int} (hl : 1 ≤ l.length) (h : w'.ownsRow w.heap.size 3 1 v l.length (ivals l)) (hb : Below w.heap.size w w') : ConPost w l (.returned v) w' := by
  rcases h.2 with ⟨_, h0⟩ | ⟨g, cap, cur, rfl, hg, hh, h1, h2, h3, h4⟩
  · omega
  · refine ⟨g, cap, rfl, fun wt => ⟨rfl, hl, h1, h2, cur, hh, fun i hi => ?_⟩, hg, hb⟩
    have h5 : (cur.toList.take (l.length * 1))[i]? = (ivals l)[i]? := by rw [h4]
    rw [Nat.mul_one, List.getElem?_take_of_lt hi, Array.getElem?_toList] at h5
    rw [h5]
    simp [ivals, hi]
set_option maxHeartbeats 1600000 in
set_option maxRecDepth 20000 in
theorem concat_any (s : Nat) (x y : Pv) (l m : List Int) (w : World) (hs : w.heap[s]? = some (.cells #[.slice (some ⟨x.b, 0, none⟩) x.n x.c, .slice (some ⟨y.b, 0, none⟩) y.n y.c] 22 (0, 0))) (hx : Sy w x l) (hy : Sy w y m) (hlm : l.length + m.length ≤ 1000000) :
    Calls Try.prog 50 #[.slice (some ⟨s, 0, none⟩) 2 2] w fun e w' => ConPost w (l ++ m) e w' := by
  obtain ⟨q0, q1, _, _⟩ := two_cells hs
  have HX : Hid (Sy w x l) := hx
  have HY : Hid (Sy w y m) := hy
  have HS : Hid (w.heap[s]? = some (.cells #[.slice (some ⟨x.b, 0, none⟩) x.n x.c, .slice (some ⟨y.b, 0, none⟩) y.n y.c] 22 (0, 0))) := hs
  have hxn : x.n = l.length := hx.1
  have hyn : y.n = m.length := hy.1
  have hx1 : 1 ≤ l.length := by have := hx.2.1; omega
  have hy1 : 1 ≤ m.length := by have := hy.2.1; omega
  obtain ⟨xw, xb, xn, xc⟩ := x
  obtain ⟨yw, yb, yn, yc⟩ := y
  simp only at hxn hyn q0 q1
  subst hxn hyn
  clear hs hx hy
  obtain ⟨i0, hi, hz0, hz1, hz2⟩ := info_parts Try.info3
  go_enter Try.func50, Try.ntmps50
  go_wp2
  refine wp_loop_rounds 3 ?_
  rw [rounds_succ]
  go_wp2
  rw [rounds_succ]
  go_wp2
  rw [rounds_succ]
  go_wp2_with fail
  have G := grow_any (l.length + m.length) w (by omega) (by omega)
  rw [Int.natCast_add] at G
  refine G.mono ?_
  rintro e w1 ⟨v, rfl, hown, hb1⟩
  have HO1 : Hid (w1.ownsRow w.heap.size 3 1 v 0 []) := hown
  have HB1 : Hid (Below w.heap.size w w1) := hb1
  have hs1 : w1.heap[s]? = _ := (hb1.block s (lt_of_block HS.out)).trans HS.out
  obtain ⟨p0, p1, _, _⟩ := two_cells hs1
  clear G q0 q1 hown hb1 hs1
  go_wp2
  refine wp_loop_rounds 3 ?_
  rw [rounds_succ]
  go_wp2_with (at_builtin; refine wpList_append_own w1 rfl _ _ 22 rfl w.heap.size 3 i0 (.int .i64 0) 1 8 Try.underlying22 hi hz0 hz1 hz2 rfl (by decide) v 0 [] rfl HO1.out ⟨xb, 0, none⟩ l.length xc (ivals l) rfl (by rw [ivals_len, Nat.mul_one]) (HX.out.old HB1.out).news (ivals_one l) (by unfold maxLen; omega) (by omega) HB1.out.size ?_)
  intro v2 w2 hown2 hg2 _
  have HB2 : Hid (Below w.heap.size w w2) := Fr.below HB1.out (Fr.grown (r := w.heap.size) hg2) (Nat.le_refl _) (fun k hk => own_base HO1.out k hk) HB1.out.size
  have HO2 : Hid (w2.ownsRow w.heap.size 3 1 v2 l.length (ivals l)) := hown2
  have hs2 : w2.heap[s]? = _ := (HB2.out.block s (lt_of_block HS.out)).trans HS.out
  obtain ⟨r0, r1, _, _⟩ := two_cells hs2
  clear p0 p1 hown2 hg2 hs2
  go_wp2
  rw [rounds_succ]
  go_wp2_with (at_builtin; refine wpList_append_own w2 rfl _ _ 22 rfl w.heap.size 3 i0 (.int .i64 0) 1 8 Try.underlying22 hi hz0 hz1 hz2 rfl (by decide) v2 l.length (ivals l) rfl HO2.out ⟨yb, 0, none⟩ m.length yc (ivals m) rfl (by rw [ivals_len, Nat.mul_one]) (HY.out.old HB2.out).news (ivals_one m) (by unfold maxLen; omega) (by omega) HB2.out.size ?_)
  intro v3 w3 hown3 hg3 _
  have R : Hid (ConPost w (l ++ m) (.returned v3) w3) := by
    refine con_fin (by rw [List.length_append]; omega) ?_ (Fr.below HB2.out (Fr.grown (r := w.heap.size) hg3) (Nat.le_refl _) (fun k hk => own_base HO2.out k hk) HB2.out.size)
    rw [List.length_append, ivals_append]
    exact hown3
  have hs3 : w3.heap[s]? = _ := ((hg3.block s (Nat.lt_of_lt_of_le (lt_of_block HS.out) HB2.out.size) (fun e => by have := own_base HO2.out s e.symm; have := lt_of_block HS.out; omega)).trans (HB2.out.block s (lt_of_block HS.out))).trans HS.out
  clear hown3 hg3 r0 r1 hs3
  go_wp2
  rw [rounds_succ]
  go_wp2
  go_ret
  exact R.out
end Go.Proofs.Ytjellgkojmgmjaa
