/- The calls whose answers the document fixes. -/
import Derived.Test.YtjellgkojmgmjaaHhB
import Derived.Test.YtjellgkojmgmjaaHfG
namespace Go.Proofs.Ytjellgkojmgmjaa
open Go.RowKit

theorem irow_lit (w : World) (l : List Int) : IRow (w.alloc (.cells (ivals l).toArray 3)) (some ⟨w.heap.size, 0, none⟩) l := by
  refine .inr ⟨w.heap.size, 0, rfl, fun i hi => ?_⟩
  rw [Nat.zero_add, World.cell?_alloc_at _ _ _ _ rfl]
  simp [ivals, hi]
theorem fix_perm {ps : List Pc} (h : ps.Perm (sing 0 [5, 1, 1, 0])) (hr : RisingP ps) : lensOf 4 15 ps = [1, 2, 2, 0] := by
  have e : sing 0 [5, 1, 1, 0] = [(5, [0]), (1, [1]), (1, [2])] := by decide
  rw [e] at h
  have hl := h.length_eq
  have hnd : ps.Nodup := h.nodup_iff.2 (by decide)
  match ps, hl with
  | [x, y, z], _ =>
    have hx : x ∈ [((5 : Int), [(0 : Int)]), (1, [1]), (1, [2])] := h.mem_iff.1 (by simp)
    have hy : y ∈ [((5 : Int), [(0 : Int)]), (1, [1]), (1, [2])] := h.mem_iff.1 (by simp)
    have hz : z ∈ [((5 : Int), [(0 : Int)]), (1, [1]), (1, [2])] := h.mem_iff.1 (by simp)
    simp only [List.mem_cons, List.not_mem_nil, or_false] at hx hy hz
    unfold RisingP at hr
    rcases hx with rfl | rfl | rfl <;> rcases hy with rfl | rfl | rfl <;> rcases hz with rfl | rfl | rfl <;>
      first
        | (exfalso; revert hnd; decide)
        | (exfalso; simp at hr; done)
        | decide +kernel
theorem fix_new (w : World) : Calls Try.prog 10 #[.slice (some ⟨w.heap.size, 0, none⟩) 4 4] (w.alloc (.cells #[.int .i64 2, .int .i64 1, .int .i64 0, .int .i64 2] 3)) fun e w' => NewPost (w.alloc (.cells #[.int .i64 2, .int .i64 1, .int .i64 0, .int .i64 2] 3)) [2, 1, 0, 2] e w' :=
  new_yes _ 4 4 [2, 1, 0, 2] _ rfl (by omega) (irow_lit w [2, 1, 0, 2]) (by decide) (by decide)
theorem fix_cd : Cd [2, 1, 0, 2] := whole_cd (ls := [2, 1, 0, 2]) (by decide) (by decide)
theorem fix_no (w : World) : Calls Try.prog 10 #[.slice (some ⟨w.heap.size, 0, none⟩) 3 3] (w.alloc (.cells #[.int .i64 1, .int .i64 1, .int .i64 1] 3)) fun e w' => e = .returned (.tuple #[.pointer none, .int .i64 5]) ∧ w' = w.alloc (.cells #[.int .i64 1, .int .i64 1, .int .i64 1] 3) :=
  new_code _ 3 3 [1, 1, 1] _ rfl (by omega) (irow_lit w [1, 1, 1]) (by decide) (by decide)
def FixLen (w : World) (e : Ending) (w' : World) : Prop :=
  ∃ g, e = .returned (.tuple #[.slice (some ⟨g, 0, none⟩) 4 4, .int .i64 0]) ∧ w'.cell? ⟨g, 0, none⟩ = some (.int .i64 1) ∧ w'.cell? ⟨g, 1, none⟩ = some (.int .i64 2) ∧ w'.cell? ⟨g, 2, none⟩ = some (.int .i64 2) ∧ w'.cell? ⟨g, 3, none⟩ = some (.int .i64 0) ∧ Below w.heap.size w w'
theorem fix_len (w : World) : Calls Try.prog 23 #[.slice (some ⟨w.heap.size, 0, none⟩) 4 4, .int .i64 15] (w.alloc (.cells #[.int .i64 5, .int .i64 1, .int .i64 1, .int .i64 0] 3)) fun e w' => FixLen (w.alloc (.cells #[.int .i64 5, .int .i64 1, .int .i64 1, .int .i64 0] 3)) e w' := by
  refine (lengths_yes (some ⟨w.heap.size, 0, none⟩) 4 4 [5, 1, 1, 0] 15 _ rfl (irow_lit w [5, 1, 1, 0]) (by decide) (by omega) (by omega) (by decide) (fun base w' v xs h => sorts_small w' base v xs (by rw [h]; decide))).mono ?_
  rintro e w' ⟨g, ps, rfl, hp, hr, hl, _, hb⟩
  have hl' : LRow w' g [1, 2, 2, 0] := by rw [← fix_perm hp hr]; exact hl
  exact ⟨g, rfl, (hl'.cell 0 (by decide)).1, (hl'.cell 1 (by decide)).1, (hl'.cell 2 (by decide)).1, (hl'.cell 3 (by decide)).1, hb⟩
theorem fix_word3 (c : Nat) (w : World) (h : CodeAt w c [2, 1, 0, 2]) : Calls Try.prog 12 #[.pointer (some ⟨c, 0, none⟩), .int .i64 3] w fun e w' => e = .returned (.tuple #[.int .i64 3, .int .i64 2]) ∧ Below w.heap.size w w' :=
  word_any c 3 [2, 1, 0, 2] w h fix_cd
theorem fix_word0 (c : Nat) (w : World) (h : CodeAt w c [2, 1, 0, 2]) : Calls Try.prog 12 #[.pointer (some ⟨c, 0, none⟩), .int .i64 0] w fun e w' => e = .returned (.tuple #[.int .i64 1, .int .i64 2]) ∧ Below w.heap.size w w' :=
  word_any c 0 [2, 1, 0, 2] w h fix_cd
set_option maxHeartbeats 1600000 in
set_option maxRecDepth 20000 in
theorem fixed_any (w : World) : Calls Try.prog 9 #[] w fun e w' => e = .returned (.bool true) ∧ Below w.heap.size w w' := by
  go_enter Try.func9, Try.ntmps9
  go_wp2_with fail
  refine (fix_new _).mono ?_
  rintro e w1 ⟨c, rfl, hc, hco, hb1⟩
  have HB1 : Hid (Below w.heap.size w w1) := ((Below.refl w.heap.size w).alloc (Nat.le_refl _) _).trans (hb1.mono (by simp))
  have HC1 : Hid (CodeAt w1 c [2, 1, 0, 2]) := hco
  clear hb1 hco hc
  go_wp2_with fail
  refine (fix_word3 c w1 HC1.out).mono ?_
  rintro e w2 ⟨rfl, hb2⟩
  have HB2 : Hid (Below w.heap.size w w2) := HB1.out.trans (hb2.mono HB1.out.size)
  have HC2 : Hid (CodeAt w2 c [2, 1, 0, 2]) := HC1.out.old hb2
  clear hb2 HB1 HC1
  go_wp2_with fail
  refine (fix_word0 c w2 HC2.out).mono ?_
  rintro e w3 ⟨rfl, hb3⟩
  have HB3 : Hid (Below w.heap.size w w3) := HB2.out.trans (hb3.mono HB2.out.size)
  clear hb3 HB2 HC2
  go_wp2_with fail
  refine (fix_no _).mono ?_
  rintro e w4 ⟨rfl, hw4⟩
  have HB4 : Hid (Below w.heap.size w w4) := by rw [hw4]; exact HB3.out.alloc HB3.out.size _
  clear hw4 HB3
  go_wp2_with fail
  refine (fix_len _).mono ?_
  rintro e w5 ⟨g, rfl, l0, l1, l2, l3, hb5⟩
  have HB5 : Hid (Below w.heap.size w w5) := (HB4.out.alloc HB4.out.size _).trans (hb5.mono (Nat.le_trans HB4.out.size (by simp)))
  clear hb5 HB4
  go_wp2
  go_ret
  exact ⟨rfl, HB5.out⟩
end Go.Proofs.Ytjellgkojmgmjaa
