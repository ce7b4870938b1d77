/- The calls whose answers the document fixes; the law AdamPasses. -/
import Derived.Test.YtjkhldnjciakkaaAmH
import Derived.Test.YtjkhldnjciakkaaArgB
namespace Go.Proofs.Ytjkhldnjciakkaa
open Go.RowKit
def LnPost (w : World) (L : List Stp) (W H : Int) (e : Ending) (w' : World) : Prop := ∃ s sb, e = .returned (.func (.func 35) #[] #[.pointer (some ⟨s, 0, none⟩), .pointer (some ⟨s + 1, 0, none⟩), .pointer (some ⟨s + 2, 0, none⟩)]) ∧ Bx w' s W H sb L ∧ w.heap.size ≤ sb ∧ sb < s ∧ Below w.heap.size w w'
set_option maxHeartbeats 800000 in
theorem aLines_any (W H : Int) (b : Bool) (w : World) : Calls Try.prog 20 #[.int .i64 W, .int .i64 H, .bool b] w fun e w' => LnPost w (pngOf b) W H e w' := by
  have CS := pngSteps_any b w
  obtain ⟨L, hL⟩ : ∃ L, pngOf b = L := ⟨_, rfl⟩
  rw [hL] at CS ⊢
  clear hL
  go_enter Try.func20, Try.ntmps20
  go_wp2_with fail
  refine CS.mono ?_
  clear CS
  rintro e w1 ⟨rfl, hw1⟩
  have H1 : Hid (StRow w1 w.heap.size L ∧ Below w.heap.size w w1 ∧ w.heap.size < w1.heap.size) := by rw [hw1]; exact ⟨StRow.new w L, (Below.refl _ w).alloc (Nat.le_refl _) _, by simp⟩
  clear hw1
  go_wp2_with fail
  refine (alines_any W H _ _ _ w1).mono ?_
  rintro e w2 ⟨rfl, hw2⟩
  have H2 : Hid (LnPost w L W H (.returned (.func (.func 35) #[] #[.pointer (some ⟨w1.heap.size, 0, none⟩), .pointer (some ⟨w1.heap.size + 1, 0, none⟩), .pointer (some ⟨w1.heap.size + 2, 0, none⟩)])) w2) := by
    have k := H1.out
    have hb : Below w1.heap.size w1 w2 := by rw [hw2]; exact below_boxW ..
    exact ⟨_, _, rfl, by rw [hw2]; exact Bx.new k.1, Nat.le_refl _, k.2.2, k.2.1.trans (hb.mono k.2.1.size)⟩
  unfold boxF
  clear hw2 H1
  go_wp2
  go_ret
  exact H2.out
set_option maxHeartbeats 800000 in
theorem aWoven_any (W H : Int) (b : Bool) (w : World) : Calls Try.prog 21 #[.int .i64 W, .int .i64 H, .bool b] w fun e w' => LnPost w (gifOf b) W H e w' := by
  have CS := gifSteps_any b w
  obtain ⟨L, hL⟩ : ∃ L, gifOf b = L := ⟨_, rfl⟩
  rw [hL] at CS ⊢
  clear hL
  go_enter Try.func21, Try.ntmps21
  go_wp2_with fail
  refine CS.mono ?_
  clear CS
  rintro e w1 ⟨rfl, hw1⟩
  have H1 : Hid (StRow w1 w.heap.size L ∧ Below w.heap.size w w1 ∧ w.heap.size < w1.heap.size) := by rw [hw1]; exact ⟨StRow.new w L, (Below.refl _ w).alloc (Nat.le_refl _) _, by simp⟩
  clear hw1
  go_wp2_with fail
  refine (alines_any W H _ _ _ w1).mono ?_
  rintro e w2 ⟨rfl, hw2⟩
  have H2 : Hid (LnPost w L W H (.returned (.func (.func 35) #[] #[.pointer (some ⟨w1.heap.size, 0, none⟩), .pointer (some ⟨w1.heap.size + 1, 0, none⟩), .pointer (some ⟨w1.heap.size + 2, 0, none⟩)])) w2) := by
    have k := H1.out
    have hb : Below w1.heap.size w1 w2 := by rw [hw2]; exact below_boxW ..
    exact ⟨_, _, rfl, by rw [hw2]; exact Bx.new k.1, Nat.le_refl _, k.2.2, k.2.1.trans (hb.mono k.2.1.size)⟩
  unfold boxF
  clear hw2 H1
  go_wp2
  go_ret
  exact H2.out
theorem fn_not_nil (f : Fn) (a b : Array Value) (w : World) : (binOp .eql 39 (.func f a b) .nilFunc).run Try.prog w = .ok (.bool false) w := by
  unfold binOp Op.equal
  obtain ⟨m, hm⟩ : ∃ m, Op.maxDepth = m + 1 := ⟨9999, rfl⟩
  rw [hm]
  unfold Op.equalIn
  go_simp
theorem fx_bytes : sumF (bytAt (pngOf true) 3 2 1 1) (psN (pngOf true) 3 2) = 8 := by decide
theorem fx_count : sumF (higAt (pngOf true) 3 2) (psN (pngOf true) 3 2) = 4 := by decide
theorem fx_at : atV 4 3 2 = .agg #[.int .i64 2, .int .i64 0, .int .i64 4, .int .i64 4, .int .i64 1, .int .i64 1] := rfl
set_option maxHeartbeats 1600000 in
theorem afixed_any (w : World) : Calls Try.prog 8 #[] w fun e w' => e = .returned (.bool true) ∧ Below w.heap.size w w' := by
  have HC1 : Hid (∀ w, Calls Try.prog 17 #[.agg #[.int .i64 3, .int .i64 2, .int .i64 0, .int .i64 1, .bool true], .int .i64 1] w fun e w' => e = .returned (.int .i64 8) ∧ Below w.heap.size w w') := fun w => by
    have := bytes_yes 3 2 0 1 true 1 w (by omega) (by omega) (by omega) (by omega)
    rw [fx_bytes] at this
    exact this
  have HC2 : Hid (∀ w, Calls Try.prog 16 #[.int .i64 3, .int .i64 2, .bool true] w fun e w' => e = .returned (.int .i64 4) ∧ Below w.heap.size w w') := fun w => by
    have := count_any 3 2 true w
    rw [fx_count] at this
    exact this
  have HC3 : Hid (∀ w, Calls Try.prog 9 #[.int .i64 4, .int .i64 3, .int .i64 2] w fun e w' => e = .returned (.agg #[.int .i64 2, .int .i64 0, .int .i64 4, .int .i64 4, .int .i64 1, .int .i64 1]) ∧ Below w.heap.size w w') := fun w => by
    have := at_any 4 3 2 w
    rw [fx_at] at this
    exact this
  have FN := fn_not_nil
  go_enter Try.func8, Try.ntmps8
  go_wp2_with fail
  refine (aLines_any 1 1 false _).mono ?_
  rintro e w1 ⟨s1, sb1, rfl, -, -, -, hb1⟩
  have HB1 : Hid (Below w.heap.size w w1) := hb1
  clear hb1
  go_wp2_with fail
  refine (aWoven_any 1 1 false _).mono ?_
  rintro e w2 ⟨s2, sb2, rfl, -, -, -, hb2⟩
  have HB2 : Hid (Below w.heap.size w w2) := HB1.out.trans (hb2.mono HB1.out.size)
  clear hb2 HB1
  go_wp2_with fail
  refine (HC1.out _).mono ?_
  rintro e w3 ⟨rfl, hb3⟩
  have HB3 : Hid (Below w.heap.size w w3) := HB2.out.trans (hb3.mono HB2.out.size)
  clear hb3 HB2
  go_wp2_with fail
  refine (HC2.out _).mono ?_
  rintro e w4 ⟨rfl, hb4⟩
  have HB4 : Hid (Below w.heap.size w w4) := HB3.out.trans (hb4.mono HB3.out.size)
  clear hb4 HB3
  go_wp2_with fail
  refine (HC3.out _).mono ?_
  rintro e w5 ⟨rfl, hb5⟩
  have HB5 : Hid (Below w.heap.size w w5) := HB4.out.trans (hb5.mono HB4.out.size)
  clear hb5 HB4
  go_wp2
  go_ret
  exact ⟨rfl, HB5.out⟩
theorem atV_six (p W H : Int) : ∃ a b c d e f : Int, atV p W H = .agg #[.int .i64 a, .int .i64 b, .int .i64 c, .int .i64 d, .int .i64 e, .int .i64 f] := by
  unfold atV
  split
  · exact ⟨_, _, _, _, _, _, rfl⟩
  · exact ⟨_, _, _, _, _, _, rfl⟩
set_option maxHeartbeats 1600000 in
theorem apasses_walk (p W H : Int) (w : World) (_ : (Lit.int .i64 p).wf = true) (_ : (Lit.int .i64 W).wf = true) (_ : (Lit.int .i64 H).wf = true) :
    Calls Try.prog 3 #[.int .i64 p, .int .i64 W, .int .i64 H] w fun e w' => e = .returned (.bool true) ∧ Below w.heap.size w w' := by
  obtain ⟨a1, a2, a3, a4, a5, a6, hv⟩ := atV_six p W H
  have C1 := fun w => at_any p W H w
  have C2 := fun w => rat_any p W H w
  rw [hv] at C1 C2
  clear hv
  go_enter Try.func3, Try.ntmps3
  go_wp2_with fail
  refine (afixed_any _).mono ?_
  rintro e w1 ⟨rfl, hb1⟩
  have HB1 : Hid (Below w.heap.size w w1) := hb1
  clear hb1
  go_wp2_with fail
  refine (C1 _).mono ?_
  rintro e w2 ⟨rfl, hb2⟩
  have HB2 : Hid (Below w.heap.size w w2) := HB1.out.trans (hb2.mono HB1.out.size)
  clear hb2 HB1
  go_wp2_with fail
  refine (C2 _).mono ?_
  rintro e w3 ⟨rfl, hb3⟩
  have HB3 : Hid (Below w.heap.size w w3) := HB2.out.trans (hb3.mono HB2.out.size)
  clear hb3 HB2
  go_wp2
  go_ret
  exact ⟨rfl, HB3.out⟩
end Go.Proofs.Ytjkhldnjciakkaa
