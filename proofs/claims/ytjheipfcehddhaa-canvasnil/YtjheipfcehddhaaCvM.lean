/- The law CanvasNil. -/
import Derived.Test.YtjheipfcehddhaaCvL
import Derived.Test.YtjheipfcehddhaaCvN
namespace Go.Proofs.Ytjheipfcehddhaa
open Go.RowKit
theorem field_img (a b : Int) (s : Option Addr) (n c : Nat) (w : World) : (Instr.field 41 (.agg #[.int .i64 a, .int .i64 b, .slice s n c]) 2).run Try.prog w = .ok (.slice s n c) w := by kernel_rfl
set_option maxHeartbeats 3200000 in
set_option maxRecDepth 100000 in
theorem cnil_walk (l : Ln) (x y : Int) (w : World) (_ : True) (_ : (Lit.int .i64 x).wf = true) (_ : (Lit.int .i64 y).wf = true) : Calls Try.prog 7 #[l.V, .int .i64 x, .int .i64 y] w fun e w' => e = .returned (.bool true) ∧ Below w.heap.size w w' := by
  have HV : l.V = .agg #[.int .i64 l.ps, .slice l.sa l.S.length l.sc, .slice l.ca l.C.length l.cc] := rfl
  have FI := fun w => field_img 0 0 none 0 0 w
  have CLN := fun w => lay_nil l.V l rfl w
  rw [HV] at CLN ⊢
  clear HV
  generalize l.ps = ps at *
  generalize l.sa = sa at *
  generalize l.sc = sc at *
  generalize l.ca = ca at *
  generalize l.cc = cc at *
  generalize l.S.length = sn at *
  generalize l.C.length = cn at *
  obtain ⟨w1, hw1⟩ : ∃ w1, w.alloc (.cells #[.int .i64 ps, .slice sa sn sc, .slice ca cn cc] 35) = w1 := ⟨_, rfl⟩
  have HB1 : Hid (Below w.heap.size w w1 ∧ w1.heap[w.heap.size]? = some (.cells #[.int .i64 ps, .slice sa sn sc, .slice ca cn cc] 35 (0, 0))) := by rw [← hw1]; exact ⟨below_new _ _, World.alloc_heap_new w _⟩
  go_enter Try.func7, Try.ntmps7
  go_wp2_with fail
  refine (cvfixed_any _).mono ?_
  clear hw1
  rintro e w2 ⟨rfl, hb2⟩
  have H2 : Hid (Below w.heap.size w w2 ∧ w2.heap[w.heap.size]? = some (.cells #[.int .i64 ps, .slice sa sn sc, .slice ca cn cc] 35 (0, 0))) := ⟨HB1.out.1.trans (hb2.mono HB1.out.1.size), (hb2.block _ (lt_of_block HB1.out.2)).trans HB1.out.2⟩
  clear HB1 hb2
  go_wp2_with fail
  refine (at_nil x y _).mono ?_
  rintro e w3 ⟨rfl, hb3⟩
  have H3 : Hid (Below w.heap.size w w3 ∧ w3.heap[w.heap.size]? = some (.cells #[.int .i64 ps, .slice sa sn sc, .slice ca cn cc] 35 (0, 0))) := ⟨H2.out.1.trans (hb3.mono H2.out.1.size), (hb3.block _ (lt_of_block H2.out.2)).trans H2.out.2⟩
  clear H2 hb3
  unfold colV
  simp only
  obtain ⟨w4, hw4⟩ : ∃ w4, w4 = w3.alloc (.cells #[.int .u16 0, .int .u16 0, .int .u16 0, .int .u16 0] 49) := ⟨_, rfl⟩
  have HW4 : Hid (w4 = w3.alloc (.cells #[.int .u16 0, .int .u16 0, .int .u16 0, .int .u16 0] 49)) := hw4
  clear hw4
  go_upto_region 5 with fail
  rw [← HW4.out]
  have hb4 : Below w3.heap.size w3 w4 := by rw [HW4.out]; exact below_new _ _
  have H4 : Hid (Below w.heap.size w w4 ∧ w4.heap[w.heap.size]? = some (.cells #[.int .i64 ps, .slice sa sn sc, .slice ca cn cc] 35 (0, 0)) ∧ w4.heap[w3.heap.size]? = some (.cells #[.int .u16 0, .int .u16 0, .int .u16 0, .int .u16 0] 49 (0, 0))) := ⟨H3.out.1.trans (hb4.mono H3.out.1.size), (hb4.block _ (lt_of_block H3.out.2)).trans H3.out.2, by rw [HW4.out]; exact World.alloc_heap_new w3 _⟩
  obtain ⟨a0, a1, a2, -⟩ := three_cells H4.out.2.1
  clear H3 hb4 HW4
  generalize w3.heap.size = qb at *
  go_wp2_with fail
  refine (CLN _).mono ?_
  clear CLN
  rintro e w5 ⟨rfl, hb5⟩
  have H5 : Hid (Below w.heap.size w w5 ∧ w5.heap[qb]? = some (.cells #[.int .u16 0, .int .u16 0, .int .u16 0, .int .u16 0] 49 (0, 0))) := ⟨H4.out.1.trans (hb5.mono H4.out.1.size), (hb5.block _ (lt_of_block H4.out.2.2)).trans H4.out.2.2⟩
  clear H4 hb5 a0 a1 a2
  go_wp2_with fail
  refine (count_nil _).mono ?_
  rintro e w6 ⟨rfl, rfl⟩
  go_wp2_with fail
  refine (full_nil _).mono ?_
  rintro e w7 ⟨rfl, rfl⟩
  obtain ⟨q0, q1, q2, q3, -⟩ := four_cells H5.out.2
  go_wp2_with fail
  refine (image_nil _).mono ?_
  rintro e w8 ⟨rfl, hb8⟩
  have H8 : Hid (Below w.heap.size w w8) := H5.out.1.trans (Below.mono ⟨hb8.os, hb8.tape, hb8.output, hb8.size, hb8.block⟩ H5.out.1.size)
  clear H5 hb8 q0 q1 q2 q3
  go_wp2_with fail
  refine (mask_nil _).mono ?_
  rintro e w9 ⟨rfl, rfl⟩
  go_wp2_with fail
  refine (view_nil true _).mono ?_
  rintro e w10 ⟨rfl, hb10⟩
  have H10 : Hid (Below w.heap.size w w10) := H8.out.trans (hb10.mono H8.out.size)
  clear H8 hb10
  go_wp2
  go_ret
  exact ⟨rfl, H10.out⟩
end Go.Proofs.Ytjheipfcehddhaa
