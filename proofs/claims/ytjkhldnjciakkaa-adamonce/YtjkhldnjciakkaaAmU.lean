/- The law AdamLines, walked. -/
import Derived.Test.YtjkhldnjciakkaaAmT
import Derived.Test.YtjkhldnjciakkaaAmO
namespace Go.Proofs.Ytjkhldnjciakkaa
open Go.RowKit
theorem bsN_sum {f : Nat → Int} (h : ∀ i, 0 ≤ f i) : ∀ n : Nat, ((bsN (fun i => (f i).toNat) n : Nat) : Int) = sumF f n
  | 0 => rfl
  | n + 1 => by
    have := bsN_sum h n
    have := h n
    rw [bsN, sumF, Int.natCast_add]; omega
theorem count_lines {L : List Stp} (hL : ∀ p ∈ L, p.ok) (W H : Int) : sumF (higAt L W H) (psN L W H) = ((lnsL L W H).length : Int) := by
  rw [lnsL_len]
  unfold lnN
  by_cases hp : picN W H
  · have := bsN_sum (f := higAt L W H) (fun i => (hig_bd (stAt_ok hL i) hp.2.2.2.1).1) (psN L W H)
    exact this.symm
  · unfold psN; rw [if_neg hp]; rfl
theorem lnsL_bd {L : List Stp} (hL : ∀ p ∈ L, p.ok) (hl : L.length ≤ 7) (W H : Int) : (lnsL L W H).length ≤ 20000 := by rw [lnsL_len]; exact lnN_bd hL hl W H
set_option maxHeartbeats 1600000 in
theorem alines_walk (W H : Int) (b : Bool) (w : World) (_ : (Lit.int .i64 W).wf = true) (_ : (Lit.int .i64 H).wf = true) (_ : True) :
    Calls Try.prog 4 #[.int .i64 W, .int .i64 H, .bool b] w fun e w' => e = .returned (.bool true) ∧ Below w.heap.size w w' := by
  have C1 := fun w => rlines_any W H b w
  have C2 := fun w => glines_any W H b w
  have C3 := fun w => gwoven_any W H b w
  have C4 := fun w => rwoven_any W H b w
  have C5 := fun w => count_any W H b w
  have HC : Hid (sumF (higAt (pngOf b) W H) (psN (pngOf b) W H) = ((lnsL (pngOf b) W H).length : Int) ∧ (lnsL (pngOf b) W H).length ≤ 20000 ∧ (lnsL (gifOf b) W H).length ≤ 20000) := ⟨count_lines (pngOf_ok b) W H, lnsL_bd (pngOf_ok b) (by cases b <;> decide) W H, lnsL_bd (gifOf_ok b) (by cases b <;> decide) W H⟩
  generalize sumF (higAt (pngOf b) W H) (psN (pngOf b) W H) = CN at *
  generalize lnsL (pngOf b) W H = K1 at *
  generalize lnsL (gifOf b) W H = K2 at *
  go_enter Try.func4, Try.ntmps4
  go_wp2_with fail
  refine (afixed_any _).mono ?_
  rintro e w1 ⟨rfl, hb1⟩
  have HB1 : Hid (Below w.heap.size w w1) := hb1
  clear hb1
  go_wp2_with fail
  refine (C1 _).mono ?_
  rintro e w2 ⟨a1, c1, es1, rfl, m1, k1, hb2⟩
  have HB2 : Hid (Below w.heap.size w w2 ∧ LsR w2 a1 es1 ∧ es1.map Le.key = K1) := ⟨HB1.out.trans (hb2.mono HB1.out.size), m1.read, k1⟩
  have hl1 : es1.length = K1.length := by have := congrArg List.length k1; rwa [List.length_map] at this
  rw [hl1]
  have HL1 : Hid (es1.length = K1.length) := hl1
  clear m1 k1 hb2 HB1 C1 hl1
  go_wp2_with fail
  refine (C2 _).mono ?_
  rintro e w3 ⟨a2, c2, es2, rfl, m2, k2, hb3⟩
  have HB3 : Hid (Below w.heap.size w w3 ∧ LsR w3 a1 es1 ∧ es1.map Le.key = K1 ∧ LsR w3 a2 es2 ∧ es2.map Le.key = K1) := ⟨HB2.out.1.trans (hb3.mono HB2.out.1.size), HB2.out.2.1.old hb3, HB2.out.2.2, m2.read, k2⟩
  have hl2 : es2.length = K1.length := by have := congrArg List.length k2; rwa [List.length_map] at this
  rw [hl2]
  have C6 := rsame_any a2 a1 K1.length c2 c1 es2 es1 w3 hl2 HB3.out.2.2.2.1 HB3.out.2.1 (HB3.out.2.2.2.2.trans HB3.out.2.2.1.symm) (by have := HC.out; omega)
  clear m2 k2 hb3 HB2 C2 hl2
  go_wp2_with fail
  refine C6.mono ?_
  clear C6
  rintro e w4 ⟨rfl, hb4⟩
  have HB4 : Hid (Below w.heap.size w w4) := HB3.out.1.trans (hb4.mono HB3.out.1.size)
  clear hb4 HB3
  go_wp2_with fail
  refine (C3 _).mono ?_
  rintro e w5 ⟨a3, c3, es3, rfl, m3, k3, hb5⟩
  have HB5 : Hid (Below w.heap.size w w5 ∧ LsR w5 a3 es3 ∧ es3.map Le.key = K2) := ⟨HB4.out.trans (hb5.mono HB4.out.size), m3.read, k3⟩
  have hl3 : es3.length = K2.length := by have := congrArg List.length k3; rwa [List.length_map] at this
  rw [hl3]
  have HL3 : Hid (es3.length = K2.length) := hl3
  clear m3 k3 hb5 HB4 C3 hl3
  go_wp2_with fail
  refine (C4 _).mono ?_
  rintro e w6 ⟨a4, c4, es4, rfl, m4, k4, hb6⟩
  have HB6 : Hid (Below w.heap.size w w6 ∧ LsR w6 a3 es3 ∧ es3.map Le.key = K2 ∧ LsR w6 a4 es4 ∧ es4.map Le.key = K2) := ⟨HB5.out.1.trans (hb6.mono HB5.out.1.size), HB5.out.2.1.old hb6, HB5.out.2.2, m4.read, k4⟩
  have hl4 : es4.length = K2.length := by have := congrArg List.length k4; rwa [List.length_map] at this
  rw [hl4]
  have C7 := rsame_any a3 a4 K2.length c3 c4 es3 es4 w6 HL3.out HB6.out.2.1 HB6.out.2.2.2.1 (HB6.out.2.2.1.trans HB6.out.2.2.2.2.symm) (by have := HC.out; omega)
  clear m4 k4 hb6 HB5 C4 hl4
  go_wp2_with fail
  refine C7.mono ?_
  clear C7
  rintro e w7 ⟨rfl, hb7⟩
  have HB7 : Hid (Below w.heap.size w w7) := HB6.out.1.trans (hb7.mono HB6.out.1.size)
  clear hb7 HB6
  go_wp2_with fail
  refine (C5 _).mono ?_
  rintro e w8 ⟨rfl, hb8⟩
  have HB8 : Hid (Below w.heap.size w w8) := HB7.out.trans (hb8.mono HB7.out.size)
  rw [HC.out.1]
  clear hb8 HB7 C5
  go_wp2
  go_ret
  exact ⟨rfl, HB8.out⟩
end Go.Proofs.Ytjkhldnjciakkaa
