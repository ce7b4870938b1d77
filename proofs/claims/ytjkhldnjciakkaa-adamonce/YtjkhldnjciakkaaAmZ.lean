/- The law AdamOnce. -/
import Derived.Test.YtjkhldnjciakkaaAmY
namespace Go.Proofs.Ytjkhldnjciakkaa
open Go.RowKit
theorem clsOf_png (b : Bool) : ∃ cl, Cls (pngOf b) cl := by
  cases b
  · exact ⟨_, cls_one⟩
  · exact ⟨_, cls_png⟩
theorem clsOf_gif (b : Bool) : ∃ cl, Cls (gifOf b) cl := by
  cases b
  · exact ⟨_, cls_one⟩
  · exact ⟨_, cls_gif⟩
set_option maxHeartbeats 1600000 in
theorem aonce_walk (A B : Int) (b : Bool) (w : World) (hA : (Lit.int .u8 A).wf = true) (hB : (Lit.int .u8 B).wf = true) (_ : True) :
    Calls Try.prog 6 #[.int .u8 A, .int .u8 B, .bool b] w fun e w' => e = .returned (.bool true) ∧ Below w.heap.size w w' := by
  have bA := bounds_u8 hA
  have bB := bounds_u8 hB
  clear hA hB
  obtain ⟨X, hX⟩ : ∃ X : Nat, 1 + A = (X : Int) := ⟨(1 + A).toNat, by omega⟩
  obtain ⟨Y, hY⟩ : ∃ Y : Nat, 1 + B = (Y : Int) := ⟨(1 + B).toNat, by omega⟩
  have hX2 : 1 ≤ X ∧ X ≤ 256 := by omega
  have hY2 : 1 ≤ Y ∧ Y ≤ 256 := by omega
  have hm : X * Y ≤ 256 * 256 := Nat.mul_le_mul hX2.2 hY2.2
  obtain ⟨m, hmm⟩ : ∃ m, X * Y = m := ⟨_, rfl⟩
  have hmi : (X : Int) * (Y : Int) = (m : Int) := by rw [← hmm]; simp
  rw [hmm] at hm
  have hpic : picN X Y := ⟨by omega, by omega, by omega, by omega, by rw [hmi]; omega⟩
  have e1 : lnsL (pngOf b) X Y = lnsI (pngOf b) X Y (pngOf b).length := by unfold lnsL psN; rw [if_pos hpic]
  have e2 : lnsL (gifOf b) X Y = lnsI (gifOf b) X Y (gifOf b).length := by unfold lnsL psN; rw [if_pos hpic]
  have C1 := fun w => glines_any X Y b w
  have C2 := fun w => gwoven_any X Y b w
  rw [e1] at C1
  rw [e2] at C2
  have HO1 : Hid (∀ (a : Option Addr) (c : Nat) (es : List Le) (w : World), LsR w a es → es.map Le.key = lnsI (pngOf b) X Y (pngOf b).length → Calls Try.prog 19 #[.slice a es.length c, .int .i64 X, .int .i64 Y, .int .i64 7] w fun e w' => e = .returned (.bool true) ∧ Below w.heap.size w w') := fun a c es w h hk => by
    obtain ⟨cl, hc⟩ := clsOf_png b
    exact once_any hc X Y a es.length c 7 es w hX2.2 hY2.2 (by omega) rfl h hk (by cases b <;> decide) (by omega)
  have HO2 : Hid (∀ (a : Option Addr) (c : Nat) (es : List Le) (w : World), LsR w a es → es.map Le.key = lnsI (gifOf b) X Y (gifOf b).length → Calls Try.prog 19 #[.slice a es.length c, .int .i64 X, .int .i64 Y, .int .i64 4] w fun e w' => e = .returned (.bool true) ∧ Below w.heap.size w w') := fun a c es w h hk => by
    obtain ⟨cl, hc⟩ := clsOf_gif b
    exact once_any hc X Y a es.length c 4 es w hX2.2 hY2.2 (by omega) rfl h hk (by cases b <;> decide) (by omega)
  generalize lnsI (pngOf b) X Y (pngOf b).length = K1 at *
  generalize lnsI (gifOf b) X Y (gifOf b).length = K2 at *
  clear e1 e2 hpic hmm
  go_enter Try.func6, Try.ntmps6
  go_wp2_with fail
  refine (afixed_any _).mono ?_
  rintro e w1 ⟨rfl, hb1⟩
  have HB1 : Hid (Below w.heap.size w w1) := hb1
  clear hb1
  go_wp2_with fail
  refine (C1 _).mono ?_
  rintro e w2 ⟨a1, c1, es1, rfl, m1, k1, hb2⟩
  have HB2 : Hid (Below w.heap.size w w2) := HB1.out.trans (hb2.mono HB1.out.size)
  have C3 := HO1.out a1 c1 es1 w2 m1.read k1
  clear m1 k1 hb2 HB1 C1
  generalize es1.length = EL at *
  go_wp2_with fail
  refine C3.mono ?_
  clear C3
  rintro e w3 ⟨rfl, hb3⟩
  have HB3 : Hid (Below w.heap.size w w3) := HB2.out.trans (hb3.mono HB2.out.size)
  clear hb3 HB2
  go_wp2_with fail
  refine (C2 _).mono ?_
  rintro e w4 ⟨a2, c2, es2, rfl, m2, k2, hb4⟩
  have HB4 : Hid (Below w.heap.size w w4) := HB3.out.trans (hb4.mono HB3.out.size)
  have C4 := HO2.out a2 c2 es2 w4 m2.read k2
  clear m2 k2 hb4 HB3 C2
  generalize es2.length = EL2 at *
  go_wp2_with fail
  refine C4.mono ?_
  clear C4
  rintro e w5 ⟨rfl, hb5⟩
  have HB5 : Hid (Below w.heap.size w w5) := HB4.out.trans (hb5.mono HB4.out.size)
  clear hb5 HB4
  go_wp2
  go_ret
  exact ⟨rfl, HB5.out⟩
end Go.Proofs.Ytjkhldnjciakkaa
