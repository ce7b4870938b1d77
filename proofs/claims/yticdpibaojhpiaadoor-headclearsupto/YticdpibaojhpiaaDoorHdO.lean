/- The law HeadClears, walked. -/
import Derived.Test.YticdpibaojhpiaaDoorHdN
namespace Go.Proofs.YticdpibaojhpiaaDoor
open Go.RowKit
theorem rc_len (W H C D t : Int) (b : List Int) : (rcA W H C D t b).length ≤ b.length ∧ (rcS W H C D b).length ≤ b.length := by
  constructor
  · unfold rcA; split
    · exact Nat.le_refl _
    · exact Nat.zero_le _
  · unfold rcS; split
    · rw [smL_len]; omega
    · exact Nat.zero_le _
set_option maxHeartbeats 1600000 in
theorem hclears_walk (W H C D : Int) (L : Bool) (t : Int) (a : Option Addr) (n cap : Nat) (w : World) (ht : Tab w) (_ : HdW W H C D) (_ : (Lit.int .i64 t).wf = true) (ha : BArg w a n cap ∧ cap ≤ 1048576) :
    Calls Tryd.prog 6 #[HdV W H C D L, .int .i64 t, .slice a n cap] w fun e w' => e = .returned (.bool true) ∧ Below w.heap.size w w' := by
  obtain ⟨⟨b, bb, nb, lb, kb, zb, rb⟩, hsm⟩ := ha
  have HT : Hid (Tab w) := ht
  have HC1 : Hid (∀ w1, Below w.heap.size w w1 → Calls Tryd.prog 24 #[HdV W H C D L, .int .i64 t, .slice a n cap] w1 fun e w' => RcPost w1 (rcA W H C D t b) (rcS W H C D b) (rcE W H C D t b) e w') := fun w1 h => rclear_any W H C D L t a n cap b w1 (HT.out.old h) nb (by omega) bb zb (rb.old h)
  have HC2 : Hid (∀ w1, Below w.heap.size w w1 → Calls Tryd.prog 25 #[HdV W H C D L, .int .i64 t, .slice a n cap] w1 fun e w' => RcPost w1 (rcA W H C D t b) (rcS W H C D b) (rcE W H C D t b) e w') := fun w1 h => rrclear_any W H C D L t a n cap b w1 nb (by omega) lb (by unfold maxLen; omega) bb (rb.old h)
  have HLe : Hid ((rcA W H C D t b).length ≤ 2000000 ∧ (rcS W H C D b).length ≤ 2000000) := ⟨by have := (rc_len W H C D t b).1; omega, by have := (rc_len W H C D t b).2; omega⟩
  clear ht bb nb lb kb zb rb
  generalize rcA W H C D t b = RA at *
  generalize rcS W H C D b = RS at *
  generalize rcE W H C D t b = RE at *
  obtain ⟨w0, hw0⟩ : ∃ w0, w0 = w.alloc (.cells #[.int .i64 W, .int .i64 H, .int .i64 C, .int .i64 D, .bool L] 23) := ⟨_, rfl⟩
  have HB0 : Hid (Qh w W H C D L w0) := by
    show Qh _ _ _ _ _ _ _
    rw [hw0]
    exact Qh.box ..
  have F := fixed_any w0 (HT.out.old HB0.out.1)
  unfold HdV at *
  go_enter Tryd.func6, Tryd.ntmps6
  go_wp2_with fail
  rw [← hw0]
  refine F.mono ?_
  clear F hw0
  rintro e w1 ⟨rfl, hb1⟩
  have HB1 : Hid (Qh w W H C D L w1) := HB0.out.old hb1
  obtain ⟨g0, g1, g2, g3, g4⟩ := HB1.out.five
  clear hb1 HB0
  have CC := HC1.out w1 HB1.out.1
  go_wp2_with fail
  refine CC.mono ?_
  clear CC g0 g1 g2 g3 g4
  rintro e w2 ⟨a1, c1, a2, c2, rfl, r1, r2, b2⟩
  have HB2 : Hid (Qh w W H C D L w2 ∧ IRow w2 a1 RA ∧ IRow w2 a2 RS) := ⟨HB1.out.old b2, r1, r2⟩
  obtain ⟨g0, g1, g2, g3, g4⟩ := HB2.out.1.five
  clear r1 r2 b2 HB1
  have CC := HC2.out w2 HB2.out.1.1
  go_wp2_with fail
  refine CC.mono ?_
  clear CC g0 g1 g2 g3 g4
  rintro e w3 ⟨a3, c3, a4, c4, rfl, r3, r4, b3⟩
  have HB3 : Hid (Qh w W H C D L w3 ∧ IRow w3 a1 RA ∧ IRow w3 a2 RS ∧ IRow w3 a3 RA ∧ IRow w3 a4 RS) := ⟨HB2.out.1.old b3, HB2.out.2.1.old b3, HB2.out.2.2.old b3, r3, r4⟩
  clear r3 r4 b3 HB2
  have CC := sameI_any a1 a3 RA.length c1 c3 RA w3 rfl HLe.out.1 HB3.out.2.1 HB3.out.2.2.2.1
  go_wp2_with fail
  refine CC.mono ?_
  clear CC
  rintro e w4 ⟨rfl, b4⟩
  have CC := sameI_any a2 a4 RS.length c2 c4 RS w4 rfl HLe.out.2 (HB3.out.2.2.1.old b4) (HB3.out.2.2.2.2.old b4)
  have HB4 : Hid (Below w.heap.size w w4) := HB3.out.1.1.trans (b4.mono HB3.out.1.1.size)
  clear b4
  go_wp2_with fail
  refine CC.mono ?_
  clear CC
  rintro e w5 ⟨rfl, b5⟩
  have HB5 : Hid (Below w.heap.size w w5) := HB4.out.trans (b5.mono HB4.out.size)
  clear b5
  go_wp2
  go_ret
  exact ⟨rfl, HB5.out⟩
end Go.Proofs.YticdpibaojhpiaaDoor
