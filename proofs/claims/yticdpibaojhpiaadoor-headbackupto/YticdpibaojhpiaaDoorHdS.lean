/- The law HeadReads, walked. -/
import Derived.Test.YticdpibaojhpiaaDoorHdR
import Derived.Test.YticdpibaojhpiaaDoorHdX
namespace Go.Proofs.YticdpibaojhpiaaDoor
open Go.RowKit
theorem rdV_shape (zs : List Int) : ∃ W H C D L, rdV zs = HdV W H C D L := by
  unfold rdV
  split
  · exact ⟨_, _, _, _, _, rfl⟩
  · exact ⟨_, _, _, _, _, rfl⟩
/-- What Write answers: bytes of its own, or nothing and an error. -/
def WrPost (w : World) (zs : List Int) (er : Int) (e : Ending) (w' : World) : Prop := ∃ a c, e = .returned (.tuple #[.slice a zs.length c, .int .i64 er]) ∧ Row w' a zs ∧ (a = none → c = 0) ∧ zs.length ≤ c ∧ c ≤ maxLen ∧ Below w.heap.size w w'
def wrZ (W H C D : Int) (L : Bool) : List Int := if mayN W H C D then wrL W H C D L else []
def wrE (W H C D : Int) : Int := if mayN W H C D then 0 else 11
theorem wrPost_of2 {w w' : World} {zs : List Int} {e : Ending} (h : NewB2 w zs e w') : WrPost w zs 0 e w' := by
  obtain ⟨a, c, g, e1, e2, e3, e4⟩ := h
  obtain ⟨a', c', hv, h1, h2, hz⟩ := e2.shape
  rw [vals_len] at h1
  simp only [Value.slice.injEq] at hv
  exact ⟨a, c, e1, e2.row rfl, fun h => by rw [hv.2.2]; exact hz (by rw [← hv.1]; exact h), by rw [hv.2.2]; exact h1, by rw [hv.2.2]; exact h2, e4⟩
theorem wrPost_nil {w w' : World} {er : Int} (hb : Below w.heap.size w w') : WrPost w [] er (.returned (.tuple #[.slice none 0 0, .int .i64 er])) w' := ⟨none, 0, rfl, .inl rfl, fun _ => rfl, Nat.le_refl _, by unfold maxLen; omega, hb⟩
theorem write_any (W H C D : Int) (L : Bool) (w : World) (ht : Tab w) : Calls Tryd.prog 16 #[HdV W H C D L] w fun e w' => WrPost w (wrZ W H C D L) (wrE W H C D) e w' := by
  by_cases h : mayN W H C D
  · rw [wrZ, wrE, if_pos h, if_pos h]
    exact (write_yes W H C D L w ht h).mono fun _ _ h => wrPost_of2 h
  · rw [wrZ, wrE, if_neg h, if_neg h]
    exact (write_no W H C D L w ht h).mono fun _ _ ⟨e1, e2⟩ => by rw [e1]; exact wrPost_nil e2
theorem rwrite_any (W H C D : Int) (L : Bool) (w : World) : Calls Tryd.prog 17 #[HdV W H C D L] w fun e w' => WrPost w (wrZ W H C D L) (wrE W H C D) e w' := by
  by_cases h : mayN W H C D
  · rw [wrZ, wrE, if_pos h, if_pos h]
    exact (rwrite_yes W H C D L w h).mono fun _ _ h => wrPost_of2 h
  · rw [wrZ, wrE, if_neg h, if_neg h]
    exact (rwrite_no W H C D L w h).mono fun _ _ ⟨e1, e2⟩ => by rw [e1]; exact wrPost_nil e2
theorem five_keep {w w' : World} {B : Nat} {v0 v1 v2 v3 v4 : Value} {t : TypeId} (h : w.heap[B]? = some (.cells #[v0, v1, v2, v3, v4] t (0, 0))) (hb : Below w.heap.size w w') : w'.heap[B]? = some (.cells #[v0, v1, v2, v3, v4] t (0, 0)) := (hb.block B (lt_of_block h)).trans h
set_option maxHeartbeats 3200000 in
theorem hreads_walk (a : Option Addr) (n cap : Nat) (W H C D : Int) (L : Bool) (w : World) (ht : Tab w) (ha : BArg w a n cap) (_ : HdW W H C D) :
    Calls Tryd.prog 4 #[.slice a n cap, HdV W H C D L] w fun e w' => e = .returned (.bool true) ∧ Below w.heap.size w w' := by
  obtain ⟨zs, bz, nz, lz, kz, zz, rz⟩ := ha
  have HT : Hid (Tab w) := ht
  obtain ⟨XW, XH, XC, XD, XL, hX⟩ := rdV_shape zs
  have HC1 : Hid (∀ w1, Below w.heap.size w w1 → Calls Tryd.prog 14 #[.slice a n cap] w1 fun e w' => RdPost w1 (HdV XW XH XC XD XL) (rdE zs) e w') := fun w1 h => by rw [← hX]; exact read_any a n cap zs w1 nz bz zz (rz.old h) (HT.out.old h)
  have HC2 : Hid (∀ w1, Below w.heap.size w w1 → Calls Tryd.prog 15 #[.slice a n cap] w1 fun e w' => RdPost w1 (HdV XW XH XC XD XL) (rdE zs) e w') := fun w1 h => by rw [← hX]; exact rread_any a n cap zs w1 nz lz (by unfold maxLen; omega) bz (rz.old h)
  have HC3 : Hid (∀ w1, Below w.heap.size w w1 → Calls Tryd.prog 16 #[HdV W H C D L] w1 fun e w' => WrPost w1 (wrZ W H C D L) (wrE W H C D) e w') := fun w1 h => write_any W H C D L w1 (HT.out.old h)
  have HC4 : Hid (∀ w1, Calls Tryd.prog 17 #[HdV W H C D L] w1 fun e w' => WrPost w1 (wrZ W H C D L) (wrE W H C D) e w') := fun w1 => rwrite_any W H C D L w1
  clear ht bz nz lz kz zz rz hX
  obtain ⟨w0, hw0⟩ : ∃ w0, w0 = w.alloc (.cells #[.int .i64 W, .int .i64 H, .int .i64 C, .int .i64 D, .bool L] 23) := ⟨_, rfl⟩
  have HB0 : Hid (Qh w W H C D L w0) := by
    show Qh _ _ _ _ _ _ _
    rw [hw0]
    exact Qh.box ..
  have F := fixed_any w0 (HT.out.old HB0.out.1)
  generalize rdE zs = ER at *
  generalize wrZ W H C D L = WZ at *
  generalize wrE W H C D = WE at *
  unfold HdV at *
  go_enter Tryd.func4, Tryd.ntmps4
  go_wp2_with fail
  rw [← hw0]
  refine F.mono ?_
  clear F hw0
  rintro e w1 ⟨rfl, hb1⟩
  have HB1 : Hid (Qh w W H C D L w1) := HB0.out.old hb1
  clear hb1 HB0
  have CC := HC1.out w1 HB1.out.1
  go_wp2_with fail
  refine CC.mono ?_
  clear CC
  rintro e w2 ⟨rfl, hb2⟩
  obtain ⟨w3, hw3⟩ : ∃ w3, w3 = w2.alloc (.cells #[.int .i64 XW, .int .i64 XH, .int .i64 XC, .int .i64 XD, .bool XL] 23) := ⟨_, rfl⟩
  have HB3 : Hid (Qh w W H C D L w3 ∧ w3.heap[w2.heap.size]? = some (.cells #[.int .i64 XW, .int .i64 XH, .int .i64 XC, .int .i64 XD, .bool XL] 23 (0, 0))) := by
    show _ ∧ _
    rw [hw3]
    exact ⟨(HB1.out.old hb2).old ((Below.refl _ _).alloc (Nat.le_refl _) _), heap_alloc_new _ _⟩
  clear hb2 HB1
  have CC := HC2.out w3 HB3.out.1.1
  go_wp2_with fail
  rw [← hw3]
  refine CC.mono ?_
  clear CC hw3
  generalize w2.heap.size = BX at *
  rintro e w4 ⟨rfl, hb4⟩
  obtain ⟨w5, hw5⟩ : ∃ w5, w5 = w4.alloc (.cells #[.int .i64 XW, .int .i64 XH, .int .i64 XC, .int .i64 XD, .bool XL] 23) := ⟨_, rfl⟩
  have HB5 : Hid (Qh w W H C D L w5 ∧ w5.heap[BX]? = some (.cells #[.int .i64 XW, .int .i64 XH, .int .i64 XC, .int .i64 XD, .bool XL] 23 (0, 0)) ∧ w5.heap[w4.heap.size]? = some (.cells #[.int .i64 XW, .int .i64 XH, .int .i64 XC, .int .i64 XD, .bool XL] 23 (0, 0))) := by
    have hk : Below w4.heap.size w4 (w4.alloc (.cells #[.int .i64 XW, .int .i64 XH, .int .i64 XC, .int .i64 XD, .bool XL] 23)) := (Below.refl _ _).alloc (Nat.le_refl _) _
    show _ ∧ _ ∧ _
    rw [hw5]
    exact ⟨(HB3.out.1.old hb4).old hk, five_keep (five_keep HB3.out.2 hb4) hk, heap_alloc_new _ _⟩
  have h4 : Five w5 w.heap.size W H C D L := HB5.out.1.five
  have h4r := h4
  rw [hw5] at h4
  obtain ⟨g0, g1, g2, g3, g4⟩ := h4
  clear hb4 HB3
  have CC := HC3.out w5 HB5.out.1.1
  go_wp2_with fail
  rw [← hw5]
  refine CC.mono ?_
  clear CC hw5 g0 g1 g2 g3 g4 h4r
  generalize w4.heap.size = BY at *
  rintro e w6 ⟨a6, c6, rfl, r6, z6, l6, m6, b6⟩
  have HB6 : Hid (Qh w W H C D L w6 ∧ w6.heap[BX]? = some (.cells #[.int .i64 XW, .int .i64 XH, .int .i64 XC, .int .i64 XD, .bool XL] 23 (0, 0)) ∧ w6.heap[BY]? = some (.cells #[.int .i64 XW, .int .i64 XH, .int .i64 XC, .int .i64 XD, .bool XL] 23 (0, 0)) ∧ Row w6 a6 WZ) := ⟨HB5.out.1.old b6, five_keep HB5.out.2.1 b6, five_keep HB5.out.2.2 b6, r6⟩
  obtain ⟨g0, g1, g2, g3, g4⟩ := HB6.out.1.five
  clear r6 z6 l6 m6 b6 HB5
  have CC := HC4.out w6
  go_wp2_with fail
  refine CC.mono ?_
  clear CC g0 g1 g2 g3 g4
  rintro e w7 ⟨a7, c7, rfl, r7, z7, l7, m7, b7⟩
  have HB7 : Hid (Qh w W H C D L w7 ∧ Row w7 a6 WZ ∧ Row w7 a7 WZ) := ⟨HB6.out.1.old b7, HB6.out.2.2.2.old b7, r7⟩
  obtain ⟨x0, x1, x2, x3, x4, -⟩ := five_cells (five_keep HB6.out.2.1 b7)
  obtain ⟨y0, y1, y2, y3, y4, -⟩ := five_cells (five_keep HB6.out.2.2.1 b7)
  clear r7 z7 l7 m7 b7 HB6
  go_wp2_with fail
  refine (same_any a6 a7 WZ.length c6 c7 WZ _ rfl HB7.out.2.1 HB7.out.2.2).mono ?_
  rintro e w8 ⟨rfl, rfl⟩
  go_wp2
  go_ret
  exact ⟨rfl, HB7.out.1.1⟩
end Go.Proofs.YticdpibaojhpiaaDoor
