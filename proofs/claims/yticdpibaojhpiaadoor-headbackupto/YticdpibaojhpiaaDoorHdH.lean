/- Calls whose answers the document fixes; the law HeadMay, walked; heads that come in. -/
import Derived.Test.YticdpibaojhpiaaDoorHdG
import Derived.Lib.SmallJoins
import Derived.Deep.RegionHeld3
namespace Go.Proofs.YticdpibaojhpiaaDoor
open Go.ChangeShapes Go.WideShapes Go.ChangeAt Go.RowKit
theorem read_any (a : Option Addr) (n cap : Nat) (zs : List Int) (w : World) (hn : zs.length = n) (hb : Bytes zs) (hnil : a = none → cap = 0) (hr : Row w a zs) (ht : Tab w) :
    Calls Tryd.prog 14 #[.slice a n cap] w fun e w' => RdPost w (rdV zs) (rdE zs) e w' := by
  by_cases h : n = 13
  · subst h
    exact read13_any a cap zs w hn hb hnil hr ht
  · have hk : ¬ rdOk zs := fun k => h (by rw [← hn]; exact k.1)
    rw [rdV, rdE, if_neg hk, if_neg hk]
    exact read_len a n cap w h
theorem bytes_lit (l : List Int) (h : (l.all fun z => decide (0 ≤ z) && decide (z < 256)) = true) : Bytes l := by
  intro z hz
  simp at h
  exact h z hz
theorem row_arrH {w : World} {s : Nat} (hs : s = w.heap.size) (l : List Int) (cs : Array Value) (fr : Nat × Nat) (hc : cs = (vals l).toArray) : Row (w.alloc (.cells cs 5 fr)) (some ⟨s, 0, none⟩) l := by
  subst hs hc
  refine .inr ⟨_, 0, rfl, fun i hi => ?_⟩
  rw [World.cell?_alloc_mark, Nat.zero_add, ← vals_at l i hi]
  simp
def fxA : List Int := [0, 0, 0, 2, 0, 0, 0, 3, 8, 2, 0, 0, 1]
def fxB : List Int := [0, 0, 0, 2, 0, 0, 0, 3, 3, 2, 0, 0, 1]
theorem fxA_v : rdV fxA = .agg #[.int .i64 2, .int .i64 3, .int .i64 2, .int .i64 8, .bool true] ∧ rdE fxA = 0 := by
  have h : rdOk fxA := by decide
  rw [rdV, rdE, if_pos h, if_pos h]
  exact ⟨rfl, rfl⟩
theorem fxB_v : rdV fxB = .agg #[.int .i64 0, .int .i64 0, .int .i64 0, .int .i64 0, .bool false] ∧ rdE fxB = 11 := by
  have h : ¬ rdOk fxB := by decide
  rw [rdV, rdE, if_neg h, if_neg h]
  exact ⟨rfl, rfl⟩
set_option maxHeartbeats 1600000 in
theorem fixed_any (w : World) (ht : Tab w) : Calls Tryd.prog 9 #[] w fun e w' => e = .returned (.bool true) ∧ Below w.heap.size w w' := by
  have HT : Hid (Tab w) := ht
  obtain ⟨w0, hw0⟩ : ∃ w0, w0 = w.alloc (.cells #[.int .u8 0, .int .u8 0, .int .u8 0, .int .u8 2, .int .u8 0, .int .u8 0, .int .u8 0, .int .u8 3, .int .u8 8, .int .u8 2, .int .u8 0, .int .u8 0, .int .u8 1] 5) := ⟨_, rfl⟩
  have HB0 : Hid (Below w.heap.size w w0 ∧ Row w0 (some ⟨w.heap.size, 0, none⟩) fxA) := by
    show _ ∧ _
    rw [hw0]
    exact ⟨(Below.refl _ _).alloc (Nat.le_refl _) _, row_arrH rfl fxA _ _ rfl⟩
  have C := read_any (some ⟨w.heap.size, 0, none⟩) 13 13 fxA w0 rfl (bytes_lit fxA (by decide)) (by intro h; cases h) HB0.out.2 (HT.out.old HB0.out.1)
  rw [fxA_v.1, fxA_v.2] at C
  clear ht
  go_enter Tryd.func9, Tryd.ntmps9
  go_wp2_with fail
  rw [← hw0]
  refine C.mono ?_
  clear C hw0
  rintro e w1 ⟨rfl, hb1⟩
  have HB1 : Hid (Below w.heap.size w w1) := HB0.out.1.trans (hb1.mono HB0.out.1.size)
  clear hb1 HB0
  obtain ⟨w2, hw2⟩ : ∃ w2, w2 = w1.alloc (.cells #[.int .i64 2, .int .i64 3, .int .i64 2, .int .i64 8, .bool true] 23) := ⟨_, rfl⟩
  obtain ⟨w3, hw3⟩ : ∃ w3, w3 = w2.alloc (.cells #[.int .u8 0, .int .u8 0, .int .u8 0, .int .u8 2, .int .u8 0, .int .u8 0, .int .u8 0, .int .u8 3, .int .u8 3, .int .u8 2, .int .u8 0, .int .u8 0, .int .u8 1] 5) := ⟨_, rfl⟩
  have hb2 : Below w1.heap.size w1 w2 := by rw [hw2]; exact (Below.refl _ _).alloc (Nat.le_refl _) _
  have hs2 : w2.heap.size = w1.heap.size + 1 := by rw [hw2]; simp
  have hb3 : Below w2.heap.size w2 w3 := by rw [hw3]; exact (Below.refl _ _).alloc (Nat.le_refl _) _
  have HB3 : Hid (Below w.heap.size w w3 ∧ Row w3 (some ⟨w1.heap.size + 1, 0, none⟩) fxB ∧ w3.heap[w1.heap.size]? = some (.cells #[.int .i64 2, .int .i64 3, .int .i64 2, .int .i64 8, .bool true] 23 (0, 0))) := by
    refine ⟨(HB1.out.trans (hb2.mono HB1.out.size)).trans (hb3.mono (by have := HB1.out.size; omega)), ?_, ?_⟩
    · rw [hw3]; exact row_arrH hs2.symm fxB _ _ rfl
    · rw [hb3.block w1.heap.size (by omega), hw2]; exact heap_alloc_new _ _
  have C := read_any (some ⟨w1.heap.size + 1, 0, none⟩) 13 13 fxB w3 rfl (bytes_lit fxB (by decide)) (by intro h; cases h) HB3.out.2.1 (HT.out.old HB3.out.1)
  rw [fxB_v.1, fxB_v.2] at C
  clear hb2 hs2 hb3
  go_wp2_with fail
  rw [← hw2, ← hw3]
  refine C.mono ?_
  clear C hw2 hw3
  rintro e w4 ⟨rfl, hb4⟩
  have hh := (hb4.block w1.heap.size (lt_of_block HB3.out.2.2)).trans HB3.out.2.2
  have HB4 : Hid (Below w.heap.size w w4) := HB3.out.1.trans (hb4.mono HB3.out.1.size)
  have hlt : w1.heap.size < w4.heap.size := lt_of_block hh
  obtain ⟨g0, g1, g2, g3, g4, -⟩ := five_cells hh
  have HB5 : Hid (∀ o, Below w.heap.size w (w4.alloc o)) := fun o => HB4.out.alloc HB4.out.size o
  have HC : Hid (∀ o, Calls Tryd.prog 12 #[.int .i64 6] (w4.alloc o) fun e w' => e = .returned (.int .i64 4) ∧ w' = w4.alloc o) := fun o => samples_any 6 _ (HT.out.old (HB5.out o))
  clear hb4 HB3 hh
  generalize w1.heap.size = B1 at *
  go_wp2_with fail
  refine (HC.out _).mono ?_
  rintro e w5 ⟨rfl, rfl⟩
  go_wp2
  go_ret
  exact ⟨rfl, HB5.out _⟩
/-- What is known of a head that came in. -/
def HdW (W H C D : Int) : Prop := (Lit.int .i64 W).wf = true ∧ (Lit.int .i64 H).wf = true ∧ (Lit.int .i64 C).wf = true ∧ (Lit.int .i64 D).wf = true
theorem Tryd.cellsHd : Tryd.prog.cellsOf 23 = 5 := by kernel_rfl
theorem array5 {cs : Array Value} (h : cs.size = 5) : ∃ v0 v1 v2 v3 v4, cs = #[v0, v1, v2, v3, v4] := by
  obtain ⟨l⟩ := cs
  match l, h with
  | [v0, v1, v2, v3, v4], _ => exact ⟨v0, v1, v2, v3, v4, rfl⟩
theorem open_head {H : Type} {enc : TypeId × Value → H} {W : World} {r : Reach} {b0 : Nat} {v : Value} {d : DataW H} {p : List MemPlace} (hv : Value.okWide Tryd.prog W r b0 23 v) (h : DataW.Trod enc Tryd.prog W 0 (fun _ => true) true 23 v d p) :
    ∃ VW VH VC VD VL, v = HdV VW VH VC VD VL ∧ HdW VW VH VC VD := by
  obtain ⟨cs, rfl, hsz⟩ := okWide_struct Tryd.underlying23 hv
  obtain ⟨v0, v1, v2, v3, v4, rfl⟩ := array5 (hsz.trans Tryd.cellsHd)
  obtain ⟨fuel, hf⟩ := h
  obtain ⟨xs, n, _, _, _, hlen, hel⟩ := DataW.trod_struct Tryd.underlying23 hf
  have c3 : Tryd.prog.cellsOf 3 = 1 := by kernel_rfl
  have c4 : Tryd.prog.cellsOf 4 = 1 := by kernel_rfl
  have hl5 : xs.length = 5 := hlen
  have q (i : Nat) (hi : i < 5) : ∃ y, xs[i]? = some y := ⟨_, List.getElem?_eq_getElem (by omega)⟩
  obtain ⟨y0, e0⟩ := q 0 (by omega)
  obtain ⟨y1, e1⟩ := q 1 (by omega)
  obtain ⟨y2, e2⟩ := q 2 (by omega)
  obtain ⟨y3, e3⟩ := q 3 (by omega)
  obtain ⟨y4, e4⟩ := q 4 (by omega)
  have h0 := hel 0 _ rfl
  have h1 := hel 1 _ rfl
  have h2 := hel 2 _ rfl
  have h3 := hel 3 _ rfl
  have h4 := hel 4 _ rfl
  rw [e0] at h0
  rw [e1] at h1
  rw [e2] at h2
  rw [e3] at h3
  rw [e4] at h4
  obtain ⟨k0, g0, _, w0⟩ := DataW.trod_int Tryd.underlying3 h0
  obtain ⟨k1, g1, _, w1⟩ := DataW.trod_int Tryd.underlying3 h1
  obtain ⟨k2, g2, _, w2⟩ := DataW.trod_int Tryd.underlying3 h2
  obtain ⟨k3, g3, _, w3⟩ := DataW.trod_int Tryd.underlying3 h3
  obtain ⟨k4, g4, _⟩ := DataW.trod_bool Tryd.underlying4 h4
  simp [Value.cells, c3, c4] at g0 g1 g2 g3 g4
  subst g0 g1 g2 g3 g4
  exact ⟨k0, k1, k2, k3, k4, rfl, w0, w1, w2, w3⟩
/-- A head's own block stands, and nothing below is changed. -/
def Qh (w : World) (W H C D : Int) (L : Bool) (w' : World) : Prop := Below w.heap.size w w' ∧ w'.heap[w.heap.size]? = some (.cells #[.int .i64 W, .int .i64 H, .int .i64 C, .int .i64 D, .bool L] 23 (0, 0))
theorem Qh.old {w : World} {W H C D : Int} {L : Bool} {w1 w2 : World} (h : Qh w W H C D L w1) (hb : Below w1.heap.size w1 w2) : Qh w W H C D L w2 := ⟨h.1.trans (hb.mono h.1.size), (hb.block w.heap.size (lt_of_block h.2)).trans h.2⟩
theorem Qh.drewN {w : World} {W H C D : Int} {L : Bool} {w1 : World} (h : Qh w W H C D L w1) (n : Nat) : Qh w W H C D L (w1.drewN n) := ⟨⟨h.1.os, h.1.tape, h.1.output, h.1.size, h.1.block⟩, h.2⟩
theorem Qh.box (w : World) (W H C D : Int) (L : Bool) : Qh w W H C D L (w.alloc (.cells #[.int .i64 W, .int .i64 H, .int .i64 C, .int .i64 D, .bool L] 23)) := ⟨(Below.refl _ _).alloc (Nat.le_refl _) _, heap_alloc_new _ _⟩
/-- The five cells of a head's own block. -/
def Five (w : World) (B : Nat) (W H C D : Int) (L : Bool) : Prop := w.cell? ⟨B, 0, none⟩ = some (.int .i64 W) ∧ w.cell? ⟨B, 1, none⟩ = some (.int .i64 H) ∧ w.cell? ⟨B, 2, none⟩ = some (.int .i64 C) ∧ w.cell? ⟨B, 3, none⟩ = some (.int .i64 D) ∧ w.cell? ⟨B, 4, none⟩ = some (.bool L)
theorem Qh.five {w : World} {W H C D : Int} {L : Bool} {w1 : World} (h : Qh w W H C D L w1) : Five w1 w.heap.size W H C D L := by
  obtain ⟨g0, g1, g2, g3, g4, -⟩ := five_cells h.2
  exact ⟨g0, g1, g2, g3, g4⟩
set_option maxHeartbeats 1600000 in
theorem hmay_walk (W H C D : Int) (L : Bool) (w : World) (ht : Tab w) (_ : HdW W H C D) : Calls Tryd.prog 3 #[HdV W H C D L] w fun e w' => e = .returned (.bool true) ∧ Below w.heap.size w w' := by
  have HT : Hid (Tab w) := ht
  clear ht
  have HC1 : Hid (∀ w1, Qh w W H C D L w1 → Calls Tryd.prog 10 #[HdV W H C D L] w1 fun e w' => e = .returned (.bool (decide (mayN W H C D))) ∧ Hid (Qh w W H C D L w') ∧ Five w' w.heap.size W H C D L) := fun w1 h => (may_any W H C D L w1 (HT.out.old h.1)).mono fun _ _ ⟨e1, e2⟩ => ⟨e1, h.old e2, (h.old e2).five⟩
  have HC2 : Hid (∀ w1, Qh w W H C D L w1 → Calls Tryd.prog 11 #[HdV W H C D L] w1 fun e w' => e = .returned (.bool (decide (mayN W H C D))) ∧ Hid (Qh w W H C D L w') ∧ Five w' w.heap.size W H C D L) := fun w1 h => (rmay_any W H C D L w1).mono fun _ _ ⟨e1, e2⟩ => ⟨e1, h.old e2, (h.old e2).five⟩
  have HC3 : Hid (∀ w1, Qh w W H C D L w1 → Calls Tryd.prog 12 #[.int .i64 C] w1 fun e w' => e = .returned (.int .i64 (spN C)) ∧ w' = w1) := fun w1 h => samples_any C w1 (HT.out.old h.1)
  have HC4 : Hid (∀ w1, Calls Tryd.prog 13 #[.int .i64 C] w1 fun e w' => e = .returned (.int .i64 (spN C)) ∧ w' = w1) := fun w1 => rsamples_any C w1
  generalize decide (mayN W H C D) = M at *
  generalize spN C = N at *
  obtain ⟨w0, hw0⟩ : ∃ w0, w0 = w.alloc (.cells #[.int .i64 W, .int .i64 H, .int .i64 C, .int .i64 D, .bool L] 23) := ⟨_, rfl⟩
  have HB0 : Hid (Qh w W H C D L w0) := by
    show Qh _ _ _ _ _ _ _
    rw [hw0]
    exact Qh.box ..
  have F := fixed_any w0 (HT.out.old HB0.out.1)
  unfold HdV at *
  go_enter Tryd.func3, Tryd.ntmps3
  go_wp2_with fail
  rw [← hw0]
  refine F.mono ?_
  clear F hw0
  rintro e w1 ⟨rfl, hb1⟩
  have HB1 : Hid (∀ n, Qh w W H C D L (w1.drewN n)) := fun n => (HB0.out.old hb1).drewN n
  obtain ⟨g0, g1, g2, g3, g4⟩ := (HB0.out.old hb1).five
  clear hb1 HB0
  unfold Five at *
  go_wp2_with fail
  go_region_held3 (fun u => u.cell? ⟨w.heap.size, 0, none⟩ = some (.int .i64 W) ∧ u.cell? ⟨w.heap.size, 1, none⟩ = some (.int .i64 H) ∧ u.cell? ⟨w.heap.size, 2, none⟩ = some (.int .i64 C) ∧ u.cell? ⟨w.heap.size, 3, none⟩ = some (.int .i64 D) ∧ u.cell? ⟨w.heap.size, 4, none⟩ = some (.bool L)) (first | go_keep | exact ⟨by assumption, by assumption, by assumption, by assumption, by assumption⟩) (first
    | (go_at_call 10; refine Calls.mono (HC1.out _ (HB1.out _)) ?_; rintro e w2 ⟨rfl, hq2, k0, k1, k2, k3, k4⟩)
    | (go_at_call 11; refine Calls.mono (HC2.out _ hq2.out) ?_; rintro e w3 ⟨rfl, hq3, l0, l1, l2, l3, l4⟩)
    | (go_at_call 12; refine Calls.mono (HC3.out _ hq3.out) ?_; rintro e w4 ⟨rfl, hw4⟩; subst hw4)
    | (go_at_call 13; refine Calls.mono (HC4.out _) ?_; rintro e w5 ⟨rfl, hw5⟩; subst hw5)
    | fail)
  all_goals
    go_wp2
    go_ret
    exact ⟨rfl, hq3.out.1⟩
end Go.Proofs.YticdpibaojhpiaaDoor
