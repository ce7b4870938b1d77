/- A pixel's colour: Of, of a right raster and right samples (all kinds but the table's). -/
import Derived.Test.YtbjoalgglmalnaaDoorPxK
namespace Go.Proofs.YtbjoalgglmalnaaDoor
open Go.RowKit
theorem results_cellP {fn : Func} {p q : Tmp} {ty : TypeId} (h : fn.results = #[.cell p ty, .tmp q]) (tmps : Array Value) (P : Program) (w : World) :
    (results fn tmps).run P w = ((asAddr (tmps.getD p undef)).run P w).andThen fun a w₁ => ((loadVar ty a).run P w₁).andThen fun v w₂ => .ok (.tuple #[v, tmps.getD q undef]) w₂ := by
  simp only [results, h]
  simp [Sem.run_bind]
/-- What Of has in memory. -/
structure OfI (w : World) (c : Array Value) (wr : World) : Prop where
  qr : QR w c wr
  rb : wr.heap[w.heap.size + 1]? = some (.cells #[.int .u16 0, .int .u16 0, .int .u16 0, .int .u16 0] 45 (0, 0))
theorem OfI.old {w : World} {c : Array Value} {w1 w2 : World} (h : OfI w c w1) (hb : Below w1.heap.size w1 w2) : OfI w c w2 := ⟨h.qr.old hb, (hb.block _ (lt_of_block h.rb)).trans h.rb⟩
theorem OfI.start (w : World) (c : Array Value) : OfI w c ((w.alloc (.cells c 40)).alloc (.cells #[.int .u16 0, .int .u16 0, .int .u16 0, .int .u16 0] 45)) := by
  refine ⟨⟨((Below.refl _ w).alloc (Nat.le_refl _) _).alloc (by simp) _, ?_⟩, ?_⟩
  · rw [Below.heap_alloc _ _ _ (by simp)]; exact heap_alloc_newX w _
  · have := heap_alloc_newX (w.alloc (.cells c 40)) (.cells #[.int .u16 0, .int .u16 0, .int .u16 0, .int .u16 0] 45); rwa [World.size_alloc] at this
theorem OfI.rcells {w : World} {c : Array Value} {wr : World} (h : OfI w c wr) : wr.cell? ⟨w.heap.size + 1, 0, none⟩ = some (.int .u16 0) ∧ wr.cell? ⟨w.heap.size + 1, 1, none⟩ = some (.int .u16 0) ∧ wr.cell? ⟨w.heap.size + 1, 2, none⟩ = some (.int .u16 0) ∧ wr.cell? ⟨w.heap.size + 1, 3, none⟩ = some (.int .u16 0) ∧ ∀ j, wr.frozen? ⟨w.heap.size + 1, j, none⟩ = false := by
  have hx := h.rb
  refine ⟨?_, ?_, ?_, ?_, fun j => ?_⟩ <;> simp [World.cell?, World.frozen?, hx]
theorem coN_shape (C : Int) (X : List Int) (cv : Int) : ∃ a b c d, coN C X cv = .agg #[.int .u16 a, .int .u16 b, .int .u16 c, .int .u16 d] := by
  unfold coN
  split
  · exact ⟨_, _, _, _, rfl⟩
  · split
    · exact ⟨_, _, _, _, rfl⟩
    · split
      · exact ⟨_, _, _, _, rfl⟩
      · exact ⟨_, _, _, _, rfl⟩
set_option maxHeartbeats 1600000 in
theorem of_good (r : Rs) (A K S : List Int) (la : Option Addr) (ln lc d : Nat) (l : List Int) (w : World) (ht : Tab w) (hm : RsM w r A K S) (hl : IRow w la l) (hln : l.length = ln) (hC : r.C = 0 ∨ r.C = 2 ∨ r.C = 4 ∨ r.C = 6) (hD : r.D = d) (hk : ckE r.W r.H r.C r.D r.tn A K = 0) (hs : smE r.C r.D r.tn l 1 = 0) :
    Calls Tryd.prog 19 #[r.V, .slice la ln lc] w fun e w' => e = .returned (.tuple #[coN r.C (arrL d l ln) (cvN K l), .int .i64 0]) ∧ Below w.heap.size w w' := by
  have HO : Hid (OfI w r.c9 _) := OfI.start w r.c9
  obtain ⟨f1, f2, f3⟩ := may_facts (ckE_may hk)
  obtain ⟨-, hdp, -⟩ := isPr_d (ckE_may hk).2.2.1
  rw [hD] at hdp
  have hq : (l.length : Int) = 1 * spN r.C ∧ allB (2 ^ r.D.toNat) l := by
    by_cases q : (l.length : Int) = 1 * spN r.C ∧ allB (2 ^ r.D.toNat) l
    · exact q
    · unfold smE at hs; rw [if_neg q] at hs; omega
  have hq2 : allB (2 ^ d) l := by have := hq.2; rw [hD] at this; exact this
  have HK : Hid (∀ w1, Below w.heap.size w w1 → Calls Tryd.prog 29 #[r.V] w1 fun e w' => e = .returned (.int .i64 0) ∧ Below w1.heap.size w1 w') := fun w1 h => by
    have := checkKind_any r A K S w1 (ht.old h) (hm.old h); rwa [hk] at this
  have HS : Hid (∀ w1, Below w.heap.size w w1 → Calls Tryd.prog 30 #[r.V, .slice la ln lc, .int .i64 1] w1 fun e w' => e = .returned (.int .i64 0) ∧ Below w1.heap.size w1 w') := fun w1 h => by
    have := checkSamples_any r la ln lc l 1 w1 (ht.old h) (hl.old h) hln (by omega) f1 ⟨by omega, f3.2⟩ (by omega) hm.bd.2.2.2; rwa [hs] at this
  have HL : Hid (∀ w1, Below w.heap.size w w1 → Calls Tryd.prog 34 #[r.V, .slice la ln lc] w1 fun e w' => e = .returned (coN r.C (arrL d l ln) (cvN K l)) ∧ Below w1.heap.size w1 w') := fun w1 h => colour_any r A K S la ln lc d l w1 (hm.old h) (hl.old h) hln hC hdp hD hq2 (by omega)
  obtain ⟨x0, x1, x2, x3, hx⟩ := coN_shape r.C (arrL d l ln) (cvN K l)
  rw [hx] at HL ⊢
  clear ht hm hl hln hC hD hk hs f1 f2 f3 hdp hq hq2 hx
  obtain ⟨W, H, C, D, L, ta, tn, tc, aa, an, ac, ca, cn, cc, sa, sn, sc⟩ := r
  unfold Rs.V at *
  unfold Rs.c9 at *
  simp only at *
  have CK := HK.out _ HO.out.qr.1
  go_enter Tryd.func19, Tryd.ntmps19
  go_wp2_with fail
  refine CK.mono ?_
  clear CK HK
  rintro e w1 ⟨rfl, hb1⟩
  have HO1 : Hid (OfI w _ w1) := HO.out.old hb1
  obtain ⟨c0, c1, c2, c3, c4, c5, c6, c7, c8⟩ := nine_cells HO1.out.qr.2
  have CS := HS.out w1 HO1.out.qr.1
  clear hb1 HO HS
  go_wp2_with fail
  refine CS.mono ?_
  clear CS
  rintro e w2 ⟨rfl, hb2⟩
  have HO2 : Hid (OfI w _ w2) := HO1.out.old hb2
  clear hb2 HO1 c0 c1 c2 c3 c4 c5 c6 c7 c8
  obtain ⟨c0, c1, c2, c3, c4, c5, c6, c7, c8⟩ := nine_cells HO2.out.qr.2
  have CL := HL.out w2 HO2.out.qr.1
  clear HL
  go_wp2_with fail
  refine CL.mono ?_
  clear CL
  rintro e w3 ⟨rfl, hb3⟩
  obtain ⟨r0, r1, r2, r3, rf⟩ := (HO2.out.old hb3).rcells
  have HB : Hid (Below w.heap.size w w3) := (HO2.out.old hb3).qr.1
  clear hb3 HO2 c0 c1 c2 c3 c4 c5 c6 c7 c8
  go_wp2
  refine bodyPost_ret (v := .tuple #[.agg #[.int .u16 x0, .int .u16 x1, .int .u16 x2, .int .u16 x3], .int .i64 0]) ?_ rfl ⟨rfl, four_set HB.out⟩
  rw [results_cellP rfl]
  go_simp
end Go.Proofs.YtbjoalgglmalnaaDoor
