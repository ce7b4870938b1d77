/- A pixel's colour: the program, all kinds but the table's. -/
import Derived.Test.YtbjoalgglmalnaaDoorPxJ
import Derived.Deep.LoopGhost
namespace Go.Proofs.YtbjoalgglmalnaaDoor
open Go.RowKit
def uvals (l : List Int) : List Value := l.map (Value.int .u16)
/-- The levels of the first j samples, and noughts. -/
def arrL (d : Nat) (l : List Int) (j : Nat) : List Int := (l.take j).map (lvN d) ++ List.replicate (4 - j) 0
theorem arrL_len {d : Nat} {l : List Int} {j : Nat} (hj : j ≤ l.length) (h4 : j ≤ 4) : (arrL d l j).length = 4 := by simp [arrL]; omega
theorem arrL_step {d : Nat} {l : List Int} {j : Nat} (hj : j < l.length) (h4 : j < 4) : (arrL d l j).set j (lvN d (l[j]?.getD 0)) = arrL d l (j + 1) := by
  unfold arrL
  have hlen : ((l.take j).map (lvN d)).length = j := by simp; omega
  rw [show List.replicate (4 - j) (0 : Int) = 0 :: List.replicate (4 - (j + 1)) 0 from by rw [show 4 - j = (4 - (j + 1)) + 1 by omega, List.replicate_succ], List.set_append_right _ _ (by omega), hlen, Nat.sub_self, List.set_cons_zero, take_snoc l j hj, List.map_append, List.append_assoc]
  rfl
/-- What colour has in memory. -/
structure CoI (w : World) (c : Array Value) (X : List Int) (wr : World) : Prop where
  qr : QR w c wr
  rb : wr.heap[w.heap.size + 1]? = some (.cells #[.int .u16 0, .int .u16 0, .int .u16 0, .int .u16 0] 45 (0, 0))
  ab : wr.heap[w.heap.size + 2]? = some (.cells (uvals X).toArray 72 (0, 0))
theorem CoI.old {w : World} {c : Array Value} {X : List Int} {w1 w2 : World} (h : CoI w c X w1) (hb : Below w1.heap.size w1 w2) : CoI w c X w2 := ⟨h.qr.old hb, (hb.block _ (lt_of_block h.rb)).trans h.rb, (hb.block _ (lt_of_block h.ab)).trans h.ab⟩
theorem CoI.start (w : World) (c : Array Value) : CoI w c [0, 0, 0, 0] (((w.alloc (.cells c 40)).alloc (.cells #[.int .u16 0, .int .u16 0, .int .u16 0, .int .u16 0] 45)).alloc (.cells #[.int .u16 0, .int .u16 0, .int .u16 0, .int .u16 0] 72)) := by
  refine ⟨⟨(((Below.refl _ w).alloc (Nat.le_refl _) _).alloc (by simp) _).alloc (by simp; omega) _, ?_⟩, ?_, ?_⟩
  · rw [Below.heap_alloc _ _ _ (by simp; omega), Below.heap_alloc _ _ _ (by simp)]; exact heap_alloc_newX w _
  · rw [Below.heap_alloc _ _ _ (by simp)]; have := heap_alloc_newX (w.alloc (.cells c 40)) (.cells #[.int .u16 0, .int .u16 0, .int .u16 0, .int .u16 0] 45); rwa [World.size_alloc] at this
  · have := heap_alloc_newX ((w.alloc (.cells c 40)).alloc (.cells #[.int .u16 0, .int .u16 0, .int .u16 0, .int .u16 0] 45)) (.cells #[.int .u16 0, .int .u16 0, .int .u16 0, .int .u16 0] 72); rwa [World.size_alloc, World.size_alloc] at this
theorem CoI.cell {w : World} {c : Array Value} {X : List Int} {wr : World} (h : CoI w c X wr) {j : Nat} (hj : j < X.length) : wr.cell? ⟨w.heap.size + 2, j, none⟩ = some (.int .u16 (X[j]?.getD 0)) ∧ wr.frozen? ⟨w.heap.size + 2, j, none⟩ = false := by
  have hx := h.ab
  constructor
  · simp [World.cell?, hx, uvals, hj]
  · simp [World.frozen?, hx]
theorem CoI.set {w : World} {c : Array Value} {X : List Int} {wr : World} (h : CoI w c X wr) (j : Nat) (v : Int) : CoI w c (X.set j v) (wr.setCell ⟨w.heap.size + 2, j, none⟩ (.int .u16 v)) := by
  have oth : ∀ k, k ≠ w.heap.size + 2 → (wr.setCell ⟨w.heap.size + 2, j, none⟩ (.int .u16 v)).heap[k]? = wr.heap[k]? := fun k hk => Below.heap_setCell _ _ _ _ hk
  refine ⟨⟨h.qr.1.setCell (p := ⟨w.heap.size + 2, j, none⟩) (by show w.heap.size ≤ w.heap.size + 2; omega) _, (oth _ (by omega)).trans h.qr.2⟩, (oth _ (by omega)).trans h.rb, ?_⟩
  rw [heap_setCell_same wr _ j _ _ _ h.ab]
  congr 2
  simp [uvals, List.map_set]
def coN (C : Int) (X : List Int) (cv : Int) : Value :=
  if C = 0 then .agg #[.int .u16 (X[0]?.getD 0), .int .u16 (X[0]?.getD 0), .int .u16 (X[0]?.getD 0), .int .u16 cv]
  else if C = 4 then .agg #[.int .u16 (X[0]?.getD 0), .int .u16 (X[0]?.getD 0), .int .u16 (X[0]?.getD 0), .int .u16 (X[1]?.getD 0)]
  else if C = 2 then .agg #[.int .u16 (X[0]?.getD 0), .int .u16 (X[1]?.getD 0), .int .u16 (X[2]?.getD 0), .int .u16 cv]
  else .agg #[.int .u16 (X[0]?.getD 0), .int .u16 (X[1]?.getD 0), .int .u16 (X[2]?.getD 0), .int .u16 (X[3]?.getD 0)]
def coV (C X0 X1 X2 X3 cv : Int) : Value :=
  if C = 0 then .agg #[.int .u16 X0, .int .u16 X0, .int .u16 X0, .int .u16 cv]
  else if C = 4 then .agg #[.int .u16 X0, .int .u16 X0, .int .u16 X0, .int .u16 X1]
  else if C = 2 then .agg #[.int .u16 X0, .int .u16 X1, .int .u16 X2, .int .u16 cv]
  else .agg #[.int .u16 X0, .int .u16 X1, .int .u16 X2, .int .u16 X3]
theorem results_cellX {fn : Func} {p : Tmp} {ty : TypeId} (h : fn.results = #[.cell p ty]) (tmps : Array Value) (P : Program) (w : World) :
    (results fn tmps).run P w = ((asAddr (tmps.getD p undef)).run P w).andThen fun a w₁ => (loadVar ty a).run P w₁ := by
  simp only [results, h]
  simp [Sem.run_bind]
theorem four_set {w wr : World} {a b c d : Int} (hb : Below w.heap.size w wr) : Below w.heap.size w ((((wr.setCell ⟨w.heap.size + 1, 0, none⟩ (.int .u16 a)).setCell ⟨w.heap.size + 1, 1, none⟩ (.int .u16 b)).setCell ⟨w.heap.size + 1, 2, none⟩ (.int .u16 c)).setCell ⟨w.heap.size + 1, 3, none⟩ (.int .u16 d)) :=
  (((hb.setCell (p := ⟨w.heap.size + 1, 0, none⟩) (Nat.le_succ _) _).setCell (p := ⟨w.heap.size + 1, 1, none⟩) (Nat.le_succ _) _).setCell (p := ⟨w.heap.size + 1, 2, none⟩) (Nat.le_succ _) _).setCell (p := ⟨w.heap.size + 1, 3, none⟩) (Nat.le_succ _) _
theorem CoI.rcells {w : World} {c : Array Value} {X : List Int} {wr : World} (h : CoI w c X wr) : wr.cell? ⟨w.heap.size + 1, 0, none⟩ = some (.int .u16 0) ∧ wr.cell? ⟨w.heap.size + 1, 1, none⟩ = some (.int .u16 0) ∧ wr.cell? ⟨w.heap.size + 1, 2, none⟩ = some (.int .u16 0) ∧ wr.cell? ⟨w.heap.size + 1, 3, none⟩ = some (.int .u16 0) ∧ ∀ j, wr.frozen? ⟨w.heap.size + 1, j, none⟩ = false := by
  have hx := h.rb
  refine ⟨?_, ?_, ?_, ?_, fun j => ?_⟩ <;> simp [World.cell?, World.frozen?, hx]
set_option maxHeartbeats 6400000 in
theorem colour_any (r : Rs) (A K S : List Int) (la : Option Addr) (ln lc d : Nat) (l : List Int) (w : World) (hm : RsM w r A K S) (hl : IRow w la l) (hln : l.length = ln) (hC : r.C = 0 ∨ r.C = 2 ∨ r.C = 4 ∨ r.C = 6) (hd : isDp d) (hD : r.D = d) (hlb : allB (2 ^ d) l) (hln4 : ln ≤ 4) :
    Calls Tryd.prog 34 #[r.V, .slice la ln lc] w fun e w' => e = .returned (coN r.C (arrL d l ln) (cvN K l)) ∧ Below w.heap.size w w' := by
  have HS : Hid (CoI w r.c9 [0, 0, 0, 0] _) := CoI.start w r.c9
  have HL : Hid (IRow w la l ∧ l.length = ln ∧ allB (2 ^ d) l ∧ isDp d) := ⟨hl, hln, hlb, hd⟩
  have HCV : Hid (∀ w1, Below w.heap.size w w1 → Calls Tryd.prog 44 #[r.V, .slice la ln lc] w1 fun e w' => e = .returned (.int .u16 (cvN K l)) ∧ Below w1.heap.size w1 w') := fun w1 h => cover_any r A K S la ln lc l w1 (hm.old h) (hl.old h) hln
  generalize cvN K l = CV at *
  obtain ⟨X0, hX0⟩ : ∃ X0, (arrL d l ln)[0]?.getD 0 = X0 := ⟨_, rfl⟩
  obtain ⟨X1, hX1⟩ : ∃ X1, (arrL d l ln)[1]?.getD 0 = X1 := ⟨_, rfl⟩
  obtain ⟨X2, hX2⟩ : ∃ X2, (arrL d l ln)[2]?.getD 0 = X2 := ⟨_, rfl⟩
  obtain ⟨X3, hX3⟩ : ∃ X3, (arrL d l ln)[3]?.getD 0 = X3 := ⟨_, rfl⟩
  have ec : coN r.C (arrL d l ln) CV = coV r.C X0 X1 X2 X3 CV := by unfold coN coV; rw [hX0, hX1, hX2, hX3]
  rw [ec]
  have HXX : Hid ((arrL d l ln)[0]?.getD 0 = X0 ∧ (arrL d l ln)[1]?.getD 0 = X1 ∧ (arrL d l ln)[2]?.getD 0 = X2 ∧ (arrL d l ln)[3]?.getD 0 = X3) := ⟨hX0, hX1, hX2, hX3⟩
  clear hm hl hln hd hlb ec hX0 hX1 hX2 hX3
  obtain ⟨W, H, C, D, L, ta, tn, tc, aa, an, ac, ca, cn, cc, sa, sn, sc⟩ := r
  unfold Rs.V at *
  unfold Rs.c9 at *
  simp only at *
  subst hD
  have q3 : (C == 3) = false := by rcases hC with h | h | h | h <;> subst h <;> decide
  go_enter Tryd.func34, Tryd.ntmps34
  go_wp2
  go_loopw [6, 7, 19] (fun _ _ v wr => ∃ j : Nat, j ≤ ln ∧ v = .int .i64 j ∧ Hid (CoI w #[.int .i64 W, .int .i64 H, .int .i64 C, .int .i64 d, .bool L, .slice ta tn tc, .slice aa an ac, .slice ca cn cc, .slice sa sn sc] (arrL d l j) wr)) (fun _ _ v _ => ln - (intOf v).toNat)
  case atStart => exact ⟨0, Nat.zero_le _, rfl, HS.out⟩
  case round =>
    clear HS
    obtain ⟨j, hj, rfl, HI⟩ := hrel
    obtain ⟨c0, c1, c2, c3, c4, c5, c6, c7, c8⟩ := nine_cells HI.out.qr.2
    by_cases hlt : j < ln
    · obtain ⟨b, off, rfl, hc⟩ := (HL.out.1.old HI.out.qr.1).at j (by rw [HL.out.2.1]; exact hlt)
      have hz : 0 ≤ l[j]?.getD 0 ∧ l[j]?.getD 0 < 2 ^ d := by
        have hjl : j < l.length := by rw [HL.out.2.1]; exact hlt
        rw [List.getElem?_eq_getElem hjl]; exact HL.out.2.2.1 _ (List.getElem_mem hjl)
      have CLv := level_any (l[j]?.getD 0) d wr HL.out.2.2.2 hz.1 hz.2
      have HX : Hid (CoI w #[.int .i64 W, .int .i64 H, .int .i64 C, .int .i64 d, .bool L, .slice ta tn tc, .slice aa an ac, .slice ca cn cc, .slice sa sn sc] (arrL d l (j + 1)) (wr.setCell ⟨w.heap.size + 2, j, none⟩ (.int .u16 (lvN d (l[j]?.getD 0))))) := by
        have := HI.out.set j (lvN d (l[j]?.getD 0))
        rw [arrL_step (by rw [HL.out.2.1]; exact hlt) (by omega)] at this
        exact this
      obtain ⟨k1, f1⟩ := HI.out.cell (j := j) (by rw [arrL_len (by rw [HL.out.2.1]; omega) (by omega)]; omega)
      generalize lvN d (l[j]?.getD 0) = lv at *
      generalize l[j]?.getD 0 = z at *
      generalize (arrL d l j)[j]?.getD 0 = y at *
      clear HI hz
      have hj4 : j < 4 := by omega
      go_wp2_with fail
      refine CLv.mono ?_
      clear CLv
      rintro e w1 ⟨rfl, rfl⟩
      go_wp2
      go_roundw
      case rel => exact ⟨j + 1, hlt, by go_num, HX⟩
      case measure => simp [intOf]; omega
    · obtain rfl : j = ln := by omega
      have hlen : (arrL d l j).length = 4 := arrL_len (by rw [HL.out.2.1]; exact Nat.le_refl _) hln4
      obtain ⟨x0, -⟩ := HI.out.cell (j := 0) (by omega)
      obtain ⟨x1, -⟩ := HI.out.cell (j := 1) (by omega)
      obtain ⟨x2, -⟩ := HI.out.cell (j := 2) (by omega)
      obtain ⟨x3, -⟩ := HI.out.cell (j := 3) (by omega)
      rw [HXX.out.1] at x0
      rw [HXX.out.2.1] at x1
      rw [HXX.out.2.2.1] at x2
      rw [HXX.out.2.2.2] at x3
      rcases hC with rfl | rfl | rfl | rfl
      · have HId : Hid (CoI w #[.int .i64 W, .int .i64 H, .int .i64 0, .int .i64 d, .bool L, .slice ta tn tc, .slice aa an ac, .slice ca cn cc, .slice sa sn sc] (arrL d l j) wr.drew) := HI.out.old ⟨rfl, rfl, rfl, Nat.le_refl _, fun _ _ => rfl⟩
        have HCd : Hid (Calls Tryd.prog 44 #[.agg #[.int .i64 W, .int .i64 H, .int .i64 0, .int .i64 d, .bool L, .slice ta tn tc, .slice aa an ac, .slice ca cn cc, .slice sa sn sc], .slice la j lc] wr.drew fun e w2 => e = .returned (.int .u16 CV) ∧ Hid (Below w.heap.size w w2) ∧ (w2.cell? ⟨w.heap.size + 2, 0, none⟩ = some (.int .u16 X0) ∧ w2.cell? ⟨w.heap.size + 2, 1, none⟩ = some (.int .u16 X1) ∧ w2.cell? ⟨w.heap.size + 2, 2, none⟩ = some (.int .u16 X2)) ∧ (w2.cell? ⟨w.heap.size, 0, none⟩ = some (.int .i64 W) ∧ w2.cell? ⟨w.heap.size, 1, none⟩ = some (.int .i64 H) ∧ w2.cell? ⟨w.heap.size, 2, none⟩ = some (.int .i64 0) ∧ w2.cell? ⟨w.heap.size, 3, none⟩ = some (.int .i64 d) ∧ w2.cell? ⟨w.heap.size, 4, none⟩ = some (.bool L) ∧ w2.cell? ⟨w.heap.size, 5, none⟩ = some (.slice ta tn tc) ∧ w2.cell? ⟨w.heap.size, 6, none⟩ = some (.slice aa an ac) ∧ w2.cell? ⟨w.heap.size, 7, none⟩ = some (.slice ca cn cc) ∧ w2.cell? ⟨w.heap.size, 8, none⟩ = some (.slice sa sn sc)) ∧ (w2.cell? ⟨w.heap.size + 1, 0, none⟩ = some (.int .u16 0) ∧ w2.cell? ⟨w.heap.size + 1, 1, none⟩ = some (.int .u16 0) ∧ w2.cell? ⟨w.heap.size + 1, 2, none⟩ = some (.int .u16 0) ∧ w2.cell? ⟨w.heap.size + 1, 3, none⟩ = some (.int .u16 0) ∧ (∀ q, w2.frozen? ⟨w.heap.size + 1, q, none⟩ = false))) := by
          refine Calls.mono (HCV.out wr.drew HId.out.qr.1) ?_
          rintro e w2 ⟨rfl, hb⟩
          have h2 := HId.out.old hb
          exact ⟨rfl, h2.qr.1, ⟨by rw [← HXX.out.1]; exact (h2.cell (by omega)).1, by rw [← HXX.out.2.1]; exact (h2.cell (by omega)).1, by rw [← HXX.out.2.2.1]; exact (h2.cell (by omega)).1⟩, nine_cells h2.qr.2, h2.rcells⟩
        have y0 : wr.drew.cell? ⟨w.heap.size + 2, 0, none⟩ = _ := x0
        have y1 : wr.drew.cell? ⟨w.heap.size + 2, 1, none⟩ = _ := x1
        have y2 : wr.drew.cell? ⟨w.heap.size + 2, 2, none⟩ = _ := x2
        obtain ⟨b0, b1, b2, b3, b4, b5, b6, b7, b8⟩ := nine_cells HId.out.qr.2
        clear HI HId HCV
        clear HXX
        go_upto_region 11 with fail
        go_region_held3 (fun u => u.cell? ⟨w.heap.size + 2, 0, none⟩ = some (.int .u16 X0) ∧ u.cell? ⟨w.heap.size + 2, 1, none⟩ = some (.int .u16 X1) ∧ u.cell? ⟨w.heap.size + 2, 2, none⟩ = some (.int .u16 X2) ∧ u.cell? ⟨w.heap.size, 0, none⟩ = some (.int .i64 W) ∧ u.cell? ⟨w.heap.size, 1, none⟩ = some (.int .i64 H) ∧ u.cell? ⟨w.heap.size, 2, none⟩ = some (.int .i64 0) ∧ u.cell? ⟨w.heap.size, 3, none⟩ = some (.int .i64 d) ∧ u.cell? ⟨w.heap.size, 4, none⟩ = some (.bool L) ∧ u.cell? ⟨w.heap.size, 5, none⟩ = some (.slice ta tn tc) ∧ u.cell? ⟨w.heap.size, 6, none⟩ = some (.slice aa an ac) ∧ u.cell? ⟨w.heap.size, 7, none⟩ = some (.slice ca cn cc) ∧ u.cell? ⟨w.heap.size, 8, none⟩ = some (.slice sa sn sc))
          (first | (with_reducible exact ⟨by with_reducible assumption, by with_reducible assumption, by with_reducible assumption, by with_reducible assumption, by with_reducible assumption, by with_reducible assumption, by with_reducible assumption, by with_reducible assumption, by with_reducible assumption, by with_reducible assumption, by with_reducible assumption, by with_reducible assumption⟩) | go_keep) (first
          | (go_at_call 44; refine Calls.mono HCd.out ?_; rintro e w2 ⟨rfl, HB2, ⟨z0, z1, z2⟩, ⟨d0, d1, d2, d3, d4, d5, d6, d7, d8⟩, r0, r1, r2, r3, rf⟩)
          | fail)
        clear HCd x0 x1 x2 x3 y0 y1 y2 c0 c1 c2 c3 c4 c5 c6 c7 c8 b0 b1 b2 b3 b4 b5 b6 b7 b8 z0 z1 z2 d0 d1 d2 d3 d4 d5 d6 d7 d8
        go_wp2
        refine bodyPost_ret (v := .agg #[.int .u16 X0, .int .u16 X0, .int .u16 X0, .int .u16 CV]) ?_ rfl ⟨rfl, four_set HB2.out⟩
        rw [results_cellX rfl]
        go_simp
      · have HId : Hid (CoI w #[.int .i64 W, .int .i64 H, .int .i64 2, .int .i64 d, .bool L, .slice ta tn tc, .slice aa an ac, .slice ca cn cc, .slice sa sn sc] (arrL d l j) wr.drew) := HI.out.old ⟨rfl, rfl, rfl, Nat.le_refl _, fun _ _ => rfl⟩
        have HCd : Hid (Calls Tryd.prog 44 #[.agg #[.int .i64 W, .int .i64 H, .int .i64 2, .int .i64 d, .bool L, .slice ta tn tc, .slice aa an ac, .slice ca cn cc, .slice sa sn sc], .slice la j lc] wr.drew fun e w2 => e = .returned (.int .u16 CV) ∧ Hid (Below w.heap.size w w2) ∧ (w2.cell? ⟨w.heap.size + 2, 0, none⟩ = some (.int .u16 X0) ∧ w2.cell? ⟨w.heap.size + 2, 1, none⟩ = some (.int .u16 X1) ∧ w2.cell? ⟨w.heap.size + 2, 2, none⟩ = some (.int .u16 X2)) ∧ (w2.cell? ⟨w.heap.size, 0, none⟩ = some (.int .i64 W) ∧ w2.cell? ⟨w.heap.size, 1, none⟩ = some (.int .i64 H) ∧ w2.cell? ⟨w.heap.size, 2, none⟩ = some (.int .i64 2) ∧ w2.cell? ⟨w.heap.size, 3, none⟩ = some (.int .i64 d) ∧ w2.cell? ⟨w.heap.size, 4, none⟩ = some (.bool L) ∧ w2.cell? ⟨w.heap.size, 5, none⟩ = some (.slice ta tn tc) ∧ w2.cell? ⟨w.heap.size, 6, none⟩ = some (.slice aa an ac) ∧ w2.cell? ⟨w.heap.size, 7, none⟩ = some (.slice ca cn cc) ∧ w2.cell? ⟨w.heap.size, 8, none⟩ = some (.slice sa sn sc)) ∧ (w2.cell? ⟨w.heap.size + 1, 0, none⟩ = some (.int .u16 0) ∧ w2.cell? ⟨w.heap.size + 1, 1, none⟩ = some (.int .u16 0) ∧ w2.cell? ⟨w.heap.size + 1, 2, none⟩ = some (.int .u16 0) ∧ w2.cell? ⟨w.heap.size + 1, 3, none⟩ = some (.int .u16 0) ∧ (∀ q, w2.frozen? ⟨w.heap.size + 1, q, none⟩ = false))) := by
          refine Calls.mono (HCV.out wr.drew HId.out.qr.1) ?_
          rintro e w2 ⟨rfl, hb⟩
          have h2 := HId.out.old hb
          exact ⟨rfl, h2.qr.1, ⟨by rw [← HXX.out.1]; exact (h2.cell (by omega)).1, by rw [← HXX.out.2.1]; exact (h2.cell (by omega)).1, by rw [← HXX.out.2.2.1]; exact (h2.cell (by omega)).1⟩, nine_cells h2.qr.2, h2.rcells⟩
        have y0 : wr.drew.cell? ⟨w.heap.size + 2, 0, none⟩ = _ := x0
        have y1 : wr.drew.cell? ⟨w.heap.size + 2, 1, none⟩ = _ := x1
        have y2 : wr.drew.cell? ⟨w.heap.size + 2, 2, none⟩ = _ := x2
        obtain ⟨b0, b1, b2, b3, b4, b5, b6, b7, b8⟩ := nine_cells HId.out.qr.2
        clear HI HId HCV
        clear HXX
        go_upto_region 15 with fail
        go_region_held3 (fun u => u.cell? ⟨w.heap.size + 2, 0, none⟩ = some (.int .u16 X0) ∧ u.cell? ⟨w.heap.size + 2, 1, none⟩ = some (.int .u16 X1) ∧ u.cell? ⟨w.heap.size + 2, 2, none⟩ = some (.int .u16 X2) ∧ u.cell? ⟨w.heap.size, 0, none⟩ = some (.int .i64 W) ∧ u.cell? ⟨w.heap.size, 1, none⟩ = some (.int .i64 H) ∧ u.cell? ⟨w.heap.size, 2, none⟩ = some (.int .i64 2) ∧ u.cell? ⟨w.heap.size, 3, none⟩ = some (.int .i64 d) ∧ u.cell? ⟨w.heap.size, 4, none⟩ = some (.bool L) ∧ u.cell? ⟨w.heap.size, 5, none⟩ = some (.slice ta tn tc) ∧ u.cell? ⟨w.heap.size, 6, none⟩ = some (.slice aa an ac) ∧ u.cell? ⟨w.heap.size, 7, none⟩ = some (.slice ca cn cc) ∧ u.cell? ⟨w.heap.size, 8, none⟩ = some (.slice sa sn sc))
          (first | (with_reducible exact ⟨by with_reducible assumption, by with_reducible assumption, by with_reducible assumption, by with_reducible assumption, by with_reducible assumption, by with_reducible assumption, by with_reducible assumption, by with_reducible assumption, by with_reducible assumption, by with_reducible assumption, by with_reducible assumption, by with_reducible assumption⟩) | go_keep) (first
          | (go_at_call 44; refine Calls.mono HCd.out ?_; rintro e w2 ⟨rfl, HB2, ⟨z0, z1, z2⟩, ⟨d0, d1, d2, d3, d4, d5, d6, d7, d8⟩, r0, r1, r2, r3, rf⟩)
          | fail)
        clear HCd x0 x1 x2 x3 y0 y1 y2 c0 c1 c2 c3 c4 c5 c6 c7 c8 b0 b1 b2 b3 b4 b5 b6 b7 b8 z0 z1 z2 d0 d1 d2 d3 d4 d5 d6 d7 d8
        go_wp2
        refine bodyPost_ret (v := .agg #[.int .u16 X0, .int .u16 X1, .int .u16 X2, .int .u16 CV]) ?_ rfl ⟨rfl, four_set HB2.out⟩
        rw [results_cellX rfl]
        go_simp
      · obtain ⟨r0, r1, r2, r3, rf⟩ := HI.out.rcells
        have HB : Hid (Below w.heap.size w wr) := HI.out.qr.1
        clear HI HCV
        go_wp2
        refine bodyPost_ret (v := .agg #[.int .u16 X0, .int .u16 X0, .int .u16 X0, .int .u16 X1]) ?_ rfl ⟨rfl, four_set HB.out⟩
        rw [results_cellX rfl]
        go_simp
      · obtain ⟨r0, r1, r2, r3, rf⟩ := HI.out.rcells
        have HB : Hid (Below w.heap.size w wr) := HI.out.qr.1
        clear HI HCV
        go_wp2
        refine bodyPost_ret (v := .agg #[.int .u16 X0, .int .u16 X1, .int .u16 X2, .int .u16 X3]) ?_ rfl ⟨rfl, four_set HB.out⟩
        rw [results_cellX rfl]
        go_simp
end Go.Proofs.YtbjoalgglmalnaaDoor
