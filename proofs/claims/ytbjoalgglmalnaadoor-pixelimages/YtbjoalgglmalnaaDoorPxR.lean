/- A colour of the table: colour and Of of kind 3. -/
import Derived.Test.YtbjoalgglmalnaaDoorPxQ
namespace Go.Proofs.YtbjoalgglmalnaaDoor
open Go.RowKit
/-- The table of colours: rows of bytes, three a colour. -/
def TiM (w : World) (r : Rs) (T : List Int) : Prop := Row w r.ta T ∧ Bytes T ∧ T.length = 3 * r.tn
theorem TiM.old {w w' : World} {r : Rs} {T : List Int} (h : TiM w r T) (hb : Below w.heap.size w w') : TiM w' r T := ⟨h.1.old hb, h.2⟩
theorem TiM.at {w : World} {r : Rs} {T : List Int} (h : TiM w r T) {i : Nat} (hi : i < r.tn) : ∃ b off, r.ta = some ⟨b, off, none⟩ ∧ w.cell? ⟨b, off + i * 3, none⟩ = some (.int .u8 (T[3 * i]?.getD 0)) ∧ w.cell? ⟨b, off + i * 3 + 1, none⟩ = some (.int .u8 (T[3 * i + 1]?.getD 0)) ∧ w.cell? ⟨b, off + i * 3 + 2, none⟩ = some (.int .u8 (T[3 * i + 2]?.getD 0)) := by
  have hl := h.2.2
  rcases h.1 with h0 | ⟨b, off, e, hc⟩
  · subst h0; simp at hl; omega
  · refine ⟨b, off, e, ?_, ?_, ?_⟩
    · rw [show off + i * 3 = off + 3 * i by omega]; exact hc _ (by omega)
    · rw [show off + i * 3 + 1 = off + (3 * i + 1) by omega]; exact hc _ (by omega)
    · rw [show off + i * 3 + 2 = off + (3 * i + 2) by omega]; exact hc _ (by omega)
theorem bytes_atX {T : List Int} (h : Bytes T) (j : Nat) : 0 ≤ T[j]?.getD 0 ∧ T[j]?.getD 0 < 256 := by
  by_cases hj : j < T.length
  · rw [List.getElem?_eq_getElem hj]; exact h _ (List.getElem_mem hj)
  · rw [List.getElem?_eq_none (by omega)]; exact ⟨by decide, by decide⟩
def ctV (T A : List Int) (i : Nat) : Value := .agg #[.int .u16 (T[3 * i]?.getD 0 * 257), .int .u16 (T[3 * i + 1]?.getD 0 * 257), .int .u16 (T[3 * i + 2]?.getD 0 * 257), .int .u16 (alN A i)]
theorem table_any (r : Rs) (A K S T : List Int) (w : World) (hm : RsM w r A K S) (ht : TiM w r T) (i : Nat) (hi : i < r.tn) (hA : allB 256 A) :
    Calls Tryd.prog 42 #[r.V, .int .i64 i] w fun e w' => e = .returned (ctV T A i) ∧ Below w.heap.size w w' := by
  obtain ⟨b, off, e, t0, t1, t2⟩ := ht.at hi
  exact ofTable_any r A K S w hm b off i e hi _ _ _ (bytes_atX ht.2.1 _) (bytes_atX ht.2.1 _) (bytes_atX ht.2.1 _) t0 t1 t2 hA
set_option maxHeartbeats 6400000 in
theorem colour3_any (r : Rs) (A K S T : List Int) (la : Option Addr) (lc i : Nat) (w : World) (hm : RsM w r A K S) (ht : TiM w r T) (hl : IRow w la [(i : Int)]) (hC : r.C = 3) (hi : i < r.tn) (hA : allB 256 A) :
    Calls Tryd.prog 34 #[r.V, .slice la 1 lc] w fun e w' => e = .returned (ctV T A i) ∧ Below w.heap.size w w' := by
  have HO : Hid (OfI w r.c9 _) := OfI.start w r.c9
  have HT : Hid (∀ w1, Below w.heap.size w w1 → Calls Tryd.prog 42 #[r.V, .int .i64 i] w1 fun e w' => e = .returned (ctV T A i) ∧ Below w1.heap.size w1 w') := fun w1 h => table_any r A K S T w1 (hm.old h) (ht.old h) i hi hA
  obtain ⟨x0, hx0⟩ : ∃ x0, T[3 * i]?.getD 0 * 257 = x0 := ⟨_, rfl⟩
  obtain ⟨x1, hx1⟩ : ∃ x1, T[3 * i + 1]?.getD 0 * 257 = x1 := ⟨_, rfl⟩
  obtain ⟨x2, hx2⟩ : ∃ x2, T[3 * i + 2]?.getD 0 * 257 = x2 := ⟨_, rfl⟩
  obtain ⟨x3, hx3⟩ : ∃ x3, alN A i = x3 := ⟨_, rfl⟩
  have ec : ctV T A i = .agg #[.int .u16 x0, .int .u16 x1, .int .u16 x2, .int .u16 x3] := by unfold ctV; rw [hx0, hx1, hx2, hx3]
  rw [ec] at HT ⊢
  obtain ⟨b, off, rfl, hc⟩ := hl.at 0 (Nat.lt_succ_self 0)
  have hbl : b < w.heap.size := cell_lt hc
  have hc0 : w.cell? ⟨b, off + 0, none⟩ = some (.int .i64 i) := hc
  clear hx0 hx1 hx2 hx3 ec hm ht hl hA hi hc
  obtain ⟨W, H, C, D, L, ta, tn, tc, aa, an, ac, ca, cn, cc, sa, sn, sc⟩ := r
  unfold Rs.V at *
  unfold Rs.c9 at *
  simp only at *
  subst hC
  generalize hG : ((w.alloc (.cells #[.int .i64 W, .int .i64 H, .int .i64 3, .int .i64 D, .bool L, .slice ta tn tc, .slice aa an ac, .slice ca cn cc, .slice sa sn sc] 40)).alloc (.cells #[.int .u16 0, .int .u16 0, .int .u16 0, .int .u16 0] 45)) = w1 at HO
  have HO1 : Hid (OfI w #[.int .i64 W, .int .i64 H, .int .i64 3, .int .i64 D, .bool L, .slice ta tn tc, .slice aa an ac, .slice ca cn cc, .slice sa sn sc] w1.drew) := HO.out.old ⟨rfl, rfl, rfl, Nat.le_refl _, fun _ _ => rfl⟩
  have hs0 : w1.cell? ⟨b, off, none⟩ = some (.int .i64 i) := (World.cell?_of_block (a := ⟨b, off, none⟩) (HO.out.qr.1.block b hbl)).trans hc0
  have hs1 : w1.drew.cell? ⟨b, off, none⟩ = some (.int .i64 i) := hs0
  obtain ⟨c0, c1, c2, c3, c4, c5, c6, c7, c8⟩ := nine_cells HO.out.qr.2
  obtain ⟨b0, b1, b2, b3, b4, b5, b6, b7, b8⟩ := nine_cells HO1.out.qr.2
  have HCd : Hid (Calls Tryd.prog 42 #[.agg #[.int .i64 W, .int .i64 H, .int .i64 3, .int .i64 D, .bool L, .slice ta tn tc, .slice aa an ac, .slice ca cn cc, .slice sa sn sc], .int .i64 i] w1.drew fun e w2 => e = .returned (.agg #[.int .u16 x0, .int .u16 x1, .int .u16 x2, .int .u16 x3]) ∧ Hid (OfI w #[.int .i64 W, .int .i64 H, .int .i64 3, .int .i64 D, .bool L, .slice ta tn tc, .slice aa an ac, .slice ca cn cc, .slice sa sn sc] w2) ∧ w2.cell? ⟨b, off, none⟩ = some (.int .i64 i)) := by
    refine Calls.mono (HT.out w1.drew HO1.out.qr.1) ?_
    rintro e w2 ⟨rfl, hb2⟩
    exact ⟨rfl, HO1.out.old hb2, (World.cell?_of_block (a := ⟨b, off, none⟩) (((HO1.out.qr.1).trans (hb2.mono HO1.out.qr.1.size)).block b hbl)).trans hc0⟩
  have hbn : b ≠ w.heap.size + 1 := by omega
  have hbn2 : w.heap.size + 1 ≠ b := by omega
  clear HO HO1 HT hc0
  go_enter Tryd.func34, Tryd.ntmps34
  go_upto_region 2 with fail
  try rw [hG]
  go_region_held3 (fun u => u.cell? ⟨b, off, none⟩ = some (.int .i64 i) ∧ u.cell? ⟨w.heap.size, 0, none⟩ = some (.int .i64 W) ∧ u.cell? ⟨w.heap.size, 1, none⟩ = some (.int .i64 H) ∧ u.cell? ⟨w.heap.size, 2, none⟩ = some (.int .i64 3) ∧ u.cell? ⟨w.heap.size, 3, none⟩ = some (.int .i64 D) ∧ u.cell? ⟨w.heap.size, 4, none⟩ = some (.bool L) ∧ u.cell? ⟨w.heap.size, 5, none⟩ = some (.slice ta tn tc) ∧ u.cell? ⟨w.heap.size, 6, none⟩ = some (.slice aa an ac) ∧ u.cell? ⟨w.heap.size, 7, none⟩ = some (.slice ca cn cc) ∧ u.cell? ⟨w.heap.size, 8, none⟩ = some (.slice sa sn sc))
    (first | (with_reducible exact ⟨by with_reducible assumption, by with_reducible assumption, by with_reducible assumption, by with_reducible assumption, by with_reducible assumption, by with_reducible assumption, by with_reducible assumption, by with_reducible assumption, by with_reducible assumption, by with_reducible assumption⟩) | go_keep) (first
    | (go_at_call 42; refine Calls.mono HCd.out ?_; rintro e w2 ⟨rfl, HO2, s2⟩; obtain ⟨d0, d1, d2, d3, d4, d5, d6, d7, d8⟩ := nine_cells HO2.out.qr.2; obtain ⟨r0, r1, r2, r3, rf⟩ := HO2.out.rcells)
    | fail)
  go_wp2
  refine bodyPost_ret (v := .agg #[.int .u16 x0, .int .u16 x1, .int .u16 x2, .int .u16 x3]) ?_ rfl ⟨rfl, four_set HO2.out.qr.1⟩
  rw [results_cellX rfl]
  go_simp
set_option maxHeartbeats 1600000 in
theorem of_good3 (r : Rs) (A K S T : List Int) (la : Option Addr) (lc : Nat) (l : List Int) (w : World) (ht : Tab w) (hm : RsM w r A K S) (hti : TiM w r T) (hl : IRow w la l) (hC : r.C = 3) (hk : ckE r.W r.H r.C r.D r.tn A K = 0) (hs : smE r.C r.D r.tn l 1 = 0) :
    Calls Tryd.prog 19 #[r.V, .slice la l.length lc] w fun e w' => e = .returned (.tuple #[ctV T A (l[0]?.getD 0).toNat, .int .i64 0]) ∧ Below w.heap.size w w' := by
  have HO : Hid (OfI w r.c9 _) := OfI.start w r.c9
  obtain ⟨f1, f2, f3⟩ := may_facts (ckE_may hk)
  have hq : (l.length : Int) = 1 * spN r.C ∧ allB (2 ^ r.D.toNat) l := by
    by_cases q : (l.length : Int) = 1 * spN r.C ∧ allB (2 ^ r.D.toNat) l
    · exact q
    · unfold smE at hs; rw [if_neg q] at hs; omega
  have hi2 : allB r.tn l := by
    by_cases q : allB r.tn l
    · exact q
    · unfold smE at hs; rw [if_pos hq, if_pos ⟨hC, q⟩] at hs; omega
  have hA : allB 256 A := by
    have hmh : mhN r.C r.D r.tn A K := by
      by_cases q : mhN r.C r.D r.tn A K
      · exact q
      · unfold ckE at hk; rw [if_pos (by have := ckE_may (W := r.W) (H := r.H) (C := r.C) (D := r.D) (tn := r.tn) (A := A) (K := K) hk; exact this), if_neg q] at hk; omega
    unfold mhN at hmh
    rw [if_pos hC] at hmh
    exact hmh.2.2.2.1
  have hl1 : l.length = 1 := by have := hq.1; rw [hC] at this; have h2 : spN 3 = 1 := rfl; omega
  obtain ⟨v, rfl⟩ : ∃ v, l = [v] := by
    match l, hl1 with
    | [v], _ => exact ⟨v, rfl⟩
  obtain ⟨hv0, hv1⟩ := hi2 v (by simp)
  obtain ⟨i, rfl⟩ := Int.eq_ofNat_of_zero_le hv0
  have HK : Hid (∀ w1, Below w.heap.size w w1 → Calls Tryd.prog 29 #[r.V] w1 fun e w' => e = .returned (.int .i64 0) ∧ Below w1.heap.size w1 w') := fun w1 h => by
    have := checkKind_any r A K S w1 (ht.old h) (hm.old h); rwa [hk] at this
  have HS : Hid (∀ w1, Below w.heap.size w w1 → Calls Tryd.prog 30 #[r.V, .slice la 1 lc, .int .i64 1] w1 fun e w' => e = .returned (.int .i64 0) ∧ Below w1.heap.size w1 w') := fun w1 h => by
    have := checkSamples_any r la 1 lc [(i : Int)] 1 w1 (ht.old h) (hl.old h) rfl (by omega) f1 ⟨by omega, f3.2⟩ (by omega) hm.bd.2.2.2; rwa [hs] at this
  have HL : Hid (∀ w1, Below w.heap.size w w1 → Calls Tryd.prog 34 #[r.V, .slice la 1 lc] w1 fun e w' => e = .returned (ctV T A i) ∧ Below w1.heap.size w1 w') := fun w1 h => colour3_any r A K S T la lc i w1 (hm.old h) (hti.old h) (hl.old h) hC (by omega) hA
  show Calls Tryd.prog 19 #[r.V, .slice la 1 lc] w fun e w' => e = .returned (.tuple #[ctV T A i, .int .i64 0]) ∧ Below w.heap.size w w'
  obtain ⟨x0, hx0⟩ : ∃ x0, T[3 * i]?.getD 0 * 257 = x0 := ⟨_, rfl⟩
  obtain ⟨x1, hx1⟩ : ∃ x1, T[3 * i + 1]?.getD 0 * 257 = x1 := ⟨_, rfl⟩
  obtain ⟨x2, hx2⟩ : ∃ x2, T[3 * i + 2]?.getD 0 * 257 = x2 := ⟨_, rfl⟩
  obtain ⟨x3, hx3⟩ : ∃ x3, alN A i = x3 := ⟨_, rfl⟩
  have ec : ctV T A i = .agg #[.int .u16 x0, .int .u16 x1, .int .u16 x2, .int .u16 x3] := by unfold ctV; rw [hx0, hx1, hx2, hx3]
  rw [ec] at HL ⊢
  clear ht hm hti hl hC hk hs f1 f2 f3 hq hi2 hA hl1 hv0 hv1 hx0 hx1 hx2 hx3 ec
  obtain ⟨W, H, C, D, L, ta, tn, tc, aa, an, ac, ca, cn, cc, sa, sn, sc⟩ := r
  unfold Rs.V at *
  unfold Rs.c9 at *
  simp only at *
  have CK := HK.out _ HO.out.qr.1
  go_enter Tryd.func19, Tryd.ntmps19
  go_wp2_with fail
  refine CK.mono ?_
  clear CK HK
  rintro e w1 ⟨rfl, hb1⟩
  have HO1 : Hid (OfI w _ w1) := HO.out.old hb1
  obtain ⟨c0, c1, c2, c3, c4, c5, c6, c7, c8⟩ := nine_cells HO1.out.qr.2
  have CS := HS.out w1 HO1.out.qr.1
  clear hb1 HO HS
  go_wp2_with fail
  refine CS.mono ?_
  clear CS
  rintro e w2 ⟨rfl, hb2⟩
  have HO2 : Hid (OfI w _ w2) := HO1.out.old hb2
  clear hb2 HO1 c0 c1 c2 c3 c4 c5 c6 c7 c8
  obtain ⟨c0, c1, c2, c3, c4, c5, c6, c7, c8⟩ := nine_cells HO2.out.qr.2
  have CL := HL.out w2 HO2.out.qr.1
  clear HL
  go_wp2_with fail
  refine CL.mono ?_
  clear CL
  rintro e w3 ⟨rfl, hb3⟩
  obtain ⟨r0, r1, r2, r3, rf⟩ := (HO2.out.old hb3).rcells
  have HB : Hid (Below w.heap.size w w3) := (HO2.out.old hb3).qr.1
  clear hb3 HO2 c0 c1 c2 c3 c4 c5 c6 c7 c8
  go_wp2
  refine bodyPost_ret (v := .tuple #[.agg #[.int .u16 x0, .int .u16 x1, .int .u16 x2, .int .u16 x3], .int .i64 0]) ?_ rfl ⟨rfl, four_set HB.out⟩
  rw [results_cellP rfl]
  go_simp
end Go.Proofs.YtbjoalgglmalnaaDoor
