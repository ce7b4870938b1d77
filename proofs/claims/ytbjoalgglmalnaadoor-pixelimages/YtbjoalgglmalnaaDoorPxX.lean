/- The document's Of, of right samples (kinds 0, 2, 4 and 6). -/
import Derived.Test.YtbjoalgglmalnaaDoorPxU
import Derived.Test.YtbjoalgglmalnaaDoorPxT
import Derived.Test.YtbjoalgglmalnaaDoorPxV
namespace Go.Proofs.YtbjoalgglmalnaaDoor
open Go.RowKit
set_option maxHeartbeats 6400000 in
theorem rof_0_same (r : Rs) (A K S : List Int) (la : Option Addr) (lc d : Nat) (v0 : Int) (w : World) (hm : RsM w r A K S) (hl : IRow w la [v0]) (hC : r.C = 0) (hD : r.D = d) (hd : isDp d) (hk : ckE r.W r.H r.C r.D r.tn A K = 0) (hs : smE r.C r.D r.tn [v0] 1 = 0) (hv0 : 0 ≤ v0 ∧ v0 < 2 ^ d) (hK : r.cn ≠ 0) (hKl : K = [v0]) :
    Calls Tryd.prog 20 #[r.V, .slice la 1 lc] w fun e w' => e = .returned (.tuple #[.agg #[.int .u16 (lvN d v0), .int .u16 (lvN d v0), .int .u16 (lvN d v0), .int .u16 0], .int .i64 0]) ∧ Below w.heap.size w w' := by
  have HO : Hid (OfI w r.c9 _) := OfI.start w r.c9
  obtain ⟨f1, f2, f3⟩ := may_facts (ckE_may hk)
  have CK := tables_any r A K S _ (hm.old HO.out.qr.1)
  rw [hk] at CK
  have hsE : smE r.C r.D r.tn [v0] 1 = nmE r.C r.D r.tn [v0] (spN r.C) := by rw [smE_nmE, Int.one_mul]
  rw [hsE] at hs
  have HS : Hid (∀ w1, OfI w r.c9 w1 → Calls Tryd.prog 32 #[r.V, .slice la 1 lc, .int .i64 (spN r.C)] w1 fun e w' => e = .returned (.int .i64 0) ∧ OfI w r.c9 w') := fun w1 h => by
    have := (numbers_any r la 1 lc [v0] (spN r.C) w1 (hl.old h.qr.1) rfl (by omega) f1 hm.bd.2.2.2).mono fun e w' q => (⟨q.1, h.old q.2⟩ : e = .returned (.int .i64 (nmE r.C r.D r.tn [v0] (spN r.C))) ∧ OfI w r.c9 w')
    rwa [hs] at this
  have HSp : Hid (∀ w1, Calls Tryd.prog 33 #[.int .i64 r.C] w1 fun e w' => e = .returned (.int .i64 (spN r.C)) ∧ w' = w1) := fun w1 => rsamples_any r.C w1
  obtain ⟨L0, hL0⟩ : ∃ L0, lvN d v0 = L0 := ⟨_, rfl⟩
  have HF0 : Hid (∀ u, Calls Tryd.prog 35 #[.int .i64 v0, .int .i64 d] u fun e w' => e = .returned (.int .u16 L0) ∧ w' = u) := fun u => by
    have := rfull_any v0 d u hd hv0.1 hv0.2; rwa [hL0] at this
  rw [hL0]
  have HSa : Hid (∀ u, Below w.heap.size w u → Calls Tryd.prog 15 #[.slice r.ca r.cn r.cc, .slice la 1 lc] u fun e w' => e = .returned (.bool true) ∧ Below u.heap.size u w') := fun u h => by
    have := rsameI_any r.ca r.cn r.cc la 1 lc K [v0] u hm.kn rfl (hm.k.old h) (hl.old h) hm.bd.2.1
    rwa [decide_eq_true hKl] at this
  have hcp : (0 : Int) < r.cn := by omega
  obtain ⟨b, off, rfl, hc0⟩ := hl.at 0 (by simp)
  have hbl : b < w.heap.size := cell_lt hc0
  have HE0 : Hid (w.cell? ⟨b, off, none⟩ = some (.int .i64 v0)) := hc0
  clear hc0 hL0 hv0
  clear hm hk hl f1 f2 f3 hs hsE hd hKl
  obtain ⟨W, H, C, D, L, ta, tn, tc, aa, an, ac, ca, cn, cc, sa, sn, sc⟩ := r
  unfold Rs.V at *
  unfold Rs.c9 at *
  simp only at *
  subst hC hD
  generalize spN 0 = Q at *
  go_enter Tryd.func20, Tryd.ntmps20
  go_wp2_with fail
  refine CK.mono ?_
  clear CK
  rintro e w1 ⟨rfl, hb1⟩
  have HO1 : Hid (OfI w #[.int .i64 W, .int .i64 H, .int .i64 0, .int .i64 d, .bool L, .slice ta tn tc, .slice aa an ac, .slice ca cn cc, .slice sa sn sc] w1) := HO.out.old hb1
  have HO2 : Hid (OfI w #[.int .i64 W, .int .i64 H, .int .i64 0, .int .i64 d, .bool L, .slice ta tn tc, .slice aa an ac, .slice ca cn cc, .slice sa sn sc] w1.drew) := HO1.out.old ⟨rfl, rfl, rfl, Nat.le_refl _, fun _ _ => rfl⟩
  obtain ⟨c0, c1, c2, c3, c4, c5, c6, c7, c8⟩ := nine_cells HO1.out.qr.2
  obtain ⟨b0, b1, b2, b3, b4, b5, b6, b7, b8⟩ := nine_cells HO2.out.qr.2
  clear hb1 HO HO1
  go_upto_region 4 with fail
  go_region_held3 (fun u => u.cell? ⟨w.heap.size, 0, none⟩ = some (.int .i64 W) ∧ u.cell? ⟨w.heap.size, 1, none⟩ = some (.int .i64 H) ∧ u.cell? ⟨w.heap.size, 2, none⟩ = some (.int .i64 0) ∧ u.cell? ⟨w.heap.size, 3, none⟩ = some (.int .i64 d) ∧ u.cell? ⟨w.heap.size, 4, none⟩ = some (.bool L) ∧ u.cell? ⟨w.heap.size, 5, none⟩ = some (.slice ta tn tc) ∧ u.cell? ⟨w.heap.size, 6, none⟩ = some (.slice aa an ac) ∧ u.cell? ⟨w.heap.size, 7, none⟩ = some (.slice ca cn cc) ∧ u.cell? ⟨w.heap.size, 8, none⟩ = some (.slice sa sn sc))
    (first | (with_reducible exact ⟨by with_reducible assumption, by with_reducible assumption, by with_reducible assumption, by with_reducible assumption, by with_reducible assumption, by with_reducible assumption, by with_reducible assumption, by with_reducible assumption, by with_reducible assumption⟩) | go_keep) (first
    | (go_at_call 33; refine Calls.mono (HSp.out _) ?_; rintro e w2 ⟨rfl, rfl⟩)
    | (go_at_call 32; refine Calls.mono (HS.out _ HO2.out) ?_; rintro e w3 ⟨rfl, q3⟩; have HO3 : Hid (OfI w _ w3) := q3; obtain ⟨d0, d1, d2, d3, d4, d5, d6, d7, d8⟩ := nine_cells q3.qr.2; clear q3)
    | fail)
  obtain ⟨r0, r1, r2, r3, rf⟩ := HO3.out.rcells
  have HB : Hid (∀ o, Below w.heap.size w (w3.alloc o)) := fun o => HO3.out.qr.1.alloc HO3.out.qr.1.size o
  have HB3 : Hid (Below w.heap.size w w3) := HO3.out.qr.1
  have hl1 : w.heap.size + 1 < w3.heap.size := lt_of_block HO3.out.rb
  have hl0 : w.heap.size < w3.heap.size := by omega
  have hl2 : b < w3.heap.size := by omega
  have s0 : w3.cell? ⟨b, off, none⟩ = some (.int .i64 v0) := (World.cell?_of_block (a := ⟨b, off, none⟩) (HO3.out.qr.1.block b hbl)).trans HE0.out
  clear HO2 HS HSp c0 c1 c2 c3 c4 c5 c6 c7 c8 b0 b1 b2 b3 b4 b5 b6 b7 b8 HE0
  go_wp2_with fail
  refine (HF0.out _).mono ?_
  rintro e wx0 ⟨rfl, rfl⟩
  go_wp2_with fail
  refine (HSa.out _ (HB.out _)).mono ?_
  rintro e w5 ⟨rfl, hb5⟩
  have hblk : w5.heap[w3.heap.size]? = some (.cells #[.int .u16 L0, .int .u16 L0, .int .u16 L0, .int .u16 65535] 45 (0, 0)) := (hb5.block _ (by simp)).trans (heap_alloc_newX w3 _)
  have HO5 : Hid (OfI w _ w5) := (HO3.out.old ((Below.refl _ _).alloc (Nat.le_refl _) _)).old hb5
  have m0 : w5.cell? ⟨w3.heap.size, 0, none⟩ = some (.int .u16 L0) := by simp [World.cell?, hblk]
  have m1 : w5.cell? ⟨w3.heap.size, 1, none⟩ = some (.int .u16 L0) := by simp [World.cell?, hblk]
  have m2 : w5.cell? ⟨w3.heap.size, 2, none⟩ = some (.int .u16 L0) := by simp [World.cell?, hblk]
  have m3 : w5.cell? ⟨w3.heap.size, 3, none⟩ = some (.int .u16 65535) := by simp [World.cell?, hblk]
  have mf : ∀ q, w5.frozen? ⟨w3.heap.size, q, none⟩ = false := fun q => by simp [World.frozen?, hblk]
  have HB5 : Hid (Below w.heap.size w w5) := HO5.out.qr.1
  have HW : Hid (w.heap.size ≤ w3.heap.size) := by show _ ≤ _; omega
  have hne1 : w3.heap.size ≠ w.heap.size + 1 := by omega
  have hne2 : w.heap.size + 1 ≠ w3.heap.size := by omega
  clear hblk hb5 HO3 r0 r1 r2 r3 rf d0 d1 d2 d3 d4 d5 d6 d7 d8 s0
  obtain ⟨r0, r1, r2, r3, rf⟩ := HO5.out.rcells
  clear HO5
  generalize w3.heap.size = B3 at *
  go_wp2
  refine bodyPost_ret (v := .tuple #[.agg #[.int .u16 L0, .int .u16 L0, .int .u16 L0, .int .u16 0], .int .i64 0]) ?_ rfl ⟨rfl, four_set (HB5.out.setCell (p := ⟨B3, 3, none⟩) HW.out _)⟩
  rw [results_cellP rfl]
  go_simp
set_option maxHeartbeats 6400000 in
theorem rof_0_unlike (r : Rs) (A K S : List Int) (la : Option Addr) (lc d : Nat) (v0 : Int) (w : World) (hm : RsM w r A K S) (hl : IRow w la [v0]) (hC : r.C = 0) (hD : r.D = d) (hd : isDp d) (hk : ckE r.W r.H r.C r.D r.tn A K = 0) (hs : smE r.C r.D r.tn [v0] 1 = 0) (hv0 : 0 ≤ v0 ∧ v0 < 2 ^ d) (hK : r.cn ≠ 0) (hKl : K ≠ [v0]) :
    Calls Tryd.prog 20 #[r.V, .slice la 1 lc] w fun e w' => e = .returned (.tuple #[.agg #[.int .u16 (lvN d v0), .int .u16 (lvN d v0), .int .u16 (lvN d v0), .int .u16 65535], .int .i64 0]) ∧ Below w.heap.size w w' := by
  have HO : Hid (OfI w r.c9 _) := OfI.start w r.c9
  obtain ⟨f1, f2, f3⟩ := may_facts (ckE_may hk)
  have CK := tables_any r A K S _ (hm.old HO.out.qr.1)
  rw [hk] at CK
  have hsE : smE r.C r.D r.tn [v0] 1 = nmE r.C r.D r.tn [v0] (spN r.C) := by rw [smE_nmE, Int.one_mul]
  rw [hsE] at hs
  have HS : Hid (∀ w1, OfI w r.c9 w1 → Calls Tryd.prog 32 #[r.V, .slice la 1 lc, .int .i64 (spN r.C)] w1 fun e w' => e = .returned (.int .i64 0) ∧ OfI w r.c9 w') := fun w1 h => by
    have := (numbers_any r la 1 lc [v0] (spN r.C) w1 (hl.old h.qr.1) rfl (by omega) f1 hm.bd.2.2.2).mono fun e w' q => (⟨q.1, h.old q.2⟩ : e = .returned (.int .i64 (nmE r.C r.D r.tn [v0] (spN r.C))) ∧ OfI w r.c9 w')
    rwa [hs] at this
  have HSp : Hid (∀ w1, Calls Tryd.prog 33 #[.int .i64 r.C] w1 fun e w' => e = .returned (.int .i64 (spN r.C)) ∧ w' = w1) := fun w1 => rsamples_any r.C w1
  obtain ⟨L0, hL0⟩ : ∃ L0, lvN d v0 = L0 := ⟨_, rfl⟩
  have HF0 : Hid (∀ u, Calls Tryd.prog 35 #[.int .i64 v0, .int .i64 d] u fun e w' => e = .returned (.int .u16 L0) ∧ w' = u) := fun u => by
    have := rfull_any v0 d u hd hv0.1 hv0.2; rwa [hL0] at this
  rw [hL0]
  have HSa : Hid (∀ u, Below w.heap.size w u → Calls Tryd.prog 15 #[.slice r.ca r.cn r.cc, .slice la 1 lc] u fun e w' => e = .returned (.bool false) ∧ Below u.heap.size u w') := fun u h => by
    have := rsameI_any r.ca r.cn r.cc la 1 lc K [v0] u hm.kn rfl (hm.k.old h) (hl.old h) hm.bd.2.1
    rwa [decide_eq_false hKl] at this
  have hcp : (0 : Int) < r.cn := by omega
  obtain ⟨b, off, rfl, hc0⟩ := hl.at 0 (by simp)
  have hbl : b < w.heap.size := cell_lt hc0
  have HE0 : Hid (w.cell? ⟨b, off, none⟩ = some (.int .i64 v0)) := hc0
  clear hc0 hL0 hv0
  clear hm hk hl f1 f2 f3 hs hsE hd hKl
  obtain ⟨W, H, C, D, L, ta, tn, tc, aa, an, ac, ca, cn, cc, sa, sn, sc⟩ := r
  unfold Rs.V at *
  unfold Rs.c9 at *
  simp only at *
  subst hC hD
  generalize spN 0 = Q at *
  go_enter Tryd.func20, Tryd.ntmps20
  go_wp2_with fail
  refine CK.mono ?_
  clear CK
  rintro e w1 ⟨rfl, hb1⟩
  have HO1 : Hid (OfI w #[.int .i64 W, .int .i64 H, .int .i64 0, .int .i64 d, .bool L, .slice ta tn tc, .slice aa an ac, .slice ca cn cc, .slice sa sn sc] w1) := HO.out.old hb1
  have HO2 : Hid (OfI w #[.int .i64 W, .int .i64 H, .int .i64 0, .int .i64 d, .bool L, .slice ta tn tc, .slice aa an ac, .slice ca cn cc, .slice sa sn sc] w1.drew) := HO1.out.old ⟨rfl, rfl, rfl, Nat.le_refl _, fun _ _ => rfl⟩
  obtain ⟨c0, c1, c2, c3, c4, c5, c6, c7, c8⟩ := nine_cells HO1.out.qr.2
  obtain ⟨b0, b1, b2, b3, b4, b5, b6, b7, b8⟩ := nine_cells HO2.out.qr.2
  clear hb1 HO HO1
  go_upto_region 4 with fail
  go_region_held3 (fun u => u.cell? ⟨w.heap.size, 0, none⟩ = some (.int .i64 W) ∧ u.cell? ⟨w.heap.size, 1, none⟩ = some (.int .i64 H) ∧ u.cell? ⟨w.heap.size, 2, none⟩ = some (.int .i64 0) ∧ u.cell? ⟨w.heap.size, 3, none⟩ = some (.int .i64 d) ∧ u.cell? ⟨w.heap.size, 4, none⟩ = some (.bool L) ∧ u.cell? ⟨w.heap.size, 5, none⟩ = some (.slice ta tn tc) ∧ u.cell? ⟨w.heap.size, 6, none⟩ = some (.slice aa an ac) ∧ u.cell? ⟨w.heap.size, 7, none⟩ = some (.slice ca cn cc) ∧ u.cell? ⟨w.heap.size, 8, none⟩ = some (.slice sa sn sc))
    (first | (with_reducible exact ⟨by with_reducible assumption, by with_reducible assumption, by with_reducible assumption, by with_reducible assumption, by with_reducible assumption, by with_reducible assumption, by with_reducible assumption, by with_reducible assumption, by with_reducible assumption⟩) | go_keep) (first
    | (go_at_call 33; refine Calls.mono (HSp.out _) ?_; rintro e w2 ⟨rfl, rfl⟩)
    | (go_at_call 32; refine Calls.mono (HS.out _ HO2.out) ?_; rintro e w3 ⟨rfl, q3⟩; have HO3 : Hid (OfI w _ w3) := q3; obtain ⟨d0, d1, d2, d3, d4, d5, d6, d7, d8⟩ := nine_cells q3.qr.2; clear q3)
    | fail)
  obtain ⟨r0, r1, r2, r3, rf⟩ := HO3.out.rcells
  have HB : Hid (∀ o, Below w.heap.size w (w3.alloc o)) := fun o => HO3.out.qr.1.alloc HO3.out.qr.1.size o
  have HB3 : Hid (Below w.heap.size w w3) := HO3.out.qr.1
  have hl1 : w.heap.size + 1 < w3.heap.size := lt_of_block HO3.out.rb
  have hl0 : w.heap.size < w3.heap.size := by omega
  have hl2 : b < w3.heap.size := by omega
  have s0 : w3.cell? ⟨b, off, none⟩ = some (.int .i64 v0) := (World.cell?_of_block (a := ⟨b, off, none⟩) (HO3.out.qr.1.block b hbl)).trans HE0.out
  clear HO2 HS HSp c0 c1 c2 c3 c4 c5 c6 c7 c8 b0 b1 b2 b3 b4 b5 b6 b7 b8 HE0
  go_wp2_with fail
  refine (HF0.out _).mono ?_
  rintro e wx0 ⟨rfl, rfl⟩
  go_wp2_with fail
  refine (HSa.out _ (HB.out _)).mono ?_
  rintro e w5 ⟨rfl, hb5⟩
  have hblk : w5.heap[w3.heap.size]? = some (.cells #[.int .u16 L0, .int .u16 L0, .int .u16 L0, .int .u16 65535] 45 (0, 0)) := (hb5.block _ (by simp)).trans (heap_alloc_newX w3 _)
  have HO5 : Hid (OfI w _ w5) := (HO3.out.old ((Below.refl _ _).alloc (Nat.le_refl _) _)).old hb5
  have m0 : w5.cell? ⟨w3.heap.size, 0, none⟩ = some (.int .u16 L0) := by simp [World.cell?, hblk]
  have m1 : w5.cell? ⟨w3.heap.size, 1, none⟩ = some (.int .u16 L0) := by simp [World.cell?, hblk]
  have m2 : w5.cell? ⟨w3.heap.size, 2, none⟩ = some (.int .u16 L0) := by simp [World.cell?, hblk]
  have m3 : w5.cell? ⟨w3.heap.size, 3, none⟩ = some (.int .u16 65535) := by simp [World.cell?, hblk]
  have mf : ∀ q, w5.frozen? ⟨w3.heap.size, q, none⟩ = false := fun q => by simp [World.frozen?, hblk]
  have HB5 : Hid (Below w.heap.size w w5) := HO5.out.qr.1
  have HW : Hid (w.heap.size ≤ w3.heap.size) := by show _ ≤ _; omega
  have hne1 : w3.heap.size ≠ w.heap.size + 1 := by omega
  have hne2 : w.heap.size + 1 ≠ w3.heap.size := by omega
  clear hblk hb5 HO3 r0 r1 r2 r3 rf d0 d1 d2 d3 d4 d5 d6 d7 d8 s0
  obtain ⟨r0, r1, r2, r3, rf⟩ := HO5.out.rcells
  clear HO5
  generalize w3.heap.size = B3 at *
  go_wp2
  refine bodyPost_ret (v := .tuple #[.agg #[.int .u16 L0, .int .u16 L0, .int .u16 L0, .int .u16 65535], .int .i64 0]) ?_ rfl ⟨rfl, four_set HB5.out⟩
  rw [results_cellP rfl]
  go_simp
end Go.Proofs.YtbjoalgglmalnaaDoor
