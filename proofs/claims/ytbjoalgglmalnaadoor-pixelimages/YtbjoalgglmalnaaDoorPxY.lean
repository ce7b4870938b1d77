/- The document's Of, of right samples of kind 3. -/
import Derived.Test.YtbjoalgglmalnaaDoorPxU
import Derived.Test.YtbjoalgglmalnaaDoorPxR
namespace Go.Proofs.YtbjoalgglmalnaaDoor
open Go.RowKit
set_option maxHeartbeats 6400000 in
theorem rof_3 (r : Rs) (A K S : List Int) (la : Option Addr) (lc d : Nat) (i : Nat) (T : List Int) (w : World) (hti : TiM w r T) (hi : i < r.tn) (hA : allB 256 A) (hm : RsM w r A K S) (hl : IRow w la [(i : Int)]) (hC : r.C = 3) (hD : r.D = d) (_hd : isDp d) (hk : ckE r.W r.H r.C r.D r.tn A K = 0) (hs : smE r.C r.D r.tn [(i : Int)] 1 = 0) (hK : r.cn = 0) :
    Calls Tryd.prog 20 #[r.V, .slice la 1 lc] w fun e w' => e = .returned (.tuple #[ctV T A i, .int .i64 0]) ∧ Below w.heap.size w w' := by
  have HO : Hid (OfI w r.c9 _) := OfI.start w r.c9
  obtain ⟨f1, f2, f3⟩ := may_facts (ckE_may hk)
  have CK := tables_any r A K S _ (hm.old HO.out.qr.1)
  rw [hk] at CK
  have hsE : smE r.C r.D r.tn [(i : Int)] 1 = nmE r.C r.D r.tn [(i : Int)] (spN r.C) := by rw [smE_nmE, Int.one_mul]
  rw [hsE] at hs
  have HS : Hid (∀ w1, OfI w r.c9 w1 → Calls Tryd.prog 32 #[r.V, .slice la 1 lc, .int .i64 (spN r.C)] w1 fun e w' => e = .returned (.int .i64 0) ∧ OfI w r.c9 w') := fun w1 h => by
    have := (numbers_any r la 1 lc [(i : Int)] (spN r.C) w1 (hl.old h.qr.1) rfl (by omega) f1 hm.bd.2.2.2).mono fun e w' q => (⟨q.1, h.old q.2⟩ : e = .returned (.int .i64 (nmE r.C r.D r.tn [(i : Int)] (spN r.C))) ∧ OfI w r.c9 w')
    rwa [hs] at this
  have HSp : Hid (∀ w1, Calls Tryd.prog 33 #[.int .i64 r.C] w1 fun e w' => e = .returned (.int .i64 (spN r.C)) ∧ w' = w1) := fun w1 => rsamples_any r.C w1
  obtain ⟨bt, ot, hta, t0, t1, t2⟩ := hti.at hi
  have hx := bytes_atX hti.2.1 (3 * i)
  have hy := bytes_atX hti.2.1 (3 * i + 1)
  have hz := bytes_atX hti.2.1 (3 * i + 2)
  unfold ctV
  generalize T[3 * i]?.getD 0 = x at *
  generalize T[3 * i + 1]?.getD 0 = y at *
  generalize T[3 * i + 2]?.getD 0 = z at *
  have hbt : bt < w.heap.size := cell_lt t0
  have HT0 : Hid (w.cell? ⟨bt, ot + i * 3, none⟩ = some (.int .u8 x) ∧ w.cell? ⟨bt, ot + i * 3 + 1, none⟩ = some (.int .u8 y) ∧ w.cell? ⟨bt, ot + i * 3 + 2, none⟩ = some (.int .u8 z)) := ⟨t0, t1, t2⟩
  have HAr : Hid (IRow w r.aa A ∧ A.length = r.an) := ⟨hm.a, hm.an⟩
  have HA2 : Hid (∀ (h : i < A.length), 0 ≤ A[i]?.getD 0 ∧ A[i]?.getD 0 < 256) := fun h => by rw [List.getElem?_eq_getElem h]; exact hA _ (List.getElem_mem h)
  clear t0 t1 t2 hti hA
  obtain ⟨b, off, rfl, hc0⟩ := hl.at 0 (by simp)
  have hbl : b < w.heap.size := cell_lt hc0
  have HE0 : Hid (w.cell? ⟨b, off, none⟩ = some (.int .i64 (i : Int))) := hc0
  clear hc0
  clear hm hk hl f1 f2 f3 hs hsE
  obtain ⟨W, H, C, D, L, ta, tn, tc, aa, an, ac, ca, cn, cc, sa, sn, sc⟩ := r
  unfold Rs.V at *
  unfold Rs.c9 at *
  simp only at *
  subst hC hD hK hta
  generalize spN 3 = Q at *
  go_enter Tryd.func20, Tryd.ntmps20
  go_wp2_with fail
  refine CK.mono ?_
  clear CK
  rintro e w1 ⟨rfl, hb1⟩
  have HO1 : Hid (OfI w #[.int .i64 W, .int .i64 H, .int .i64 3, .int .i64 d, .bool L, .slice (some ⟨bt, ot, none⟩) tn tc, .slice aa an ac, .slice ca 0 cc, .slice sa sn sc] w1) := HO.out.old hb1
  have HO2 : Hid (OfI w #[.int .i64 W, .int .i64 H, .int .i64 3, .int .i64 d, .bool L, .slice (some ⟨bt, ot, none⟩) tn tc, .slice aa an ac, .slice ca 0 cc, .slice sa sn sc] w1.drew) := HO1.out.old ⟨rfl, rfl, rfl, Nat.le_refl _, fun _ _ => rfl⟩
  obtain ⟨c0, c1, c2, c3, c4, c5, c6, c7, c8⟩ := nine_cells HO1.out.qr.2
  obtain ⟨b0, b1, b2, b3, b4, b5, b6, b7, b8⟩ := nine_cells HO2.out.qr.2
  clear hb1 HO HO1
  go_upto_region 4 with fail
  go_region_held3 (fun u => u.cell? ⟨w.heap.size, 0, none⟩ = some (.int .i64 W) ∧ u.cell? ⟨w.heap.size, 1, none⟩ = some (.int .i64 H) ∧ u.cell? ⟨w.heap.size, 2, none⟩ = some (.int .i64 3) ∧ u.cell? ⟨w.heap.size, 3, none⟩ = some (.int .i64 d) ∧ u.cell? ⟨w.heap.size, 4, none⟩ = some (.bool L) ∧ u.cell? ⟨w.heap.size, 5, none⟩ = some (.slice (some ⟨bt, ot, none⟩) tn tc) ∧ u.cell? ⟨w.heap.size, 6, none⟩ = some (.slice aa an ac) ∧ u.cell? ⟨w.heap.size, 7, none⟩ = some (.slice ca 0 cc) ∧ u.cell? ⟨w.heap.size, 8, none⟩ = some (.slice sa sn sc))
    (first | (with_reducible exact ⟨by with_reducible assumption, by with_reducible assumption, by with_reducible assumption, by with_reducible assumption, by with_reducible assumption, by with_reducible assumption, by with_reducible assumption, by with_reducible assumption, by with_reducible assumption⟩) | go_keep) (first
    | (go_at_call 33; refine Calls.mono (HSp.out _) ?_; rintro e w2 ⟨rfl, rfl⟩)
    | (go_at_call 32; refine Calls.mono (HS.out _ HO2.out) ?_; rintro e w3 ⟨rfl, q3⟩; have HO3 : Hid (OfI w _ w3) := q3; obtain ⟨d0, d1, d2, d3, d4, d5, d6, d7, d8⟩ := nine_cells q3.qr.2; clear q3)
    | fail)
  obtain ⟨r0, r1, r2, r3, rf⟩ := HO3.out.rcells
  have HB : Hid (∀ o, Below w.heap.size w (w3.alloc o)) := fun o => HO3.out.qr.1.alloc HO3.out.qr.1.size o
  have HB3 : Hid (Below w.heap.size w w3) := HO3.out.qr.1
  have hl1 : w.heap.size + 1 < w3.heap.size := lt_of_block HO3.out.rb
  have hl0 : w.heap.size < w3.heap.size := by omega
  have hl2 : b < w3.heap.size := by omega
  have s0 : w3.cell? ⟨b, off, none⟩ = some (.int .i64 (i : Int)) := (World.cell?_of_block (a := ⟨b, off, none⟩) (HO3.out.qr.1.block b hbl)).trans HE0.out
  have u0 : w3.cell? ⟨bt, ot + i * 3, none⟩ = some (.int .u8 x) := (World.cell?_of_block (a := ⟨bt, ot + i * 3, none⟩) (HO3.out.qr.1.block bt hbt)).trans HT0.out.1
  have u1 : w3.cell? ⟨bt, ot + i * 3 + 1, none⟩ = some (.int .u8 y) := (World.cell?_of_block (a := ⟨bt, ot + i * 3 + 1, none⟩) (HO3.out.qr.1.block bt hbt)).trans HT0.out.2.1
  have u2 : w3.cell? ⟨bt, ot + i * 3 + 2, none⟩ = some (.int .u8 z) := (World.cell?_of_block (a := ⟨bt, ot + i * 3 + 2, none⟩) (HO3.out.qr.1.block bt hbt)).trans HT0.out.2.2
  have hl3 : bt < w3.heap.size := by omega
  clear HO2 HS HSp c0 c1 c2 c3 c4 c5 c6 c7 c8 b0 b1 b2 b3 b4 b5 b6 b7 b8 HE0
  have HC3 : Hid (w3.heap.size = w3.heap.size) := rfl
  obtain ⟨w4, hw4⟩ : ∃ w4, w3.alloc (.cells #[.int .u16 0, .int .u16 0, .int .u16 0, .int .u16 65535] 45) = w4 := ⟨_, rfl⟩
  have hb4 : Below w3.heap.size w3 w4 := by rw [← hw4]; exact (Below.refl _ _).alloc (Nat.le_refl _) _
  have HO4 : Hid (OfI w _ w4) := HO3.out.old hb4
  have hz4 : w4.heap.size = w3.heap.size + 1 := by rw [← hw4]; simp
  have hblk : w4.heap[w3.heap.size]? = some (.cells #[.int .u16 0, .int .u16 0, .int .u16 0, .int .u16 65535] 45 (0, 0)) := by rw [← hw4]; exact heap_alloc_newX w3 _
  have p0 : w4.cell? ⟨b, off, none⟩ = some (.int .i64 (i : Int)) := (World.cell?_of_block (a := ⟨b, off, none⟩) (hb4.block b hl2)).trans s0
  have q0 : w4.cell? ⟨bt, ot + i * 3, none⟩ = some (.int .u8 x) := (World.cell?_of_block (a := ⟨bt, ot + i * 3, none⟩) (hb4.block bt hl3)).trans u0
  have q1 : w4.cell? ⟨bt, ot + i * 3 + 1, none⟩ = some (.int .u8 y) := (World.cell?_of_block (a := ⟨bt, ot + i * 3 + 1, none⟩) (hb4.block bt hl3)).trans u1
  have q2 : w4.cell? ⟨bt, ot + i * 3 + 2, none⟩ = some (.int .u8 z) := (World.cell?_of_block (a := ⟨bt, ot + i * 3 + 2, none⟩) (hb4.block bt hl3)).trans u2
  obtain ⟨e0, e1, e2, e3, e4, e5, e6, e7, e8⟩ := nine_cells HO4.out.qr.2
  have P0 : w4.drew.cell? ⟨b, off, none⟩ = _ := p0
  have Q0 : w4.drew.cell? ⟨bt, ot + i * 3, none⟩ = _ := q0
  have Q1 : w4.drew.cell? ⟨bt, ot + i * 3 + 1, none⟩ = _ := q1
  have Q2 : w4.drew.cell? ⟨bt, ot + i * 3 + 2, none⟩ = _ := q2
  have E5 : w4.drew.cell? ⟨w.heap.size, 5, none⟩ = _ := e5
  have hw5 : bt < w4.heap.size := by omega
  have hw6 : b < w4.heap.size := by omega
  have hw7 : w.heap.size < w4.heap.size := by omega
  have m0 : w4.drew.cell? ⟨w3.heap.size, 0, none⟩ = some (.int .u16 0) := by show w4.cell? _ = _; simp [World.cell?, hblk]
  have m1 : w4.drew.cell? ⟨w3.heap.size, 1, none⟩ = some (.int .u16 0) := by show w4.cell? _ = _; simp [World.cell?, hblk]
  have m2 : w4.drew.cell? ⟨w3.heap.size, 2, none⟩ = some (.int .u16 0) := by show w4.cell? _ = _; simp [World.cell?, hblk]
  have m3 : w4.drew.cell? ⟨w3.heap.size, 3, none⟩ = some (.int .u16 65535) := by show w4.cell? _ = _; simp [World.cell?, hblk]
  have mf : ∀ q, w4.drew.frozen? ⟨w3.heap.size, q, none⟩ = false := fun q => by show w4.frozen? _ = _; simp [World.frozen?, hblk]
  have hs5 : w4.drew.heap.size = w3.heap.size + 1 := hz4
  have hw8 : w3.heap.size < w4.drew.heap.size := by omega
  have hn1 : b ≠ w3.heap.size := by omega
  have hn2 : w.heap.size ≠ w3.heap.size := by omega
  have E6 : w4.drew.cell? ⟨w.heap.size, 6, none⟩ = _ := e6
  have E2 : w4.drew.cell? ⟨w.heap.size, 2, none⟩ = _ := e2
  have E7 : w4.drew.cell? ⟨w.heap.size, 7, none⟩ = _ := e7
  obtain ⟨w6, hw6e⟩ : ∃ w6, (w4.alloc (.cells #[.int .u8 x, .int .u8 y, .int .u8 z] 64)).drew = w6 := ⟨_, rfl⟩
  have hb46 : Below w4.heap.size w4 w6 := by rw [← hw6e]; exact ((Below.refl _ _).alloc (Nat.le_refl _) _).trans ⟨rfl, rfl, rfl, Nat.le_refl _, fun _ _ => rfl⟩
  have htb : w6.heap[w3.heap.size + 1]? = some (.cells #[.int .u8 x, .int .u8 y, .int .u8 z] 64 (0, 0)) := by
    rw [← hw6e, ← hz4]; exact heap_alloc_newX w4 _
  have hcb : w6.heap[w3.heap.size]? = some (.cells #[.int .u16 0, .int .u16 0, .int .u16 0, .int .u16 65535] 45 (0, 0)) := (hb46.block _ (by omega)).trans hblk
  have HO6 : Hid (OfI w _ w6) := HO4.out.old hb46
  have p6 : w6.cell? ⟨b, off, none⟩ = some (.int .i64 (i : Int)) := (World.cell?_of_block (a := ⟨b, off, none⟩) (hb46.block b hw6)).trans p0
  have q60 : w6.cell? ⟨bt, ot + i * 3, none⟩ = some (.int .u8 x) := (World.cell?_of_block (a := ⟨bt, ot + i * 3, none⟩) (hb46.block bt hw5)).trans q0
  have q61 : w6.cell? ⟨bt, ot + i * 3 + 1, none⟩ = some (.int .u8 y) := (World.cell?_of_block (a := ⟨bt, ot + i * 3 + 1, none⟩) (hb46.block bt hw5)).trans q1
  have q62 : w6.cell? ⟨bt, ot + i * 3 + 2, none⟩ = some (.int .u8 z) := (World.cell?_of_block (a := ⟨bt, ot + i * 3 + 2, none⟩) (hb46.block bt hw5)).trans q2
  have e65 := (nine_cells HO6.out.qr.2).2.2.2.2.2.1
  have z0 : w6.cell? ⟨w3.heap.size + 1, 0, none⟩ = some (.int .u8 x) := by simp [World.cell?, htb]
  have z1 : w6.cell? ⟨w3.heap.size + 1, 1, none⟩ = some (.int .u8 y) := by simp [World.cell?, htb]
  have z2 : w6.cell? ⟨w3.heap.size + 1, 2, none⟩ = some (.int .u8 z) := by simp [World.cell?, htb]
  have n0 : w6.cell? ⟨w3.heap.size, 0, none⟩ = some (.int .u16 0) := by simp [World.cell?, hcb]
  have n1 : w6.cell? ⟨w3.heap.size, 1, none⟩ = some (.int .u16 0) := by simp [World.cell?, hcb]
  have n2 : w6.cell? ⟨w3.heap.size, 2, none⟩ = some (.int .u16 0) := by simp [World.cell?, hcb]
  have nf : ∀ q, w6.frozen? ⟨w3.heap.size, q, none⟩ = false := fun q => by simp [World.frozen?, hcb]
  obtain ⟨w7, hw7e⟩ : ∃ w7, ((w6.setCell ⟨w3.heap.size, 0, none⟩ (.int .u16 (x * 257))).setCell ⟨w3.heap.size, 1, none⟩ (.int .u16 (y * 257))).setCell ⟨w3.heap.size, 2, none⟩ (.int .u16 (z * 257)) = w7 := ⟨_, rfl⟩
  have hb67 : Below w3.heap.size w6 w7 := by
    rw [← hw7e]
    exact (((Below.refl _ _).setCell (p := ⟨w3.heap.size, 0, none⟩) (Nat.le_refl _) _).setCell (p := ⟨w3.heap.size, 1, none⟩) (Nat.le_refl _) _).setCell (p := ⟨w3.heap.size, 2, none⟩) (Nat.le_refl _) _
  have hb37 : Below w3.heap.size w3 w7 := (hb4.trans (hb46.mono (by omega))).trans (hb67.mono (by have := hb4.size; have := hb46.size; omega))
  have hcb7 : w7.heap[w3.heap.size]? = some (.cells #[.int .u16 (x * 257), .int .u16 (y * 257), .int .u16 (z * 257), .int .u16 65535] 45 (0, 0)) := by
    have k1 := heap_setCell_same w6 w3.heap.size 0 _ _ (.int .u16 (x * 257)) hcb
    have k2 := heap_setCell_same _ w3.heap.size 1 _ _ (.int .u16 (y * 257)) k1
    have k3 := heap_setCell_same _ w3.heap.size 2 _ _ (.int .u16 (z * 257)) k2
    rw [hw7e] at k3
    exact k3
  have HO7 : Hid (OfI w _ w7) := HO3.out.old hb37
  obtain ⟨g0, g1, g2, g3, g4, g5, g6, g7, g8⟩ := nine_cells HO7.out.qr.2
  have G6 : w7.drew.cell? ⟨w.heap.size, 6, none⟩ = _ := g6
  have sp7 : w7.cell? ⟨b, off, none⟩ = some (.int .i64 (i : Int)) := (World.cell?_of_block (a := ⟨b, off, none⟩) (hb37.block b hl2)).trans s0
  have SP7 : w7.drew.cell? ⟨b, off, none⟩ = some (.int .i64 (i : Int)) := sp7
  have hx1 : IntKind.u16.wrap (x * 257) = x * 257 := by rw [IntKind.wrap_u16]; omega
  have hy1 : IntKind.u16.wrap (y * 257) = y * 257 := by rw [IntKind.wrap_u16]; omega
  have hz1 : IntKind.u16.wrap (z * 257) = z * 257 := by rw [IntKind.wrap_u16]; omega
  have hx2 : x * 257 % 65536 = x * 257 := by omega
  have hy2 : y * 257 % 65536 = y * 257 := by omega
  have hz2 : z * 257 % 65536 = z * 257 := by omega
  have hne1 : w3.heap.size + 1 ≠ w3.heap.size := by omega
  clear m0 m1 m2 m3 mf hw8 hs5 htb hcb HO6 HO4 HC3
  go_upto_region 21 with fail
  go_region_held3 (fun u => u.cell? ⟨b, off, none⟩ = some (.int .i64 (i : Int)) ∧ u.cell? ⟨bt, ot + i * 3, none⟩ = some (.int .u8 x) ∧ u.cell? ⟨bt, ot + i * 3 + 1, none⟩ = some (.int .u8 y) ∧ u.cell? ⟨bt, ot + i * 3 + 2, none⟩ = some (.int .u8 z) ∧ u.cell? ⟨w.heap.size, 5, none⟩ = some (.slice (some ⟨bt, ot, none⟩) tn tc))
    (first | (with_reducible exact ⟨by with_reducible assumption, by with_reducible assumption, by with_reducible assumption, by with_reducible assumption, by with_reducible assumption⟩) | go_keep) (fail)
  try rw [hw6e]
  clear d0 d1 d2 d3 d4 d5 d6 d7 d8 e0 e1 e2 e3 e4 e6 e7 e8 E6 E2 E7
  clear p6 q60 q61 q62 e65 P0 Q0 Q1 Q2 E5 p0 q0 q1 q2 e5 u0 u1 u2 s0 hw4 hw6e hb46 hb4 hb67
  go_upto_region 25 with fail
  try rw [hw7e]
  clear z0 z1 z2 n0 n1 n2 nf hw7e
  go_region_held3 (fun u => u.cell? ⟨b, off, none⟩ = some (.int .i64 (i : Int)) ∧ u.cell? ⟨w.heap.size, 6, none⟩ = some (.slice aa an ac))
    (first | (with_reducible exact ⟨by with_reducible assumption, by with_reducible assumption⟩) | go_keep) (fail)
  have hb38 : Below w3.heap.size w3 w7.drew := hb37.trans ⟨rfl, rfl, rfl, Nat.le_refl _, fun _ _ => rfl⟩
  have hcb8 : w7.drew.heap[w3.heap.size]? = some (.cells #[.int .u16 (x * 257), .int .u16 (y * 257), .int .u16 (z * 257), .int .u16 65535] 45 (0, 0)) := hcb7
  clear g0 g1 g2 g3 g4 g5 g6 g7 g8 G6 sp7 hb37 hcb7 HO7
  generalize w7.drew = w8 at *
  have HO8 : Hid (OfI w _ w8) := HO3.out.old hb38
  obtain ⟨g0, g1, g2, g3, g4, g5, g6, g7, g8⟩ := nine_cells HO8.out.qr.2
  clear r0 r1 r2 r3 rf
  have hne2 : w3.heap.size ≠ w.heap.size + 1 := by omega
  have hne3 : w.heap.size + 1 ≠ w3.heap.size := by omega
  have HW : Hid (w.heap.size ≤ w3.heap.size) := by show _ ≤ _; omega
  by_cases hia : i < an
  · obtain ⟨ba, oa, rfl, hca⟩ := HAr.out.1.at i (by rw [HAr.out.2]; exact hia)
    have hal := HA2.out (by rw [HAr.out.2]; exact hia)
    have HE : Hid (alN A i = A[i]?.getD 0 * 257) := by show alN _ _ = _; unfold alN; rw [if_pos (by rw [HAr.out.2]; exact hia)]
    have ca8 : w8.cell? ⟨ba, oa + i, none⟩ = some (.int .i64 (A[i]?.getD 0)) := (World.cell?_of_block (a := ⟨ba, oa + i, none⟩) (HO8.out.qr.1.block ba (cell_lt hca))).trans hca
    generalize A[i]?.getD 0 = al at *
    obtain ⟨w9, hw9e⟩ : ∃ w9, w8.drew = w9 := ⟨_, rfl⟩
    have hb89 : Below w8.heap.size w8 w9 := by rw [← hw9e]; exact ⟨rfl, rfl, rfl, Nat.le_refl _, fun _ _ => rfl⟩
    have HO9 : Hid (OfI w _ w9) := HO8.out.old hb89
    have ca9 : w9.cell? ⟨ba, oa + i, none⟩ = some (.int .i64 al) := by rw [← hw9e]; exact ca8
    have sp9 : w9.cell? ⟨b, off, none⟩ = some (.int .i64 (i : Int)) := by rw [← hw9e]; exact SP7
    have hcb9 : w9.heap[w3.heap.size]? = some (.cells #[.int .u16 (x * 257), .int .u16 (y * 257), .int .u16 (z * 257), .int .u16 65535] 45 (0, 0)) := by rw [← hw9e]; exact hcb8
    have m0 : w9.cell? ⟨w3.heap.size, 0, none⟩ = some (.int .u16 (x * 257)) := by simp [World.cell?, hcb9]
    have m1 : w9.cell? ⟨w3.heap.size, 1, none⟩ = some (.int .u16 (y * 257)) := by simp [World.cell?, hcb9]
    have m2 : w9.cell? ⟨w3.heap.size, 2, none⟩ = some (.int .u16 (z * 257)) := by simp [World.cell?, hcb9]
    have m3 : w9.cell? ⟨w3.heap.size, 3, none⟩ = some (.int .u16 65535) := by simp [World.cell?, hcb9]
    have mf : ∀ q, w9.frozen? ⟨w3.heap.size, q, none⟩ = false := fun q => by simp [World.frozen?, hcb9]
    obtain ⟨r0, r1, r2, r3, rf⟩ := HO9.out.rcells
    clear g0 g1 g3 g4 g5 g8
    obtain ⟨g0, g1, g2, g3, g4, g5, g6, g7, g8⟩ := nine_cells HO9.out.qr.2
    have ha1 : IntKind.i64.wrap (al * 257) = al * 257 := by rw [IntKind.wrap_i64]; omega
    have ha2 : IntKind.u16.wrap (al * 257) = al * 257 := by rw [IntKind.wrap_u16]; omega
    have HB9 : Hid (Below w.heap.size w w9) := HO9.out.qr.1
    clear hcb8 hcb9 HO8 HO3 HA2 HAr hca ca8 hb89 hb38
    go_upto_region 26 with fail
    refine wp_region_still_tail 10 (by kernel_rfl) (by kernel_rfl) ?_
    simp only [List.take_succ_cons, List.take_zero, List.drop_succ_cons, List.drop_zero]
    rw [show ({ w8 with drawn := w8.drawn + 1 } : World) = w8.drew from rfl, hw9e]
    repeat still_step
    refine wpStill_nil ?_
    go_wp2
    refine bodyPost_ret (v := .tuple #[.agg #[.int .u16 (x * 257), .int .u16 (y * 257), .int .u16 (z * 257), .int .u16 (al * 257)], .int .i64 0]) ?_ rfl ⟨by rw [HE.out], four_set (HB9.out.setCell (p := ⟨w3.heap.size, 3, none⟩) HW.out _)⟩
    rw [results_cellP rfl]
    go_simp
  · have HE : Hid (alN A i = 65535) := by show alN _ _ = _; unfold alN; rw [if_neg (by rw [HAr.out.2]; exact hia)]
    have m0 : w8.cell? ⟨w3.heap.size, 0, none⟩ = some (.int .u16 (x * 257)) := by simp [World.cell?, hcb8]
    have m1 : w8.cell? ⟨w3.heap.size, 1, none⟩ = some (.int .u16 (y * 257)) := by simp [World.cell?, hcb8]
    have m2 : w8.cell? ⟨w3.heap.size, 2, none⟩ = some (.int .u16 (z * 257)) := by simp [World.cell?, hcb8]
    have m3 : w8.cell? ⟨w3.heap.size, 3, none⟩ = some (.int .u16 65535) := by simp [World.cell?, hcb8]
    obtain ⟨r0, r1, r2, r3, rf⟩ := HO8.out.rcells
    have HB8 : Hid (Below w.heap.size w w8) := HO8.out.qr.1
    clear hcb8 HO8 HO3 HA2 HAr hb38
    go_wp2
    refine bodyPost_ret (v := .tuple #[.agg #[.int .u16 (x * 257), .int .u16 (y * 257), .int .u16 (z * 257), .int .u16 65535], .int .i64 0]) ?_ rfl ⟨by rw [HE.out], four_set HB8.out⟩
    rw [results_cellP rfl]
    go_simp
end Go.Proofs.YtbjoalgglmalnaaDoor
