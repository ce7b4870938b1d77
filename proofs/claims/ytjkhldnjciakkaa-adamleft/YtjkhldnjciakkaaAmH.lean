/- The document's pass, and the calls whose answers it fixes. -/
import Derived.Test.YtjkhldnjciakkaaAmF
import Derived.Test.YtjkhldnjciakkaaAmG
namespace Go.Proofs.Ytjkhldnjciakkaa
open Go.RowKit
/-- What the document's At has in memory. -/
structure RaI (w : World) (gb pb : Nat) (p : Stp) (A B : Int) (wr : World) : Prop where
  be : Below w.heap.size w wr
  rb : wr.heap[w.heap.size]? = some (.cells #[.int .i64 0, .int .i64 0, .int .i64 0, .int .i64 0, .int .i64 0, .int .i64 0] 24 (0, 0))
  g : wr.heap[gb]? = some (.cells #[.int .i64 p.x, .int .i64 p.y, .int .i64 p.dx, .int .i64 p.dy] 51 (0, 0))
  q : wr.heap[pb]? = some (.cells #[.int .i64 p.x, .int .i64 p.y, .int .i64 p.dx, .int .i64 p.dy, .int .i64 A, .int .i64 B] 24 (0, 0))
  ne : w.heap.size < pb ∧ gb ≠ pb
theorem RaI.setA {w : World} {gb pb : Nat} {p : Stp} {A B : Int} {wr : World} (h : RaI w gb pb p A B wr) (v : Int) : RaI w gb pb p v B (wr.setCell ⟨pb, 4, none⟩ (.int .i64 v)) := by
  have hn := h.ne
  have oth : ∀ k, k ≠ pb → (wr.setCell ⟨pb, 4, none⟩ (.int .i64 v)).heap[k]? = wr.heap[k]? := fun k hk => Below.heap_setCell _ _ _ _ hk
  refine ⟨h.be.setCell (p := ⟨pb, 4, none⟩) (by show w.heap.size ≤ pb; omega) _, (oth _ (by omega)).trans h.rb, (oth _ hn.2).trans h.g, ?_, hn⟩
  rw [heap_setCell_same wr pb 4 _ _ _ h.q]; rfl
theorem RaI.setB {w : World} {gb pb : Nat} {p : Stp} {A B : Int} {wr : World} (h : RaI w gb pb p A B wr) (v : Int) : RaI w gb pb p A v (wr.setCell ⟨pb, 5, none⟩ (.int .i64 v)) := by
  have hn := h.ne
  have oth : ∀ k, k ≠ pb → (wr.setCell ⟨pb, 5, none⟩ (.int .i64 v)).heap[k]? = wr.heap[k]? := fun k hk => Below.heap_setCell _ _ _ _ hk
  refine ⟨h.be.setCell (p := ⟨pb, 5, none⟩) (by show w.heap.size ≤ pb; omega) _, (oth _ (by omega)).trans h.rb, (oth _ hn.2).trans h.g, ?_, hn⟩
  rw [heap_setCell_same wr pb 5 _ _ _ h.q]; rfl
theorem four_cells {w : World} {b : Nat} {v0 v1 v2 v3 : Value} {t : TypeId} (h : w.heap[b]? = some (.cells #[v0, v1, v2, v3] t (0, 0))) : w.cell? ⟨b, 0, none⟩ = some v0 ∧ w.cell? ⟨b, 1, none⟩ = some v1 ∧ w.cell? ⟨b, 2, none⟩ = some v2 ∧ w.cell? ⟨b, 3, none⟩ = some v3 := by
  refine ⟨?_, ?_, ?_, ?_⟩ <;> simp [World.cell?, h]
theorem plc_last {f s e : Int} (hs : 1 ≤ s) {k : Nat} (h1 : (k : Int) ≤ plc f s e) (h2 : ¬ f + (k : Int) * s < e) : (k : Int) = plc f s e := by
  rw [plc_iff hs] at h2; omega
theorem RaI.start {w w1 : World} {p : Stp} (h1 : Below (w.alloc (.cells #[.int .i64 0, .int .i64 0, .int .i64 0, .int .i64 0, .int .i64 0, .int .i64 0] 24)).heap.size (w.alloc (.cells #[.int .i64 0, .int .i64 0, .int .i64 0, .int .i64 0, .int .i64 0, .int .i64 0] 24)) w1) :
    RaI w w1.heap.size (w1.heap.size + 1) p 0 0 ((w1.alloc (.cells #[.int .i64 p.x, .int .i64 p.y, .int .i64 p.dx, .int .i64 p.dy] 51)).alloc (.cells #[.int .i64 p.x, .int .i64 p.y, .int .i64 p.dx, .int .i64 p.dy, .int .i64 0, .int .i64 0] 24)) := by
  have h0 : Below w.heap.size w (w.alloc (.cells #[.int .i64 0, .int .i64 0, .int .i64 0, .int .i64 0, .int .i64 0, .int .i64 0] 24)) := (Below.refl _ w).alloc (Nat.le_refl _) _
  have hs := h1.size
  rw [World.size_alloc] at hs
  have hb : Below w1.heap.size w1 ((w1.alloc (.cells #[.int .i64 p.x, .int .i64 p.y, .int .i64 p.dx, .int .i64 p.dy] 51)).alloc (.cells #[.int .i64 p.x, .int .i64 p.y, .int .i64 p.dx, .int .i64 p.dy, .int .i64 0, .int .i64 0] 24)) := ((Below.refl _ w1).alloc (Nat.le_refl _) _).alloc (by simp) _
  have h01 := h0.trans (h1.mono h0.size)
  refine ⟨h01.trans (hb.mono h01.size), ?_, ?_, ?_, ⟨by omega, by omega⟩⟩
  · exact (hb.block _ (by omega)).trans ((h1.block _ (by simp)).trans (World.alloc_heap_new w _))
  · exact (Below.heap_alloc _ _ _ (by simp)).trans (World.alloc_heap_new w1 _)
  · have := World.alloc_heap_new (w1.alloc (.cells #[.int .i64 p.x, .int .i64 p.y, .int .i64 p.dx, .int .i64 p.dy] 51)) (.cells #[.int .i64 p.x, .int .i64 p.y, .int .i64 p.dx, .int .i64 p.dy, .int .i64 0, .int .i64 0] 24); rwa [World.size_alloc] at this
set_option maxHeartbeats 1600000 in
theorem rat_yes (i : Nat) (W H : Int) (w : World) (hi : i < 7) (h1 : 1 ≤ W) (h2 : W ≤ 2048) (h3 : 1 ≤ H) (h4 : H ≤ 2048) : Calls Try.prog 10 #[.int .i64 ((i : Int) + 1), .int .i64 W, .int .i64 H] w fun e w' =>
    e = .returned (PsV (stAt pngL i) (wid (stAt pngL i) W H) (hig (stAt pngL i) W H)) ∧ Below w.heap.size w w' := by
  have hok : (stAt pngL i).ok := stAt_ok (pngOf_ok true) i
  have CG := fun w => grid_any i w hi
  obtain ⟨p0, p1, p2, p3, p4, p5, p6, p7⟩ := hok
  have HS : Hid (∀ w1, Below (w.alloc (.cells #[.int .i64 0, .int .i64 0, .int .i64 0, .int .i64 0, .int .i64 0, .int .i64 0] 24)).heap.size (w.alloc (.cells #[.int .i64 0, .int .i64 0, .int .i64 0, .int .i64 0, .int .i64 0, .int .i64 0] 24)) w1 → RaI w w1.heap.size (w1.heap.size + 1) (stAt pngL i) 0 0 _) := fun w1 h => RaI.start h
  unfold gdV at CG
  have hb1 := plc_bd (f := (stAt pngL i).x) (s := (stAt pngL i).dx) (e := W) p0 p4 h2
  have hb2 := plc_bd (f := (stAt pngL i).y) (s := (stAt pngL i).dy) (e := H) p2 p6 h4
  have HX : Hid (∀ k : Nat, (stAt pngL i).x + (k : Int) * (stAt pngL i).dx < W ↔ (k : Int) < plc (stAt pngL i).x (stAt pngL i).dx W) := fun k => plc_iff p4 k
  have HY : Hid (∀ k : Nat, (stAt pngL i).y + (k : Int) * (stAt pngL i).dy < H ↔ (k : Int) < plc (stAt pngL i).y (stAt pngL i).dy H) := fun k => plc_iff p6 k
  unfold PsV wid hig
  generalize stAt pngL i = p at *
  obtain ⟨x, y, dx, dy⟩ := p
  simp only at *
  generalize plc x dx W = PA at *
  generalize plc y dy H = PB at *
  obtain ⟨RA, hRA⟩ : ∃ RA, (if 0 < PA ∧ 0 < PB then PA else 0) = RA := ⟨_, rfl⟩
  obtain ⟨RB, hRB⟩ : ∃ RB, (if 0 < PA ∧ 0 < PB then PB else 0) = RB := ⟨_, rfl⟩
  rw [hRA, hRB]
  have HRR : Hid ((0 < PA → 0 < PB → RA = PA ∧ RB = PB) ∧ (¬ (0 < PA ∧ 0 < PB) → RA = 0 ∧ RB = 0)) := by
    rw [← hRA, ← hRB]
    exact ⟨fun h1 h2 => by simp [h1, h2], fun h => by simp [h]⟩
  clear hRA hRB
  have hii : (i : Int) < 7 := by omega
  have hKb : ∀ k : Nat, (k : Int) ≤ 2048 → 0 ≤ (k : Int) * dx ∧ (k : Int) * dx ≤ 20000 := fun k hk => ⟨Int.mul_nonneg (by omega) (by omega), by have : (k : Int) * dx ≤ 2048 * 8 := Int.mul_le_mul hk (by omega) (by omega) (by omega); omega⟩
  have hLb : ∀ k : Nat, (k : Int) ≤ 2048 → 0 ≤ (k : Int) * dy ∧ (k : Int) * dy ≤ 20000 := fun k hk => ⟨Int.mul_nonneg (by omega) (by omega), by have : (k : Int) * dy ≤ 2048 * 8 := Int.mul_le_mul hk (by omega) (by omega) (by omega); omega⟩
  have HK : Hid ((∀ k : Nat, (k : Int) ≤ 2048 → 0 ≤ (k : Int) * dx ∧ (k : Int) * dx ≤ 20000) ∧ (∀ k : Nat, (k : Int) ≤ 2048 → 0 ≤ (k : Int) * dy ∧ (k : Int) * dy ≤ 20000)) := ⟨hKb, hLb⟩
  clear hKb hLb
  go_enter Try.func10, Try.ntmps10
  go_wp2_with fail
  refine (CG _).mono ?_
  clear CG
  rintro e w1 ⟨rfl, hb1'⟩
  have HI := HS.out w1 hb1'
  clear hb1' HS
  go_upto_region 5 with fail
  generalize (w1.alloc (.cells #[.int .i64 x, .int .i64 y, .int .i64 dx, .int .i64 dy] 51)).alloc (.cells #[.int .i64 x, .int .i64 y, .int .i64 dx, .int .i64 dy, .int .i64 0, .int .i64 0] 24) = wp at *
  generalize w1.heap.size = gb at *
  have HI0 : Hid (RaI w gb (gb + 1) ⟨x, y, dx, dy⟩ 0 0 wp) := HI
  obtain ⟨g0, g1, g2, g3⟩ := four_cells HI.g
  simp only at g0 g1 g2 g3
  clear HI
  go_wp2
  go_loopw [9] (fun v wr => ∃ k : Nat, (k : Int) ≤ PA ∧ v = .int .i64 (x + (k : Int) * dx) ∧ Hid (RaI w gb (gb + 1) ⟨x, y, dx, dy⟩ k 0 wr)) (fun v _ => (W - intOf v).toNat)
  case atStart => exact ⟨0, by omega, by simp, HI0.out⟩
  case round =>
    clear HI0 g0 g1 g2 g3
    obtain ⟨k, hk, rfl, HI⟩ := hrel
    obtain ⟨g0, g1, g2, g3⟩ := four_cells HI.out.g
    simp only at g0 g1 g2 g3
    obtain ⟨u0, u1, u2, u3, u4, u5, uf⟩ := six_cells HI.out.q
    simp only at u0 u1 u2 u3 u4 u5
    have hx := HX.out k
    have hm := HK.out.1 k (by omega)
    have HN : Hid (x + ((k + 1 : Nat) : Int) * dx = x + (k : Int) * dx + dx) := by show _ = _; rw [Int.natCast_add, Int.add_mul]; simp; omega
    by_cases hc : x + (k : Int) * dx < W
    · have hk1 := hx.1 hc
      have HE : Hid (RaI w gb (gb + 1) ⟨x, y, dx, dy⟩ ((k : Int) + 1) 0 _) := HI.out.setA ((k : Int) + 1)
      clear hx HI
      obtain ⟨M, hM⟩ : ∃ M, (k : Int) * dx = M := ⟨_, rfl⟩
      rw [hM] at hc hm HN ⊢
      clear hM
      have g2' : (wr.setCell ⟨gb + 1, 4, none⟩ (.int .i64 ((k : Int) + 1))).cell? ⟨gb, 2, none⟩ = some (.int .i64 dx) := (four_cells HE.out.g).2.2.1
      go_wp2
      go_roundw
      case rel => exact ⟨k + 1, by omega, by rw [HN.out], HE.out⟩
      case measure => simp [intOf]; omega
    · have hk1 : (k : Int) = PA := by have := mt hx.2 hc; omega
      have HE : Hid (RaI w gb (gb + 1) ⟨x, y, dx, dy⟩ PA 0 wr) := by rw [← hk1]; exact HI.out
      clear hx HI HN hk1 u0 u1 u2 u3 u4 u5 uf
      obtain ⟨M, hM⟩ : ∃ M, (k : Int) * dx = M := ⟨_, rfl⟩
      rw [hM] at hc hm ⊢
      clear hM hk k
      go_wp2
      go_loopw [10] (fun v wr => ∃ k : Nat, (k : Int) ≤ PB ∧ v = .int .i64 (y + (k : Int) * dy) ∧ Hid (RaI w gb (gb + 1) ⟨x, y, dx, dy⟩ PA k wr)) (fun v _ => (H - intOf v).toNat)
      case atStart => exact ⟨0, by omega, by simp, HE.out⟩
      case round =>
        clear HE g0 g1 g2 g3
        obtain ⟨k, hk, rfl, HI⟩ := hrel
        obtain ⟨g0, g1, g2, g3⟩ := four_cells HI.out.g
        simp only at g0 g1 g2 g3
        obtain ⟨u0, u1, u2, u3, u4, u5, uf⟩ := six_cells HI.out.q
        simp only at u0 u1 u2 u3 u4 u5
        have hx := HY.out k
        have hm := HK.out.2 k (by omega)
        have HN : Hid (y + ((k + 1 : Nat) : Int) * dy = y + (k : Int) * dy + dy) := by show _ = _; rw [Int.natCast_add, Int.add_mul]; simp; omega
        by_cases hc : y + (k : Int) * dy < H
        · have hk1 := hx.1 hc
          have HE : Hid (RaI w gb (gb + 1) ⟨x, y, dx, dy⟩ PA ((k : Int) + 1) _) := HI.out.setB ((k : Int) + 1)
          clear hx HI
          obtain ⟨M, hM⟩ : ∃ M, (k : Int) * dy = M := ⟨_, rfl⟩
          rw [hM] at hc hm HN ⊢
          clear hM
          have g3' : (wr.setCell ⟨gb + 1, 5, none⟩ (.int .i64 ((k : Int) + 1))).cell? ⟨gb, 3, none⟩ = some (.int .i64 dy) := (four_cells HE.out.g).2.2.2
          go_wp2
          go_roundw
          case rel => exact ⟨k + 1, by omega, by rw [HN.out], HE.out⟩
          case measure => simp [intOf]; omega
        · have hk1 : (k : Int) = PB := by have := mt hx.2 hc; omega
          have HE : Hid (RaI w gb (gb + 1) ⟨x, y, dx, dy⟩ PA PB wr) := by rw [← hk1]; exact HI.out
          rw [hk1] at u5
          clear hx HI HN hk1
          obtain ⟨M, hM⟩ : ∃ M, (k : Int) * dy = M := ⟨_, rfl⟩
          rw [hM] at hc hm ⊢
          clear hM hk k
          obtain ⟨z0, z1, z2, z3, z4, z5, zf⟩ := six_cells HE.out.rb
          have fin : ∀ {A B : Int} {wz : World}, RaI w gb (gb + 1) ⟨x, y, dx, dy⟩ A B wz → Below w.heap.size w ((((((wz.setCell ⟨w.heap.size, 0, none⟩ (.int .i64 x)).setCell ⟨w.heap.size, 1, none⟩ (.int .i64 y)).setCell ⟨w.heap.size, 2, none⟩ (.int .i64 dx)).setCell ⟨w.heap.size, 3, none⟩ (.int .i64 dy)).setCell ⟨w.heap.size, 4, none⟩ (.int .i64 A)).setCell ⟨w.heap.size, 5, none⟩ (.int .i64 B)) := fun h =>
            (((((h.be.setCell (p := ⟨w.heap.size, 0, none⟩) (Nat.le_refl _) _).setCell (p := ⟨w.heap.size, 1, none⟩) (Nat.le_refl _) _).setCell (p := ⟨w.heap.size, 2, none⟩) (Nat.le_refl _) _).setCell (p := ⟨w.heap.size, 3, none⟩) (Nat.le_refl _) _).setCell (p := ⟨w.heap.size, 4, none⟩) (Nat.le_refl _) _).setCell (p := ⟨w.heap.size, 5, none⟩) (Nat.le_refl _) _
          by_cases hpp : 0 < PA ∧ 0 < PB
          · obtain ⟨q1, q2⟩ := hpp
            obtain ⟨rfl, rfl⟩ := HRR.out.1 q1 q2
            have HF : Hid _ := fin HE.out
            clear fin
            have e1 : (RA == 0) = false := by simp; omega
            have e2 : (RB == 0) = false := by simp; omega
            go_wp2
            refine bodyPost_ret (v := .agg #[.int .i64 x, .int .i64 y, .int .i64 dx, .int .i64 dy, .int .i64 RA, .int .i64 RB]) ?_ rfl ⟨rfl, HF.out⟩
            rw [results_cellA rfl]
            go_simp
          · obtain ⟨rfl, rfl⟩ := HRR.out.2 hpp
            have HE2 := (HE.out.setA 0).setB 0
            have HF : Hid _ := fin HE2
            obtain ⟨z0, z1, z2, z3, z4, z5, zf⟩ := six_cells HE2.rb
            obtain ⟨y0, y1, y2, y3, y4, y5, yf⟩ := six_cells HE2.q
            simp only at y0 y1 y2 y3
            clear fin
            rcases (show PA = 0 ∨ (0 < PA ∧ PB = 0) by omega) with rfl | ⟨q1, rfl⟩
            · clear HE2
              go_wp2
              refine bodyPost_ret (v := .agg #[.int .i64 x, .int .i64 y, .int .i64 dx, .int .i64 dy, .int .i64 0, .int .i64 0]) ?_ rfl ⟨rfl, HF.out⟩
              rw [results_cellA rfl]
              go_simp
            · clear HE2
              have e1 : (PA == 0) = false := by simp; omega
              go_wp2
              refine bodyPost_ret (v := .agg #[.int .i64 x, .int .i64 y, .int .i64 dx, .int .i64 dy, .int .i64 0, .int .i64 0]) ?_ rfl ⟨rfl, HF.out⟩
              rw [results_cellA rfl]
              go_simp
set_option maxHeartbeats 1600000 in
theorem rat_no (p W H : Int) (w : World) (h : ¬ atOk p W H) : Calls Try.prog 10 #[.int .i64 p, .int .i64 W, .int .i64 H] w fun e w' => e = .returned zeroPs ∧ Below w.heap.size w w' := by
  have hc : p < 1 ∨ (1 ≤ p ∧ 7 < p) ∨ (1 ≤ p ∧ p ≤ 7 ∧ W < 1) ∨ (1 ≤ p ∧ p ≤ 7 ∧ 1 ≤ W ∧ 2048 < W) ∨ (1 ≤ p ∧ p ≤ 7 ∧ 1 ≤ W ∧ W ≤ 2048 ∧ H < 1) ∨ (1 ≤ p ∧ p ≤ 7 ∧ 1 ≤ W ∧ W ≤ 2048 ∧ 1 ≤ H ∧ 2048 < H) := by
    unfold atOk at h; omega
  have HF : Hid (Below w.heap.size w (w.alloc (.cells #[.int .i64 0, .int .i64 0, .int .i64 0, .int .i64 0, .int .i64 0, .int .i64 0] 24))) := (Below.refl _ w).alloc (Nat.le_refl _) _
  clear h
  unfold zeroPs
  rcases hc with hc | hc | hc | hc | hc | hc
  all_goals
    go_enter Try.func10, Try.ntmps10
    go_wp2
    refine bodyPost_ret (v := .agg #[.int .i64 0, .int .i64 0, .int .i64 0, .int .i64 0, .int .i64 0, .int .i64 0]) ?_ rfl ⟨rfl, HF.out⟩
    rw [results_cellA rfl]
    go_simp
theorem rat_any (p W H : Int) (w : World) : Calls Try.prog 10 #[.int .i64 p, .int .i64 W, .int .i64 H] w fun e w' => e = .returned (atV p W H) ∧ Below w.heap.size w w' := by
  unfold atV
  by_cases h : atOk p W H
  · rw [if_pos h]
    obtain ⟨h1, h2, h3, h4, h5, h6⟩ := h
    obtain ⟨i, hi⟩ : ∃ i : Nat, (p - 1).toNat = i := ⟨_, rfl⟩
    obtain rfl : p = (i : Int) + 1 := by omega
    rw [hi]
    exact rat_yes i W H w (by omega) h3 h4 h5 h6
  · rw [if_neg h]
    exact rat_no p W H w h
end Go.Proofs.Ytjkhldnjciakkaa
