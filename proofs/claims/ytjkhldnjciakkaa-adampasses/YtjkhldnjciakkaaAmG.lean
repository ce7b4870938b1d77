/- One of PNG's passes: the program's and the document's. -/
import Derived.Test.YtjkhldnjciakkaaAmE
namespace Go.Proofs.Ytjkhldnjciakkaa
open Go.RowKit
theorem six_cells {w : World} {b : Nat} {v0 v1 v2 v3 v4 v5 : Value} {t : TypeId} (h : w.heap[b]? = some (.cells #[v0, v1, v2, v3, v4, v5] t (0, 0))) : w.cell? ⟨b, 0, none⟩ = some v0 ∧ w.cell? ⟨b, 1, none⟩ = some v1 ∧ w.cell? ⟨b, 2, none⟩ = some v2 ∧ w.cell? ⟨b, 3, none⟩ = some v3 ∧ w.cell? ⟨b, 4, none⟩ = some v4 ∧ w.cell? ⟨b, 5, none⟩ = some v5 ∧ ∀ j, w.frozen? ⟨b, j, none⟩ = false := by
  refine ⟨?_, ?_, ?_, ?_, ?_, ?_, fun j => ?_⟩ <;> simp [World.cell?, World.frozen?, h]
abbrev atOk (p W H : Int) : Prop := 1 ≤ p ∧ p ≤ 7 ∧ 1 ≤ W ∧ W ≤ 2048 ∧ 1 ≤ H ∧ H ≤ 2048
def zeroPs : Value := .agg #[.int .i64 0, .int .i64 0, .int .i64 0, .int .i64 0, .int .i64 0, .int .i64 0]
def atV (p W H : Int) : Value := if atOk p W H then PsV (stAt pngL (p - 1).toNat) (wid (stAt pngL (p - 1).toNat) W H) (hig (stAt pngL (p - 1).toNat) W H) else zeroPs
set_option maxHeartbeats 1600000 in
theorem at_yes (i : Nat) (W H : Int) (w : World) (hi : i < 7) (h1 : 1 ≤ W) (h2 : W ≤ 2048) (h3 : 1 ≤ H) (h4 : H ≤ 2048) : Calls Try.prog 9 #[.int .i64 ((i : Int) + 1), .int .i64 W, .int .i64 H] w fun e w' =>
    e = .returned (PsV (stAt pngL i) (wid (stAt pngL i) W H) (hig (stAt pngL i) W H)) ∧ Below w.heap.size w w' := by
  have hok : (stAt pngL i).ok := stAt_ok (pngOf_ok true) i
  obtain ⟨wn, hwn⟩ : ∃ wn, w.alloc (.cells #[.int .i64 0, .int .i64 0, .int .i64 0, .int .i64 0, .int .i64 0, .int .i64 0] 24) = wn := ⟨_, rfl⟩
  have HN : Hid (Below w.heap.size w wn ∧ wn.heap[w.heap.size]? = some (.cells #[.int .i64 0, .int .i64 0, .int .i64 0, .int .i64 0, .int .i64 0, .int .i64 0] 24 (0, 0))) := by
    rw [← hwn]; exact ⟨(Below.refl _ w).alloc (Nat.le_refl _) _, World.alloc_heap_new w _⟩
  have HW : Hid (w.alloc (.cells #[.int .i64 0, .int .i64 0, .int .i64 0, .int .i64 0, .int .i64 0, .int .i64 0] 24) = wn) := hwn
  clear hwn
  have CS := pngSteps_any true wn
  have hl7 : (pngOf true).length = 7 := rfl
  rw [hl7] at CS
  have hp := stAt_some (L := pngL) (i := i) hi
  have c1 := fun w => isSide_any W w
  have c2 := fun w => isSide_any H w
  rw [decide_eq_true h1, decide_eq_true h2] at c1
  rw [decide_eq_true h3, decide_eq_true h4] at c2
  simp only [Bool.and_self] at c1 c2
  have HP : Hid (pngL[i]? = some (stAt pngL i)) := hp
  clear hp hl7
  generalize stAt pngL i = p at *
  obtain ⟨x, y, dx, dy⟩ := p
  have hii : (i : Int) < 7 := by omega
  have CW := fun w1 => within_any ⟨x, y, dx, dy⟩ W H w1 hok h1 h2 h3 h4
  generalize wid ⟨x, y, dx, dy⟩ W H = A at *
  generalize hig ⟨x, y, dx, dy⟩ W H = B at *
  unfold PsV at *
  simp only at CW ⊢
  go_enter Try.func9, Try.ntmps9
  go_wp2_with fail
  rw [HW.out]
  refine CS.mono ?_
  clear CS
  rintro e w1 ⟨rfl, hw1⟩
  have H1 : Hid (StRow w1 wn.heap.size pngL ∧ Below wn.heap.size wn w1) := by rw [hw1]; exact ⟨StRow.new wn pngL, (Below.refl _ wn).alloc (Nat.le_refl _) _⟩
  clear hw1
  obtain ⟨m0, m1, m2, m3, m4, m5⟩ := H1.out.1.cells HP.out
  simp only at m0 m1 m2 m3
  go_wp2_with fail
  refine (c1 _).mono ?_
  rintro e w2 ⟨rfl, rfl⟩
  go_wp2_with fail
  refine (c2 _).mono ?_
  rintro e w2 ⟨rfl, rfl⟩
  go_wp2_with fail
  refine (CW _).mono ?_
  clear CW
  rintro e w2 ⟨rfl, hb2⟩
  have HB : Hid (Below w.heap.size w w2 ∧ w2.heap[w.heap.size]? = some (.cells #[.int .i64 0, .int .i64 0, .int .i64 0, .int .i64 0, .int .i64 0, .int .i64 0] 24 (0, 0))) := by
    have k := HN.out
    have k1 := H1.out.2
    have h3 : Below wn.heap.size wn w2 := k1.trans (hb2.mono k1.size)
    exact ⟨k.1.trans (h3.mono k.1.size), (h3.block _ (lt_of_block k.2)).trans k.2⟩
  clear m0 m1 m2 m3 m4 m5 hb2 H1 HN HW c1 c2
  obtain ⟨u0, u1, u2, u3, u4, u5, uf⟩ := six_cells HB.out.2
  go_wp2
  refine bodyPost_ret (v := .agg #[.int .i64 x, .int .i64 y, .int .i64 dx, .int .i64 dy, .int .i64 A, .int .i64 B]) ?_ rfl ⟨rfl, ?_⟩
  · rw [results_cellA rfl]
    go_simp
  · exact (((((HB.out.1.setCell (p := ⟨w.heap.size, 0, none⟩) (Nat.le_refl _) _).setCell (p := ⟨w.heap.size, 1, none⟩) (Nat.le_refl _) _).setCell (p := ⟨w.heap.size, 2, none⟩) (Nat.le_refl _) _).setCell (p := ⟨w.heap.size, 3, none⟩) (Nat.le_refl _) _).setCell (p := ⟨w.heap.size, 4, none⟩) (Nat.le_refl _) _).setCell (p := ⟨w.heap.size, 5, none⟩) (Nat.le_refl _) _
set_option maxHeartbeats 1600000 in
theorem at_no (p W H : Int) (w : World) (h : ¬ atOk p W H) : Calls Try.prog 9 #[.int .i64 p, .int .i64 W, .int .i64 H] w fun e w' => e = .returned zeroPs ∧ Below w.heap.size w w' := by
  obtain ⟨wn, hwn⟩ : ∃ wn, w.alloc (.cells #[.int .i64 0, .int .i64 0, .int .i64 0, .int .i64 0, .int .i64 0, .int .i64 0] 24) = wn := ⟨_, rfl⟩
  have HN : Hid (Below w.heap.size w wn ∧ wn.heap[w.heap.size]? = some (.cells #[.int .i64 0, .int .i64 0, .int .i64 0, .int .i64 0, .int .i64 0, .int .i64 0] 24 (0, 0))) := by
    rw [← hwn]; exact ⟨(Below.refl _ w).alloc (Nat.le_refl _) _, World.alloc_heap_new w _⟩
  have HW : Hid (w.alloc (.cells #[.int .i64 0, .int .i64 0, .int .i64 0, .int .i64 0, .int .i64 0, .int .i64 0] 24) = wn) := hwn
  clear hwn
  have CS := pngSteps_any true wn
  have hl7 : (pngOf true).length = 7 := rfl
  rw [hl7] at CS
  have c1 := fun w => isSide_any W w
  have c2 := fun w => isSide_any H w
  generalize hA : (decide (1 ≤ W) && decide (W ≤ 2048)) = A at *
  generalize hB : (decide (1 ≤ H) && decide (H ≤ 2048)) = B at *
  have hc : p < 1 ∨ (1 ≤ p ∧ 7 < p) ∨ (1 ≤ p ∧ p ≤ 7 ∧ A = false) ∨ (1 ≤ p ∧ p ≤ 7 ∧ A = true ∧ B = false) := by
    have hA' : A = true ↔ 1 ≤ W ∧ W ≤ 2048 := by rw [← hA]; simp
    have hB' : B = true ↔ 1 ≤ H ∧ H ≤ 2048 := by rw [← hB]; simp
    unfold atOk at h
    cases A <;> cases B <;> simp at hA' hB' ⊢ <;> omega
  clear hl7 hA hB h
  unfold zeroPs
  go_enter Try.func9, Try.ntmps9
  go_wp2_with fail
  rw [HW.out]
  refine CS.mono ?_
  clear CS
  rintro e w1 ⟨rfl, hw1⟩
  have HB : Hid (Below w.heap.size w w1 ∧ w1.heap[w.heap.size]? = some (.cells #[.int .i64 0, .int .i64 0, .int .i64 0, .int .i64 0, .int .i64 0, .int .i64 0] 24 (0, 0))) := by
    have k := HN.out
    have k1 : Below wn.heap.size wn w1 := by rw [hw1]; exact (Below.refl _ wn).alloc (Nat.le_refl _) _
    exact ⟨k.1.trans (k1.mono k.1.size), (k1.block _ (lt_of_block k.2)).trans k.2⟩
  clear hw1 HN HW
  obtain ⟨u0, u1, u2, u3, u4, u5, uf⟩ := six_cells HB.out.2
  have fin : Hid (Below w.heap.size w ((((((w1.setCell ⟨w.heap.size, 0, none⟩ (.int .i64 0)).setCell ⟨w.heap.size, 1, none⟩ (.int .i64 0)).setCell ⟨w.heap.size, 2, none⟩ (.int .i64 0)).setCell ⟨w.heap.size, 3, none⟩ (.int .i64 0)).setCell ⟨w.heap.size, 4, none⟩ (.int .i64 0)).setCell ⟨w.heap.size, 5, none⟩ (.int .i64 0))) :=
    (((((HB.out.1.setCell (p := ⟨w.heap.size, 0, none⟩) (Nat.le_refl _) _).setCell (p := ⟨w.heap.size, 1, none⟩) (Nat.le_refl _) _).setCell (p := ⟨w.heap.size, 2, none⟩) (Nat.le_refl _) _).setCell (p := ⟨w.heap.size, 3, none⟩) (Nat.le_refl _) _).setCell (p := ⟨w.heap.size, 4, none⟩) (Nat.le_refl _) _).setCell (p := ⟨w.heap.size, 5, none⟩) (Nat.le_refl _) _
  rcases hc with hc | hc | hc | hc
  · clear c1 c2
    go_wp2
    refine bodyPost_ret (v := .agg #[.int .i64 0, .int .i64 0, .int .i64 0, .int .i64 0, .int .i64 0, .int .i64 0]) ?_ rfl ⟨rfl, fin.out⟩
    rw [results_cellA rfl]
    go_simp
  · clear c1 c2
    go_wp2
    refine bodyPost_ret (v := .agg #[.int .i64 0, .int .i64 0, .int .i64 0, .int .i64 0, .int .i64 0, .int .i64 0]) ?_ rfl ⟨rfl, fin.out⟩
    rw [results_cellA rfl]
    go_simp
  · obtain ⟨hc1, hc2, rfl⟩ := hc
    go_wp2_with fail
    refine (c1 _).mono ?_
    rintro e w2 ⟨rfl, rfl⟩
    clear c1 c2
    go_wp2
    refine bodyPost_ret (v := .agg #[.int .i64 0, .int .i64 0, .int .i64 0, .int .i64 0, .int .i64 0, .int .i64 0]) ?_ rfl ⟨rfl, fin.out⟩
    rw [results_cellA rfl]
    go_simp
  · obtain ⟨hc1, hc2, rfl, rfl⟩ := hc
    go_wp2_with fail
    refine (c1 _).mono ?_
    rintro e w2 ⟨rfl, rfl⟩
    go_wp2_with fail
    refine (c2 _).mono ?_
    rintro e w2 ⟨rfl, rfl⟩
    clear c1 c2
    go_wp2
    refine bodyPost_ret (v := .agg #[.int .i64 0, .int .i64 0, .int .i64 0, .int .i64 0, .int .i64 0, .int .i64 0]) ?_ rfl ⟨rfl, fin.out⟩
    rw [results_cellA rfl]
    go_simp
theorem at_any (p W H : Int) (w : World) : Calls Try.prog 9 #[.int .i64 p, .int .i64 W, .int .i64 H] w fun e w' => e = .returned (atV p W H) ∧ Below w.heap.size w w' := by
  unfold atV
  by_cases h : atOk p W H
  · rw [if_pos h]
    obtain ⟨h1, h2, h3, h4, h5, h6⟩ := h
    obtain ⟨i, hi⟩ : ∃ i : Nat, (p - 1).toNat = i := ⟨_, rfl⟩
    obtain rfl : p = (i : Int) + 1 := by omega
    rw [hi]
    exact at_yes i W H w (by omega) h3 h4 h5 h6
  · rw [if_neg h]
    exact at_no p W H w h
end Go.Proofs.Ytjkhldnjciakkaa
