/- LZW: the calls whose answers the document fixes. -/
import Derived.Test.YtcbmlioeeoghkaaLzU
import Derived.Test.YtcbmlioeeoghkaaLzV
import Derived.Test.YtcbmlioeeoghkaaSmC
namespace Go.Proofs.Ytcbmlioeeoghkaa
open Go.RowKit
theorem wid_23 {n : Nat} (h : n < 8) : widN 2 n = 3 := by
  unfold widN; rw [widG_eq, if_neg (by omega)]
theorem wid_24 {n : Nat} (h : 8 ≤ n) (h2 : n < 16) : widN 2 n = 4 := by
  unfold widN; rw [widG_eq, if_pos (by omega), widG_eq, if_neg (by omega)]
theorem ex_pk : outE (pkA 2 0 [1, 1, 1, 1]) = [140, 83] := by
  have e : pkA 2 0 [1, 1, 1, 1] = [(4, 3), (1, 3), (6, 3), (1, 3), (5, 4)] := by
    simp [pkA, pkE, lngN, ixT, lrnP, fcN, widW, wid_23, wid_24]
  rw [e]
  decide
theorem tx_root {L c : Nat} {fs : List Tx} (h : c < 2 ^ L) : txC L fs c = [(c : Int) % 256] := txC_root (by unfold fcN; omega)
theorem ex_lz : lzG 2 ((lz0 4).fed [140, 83]) = ⟨1, 0, [], 0, [], 0, 0, [1, 1, 1, 1], []⟩ := by
  have e0 : (lz0 4).fed [140, 83] = ⟨0, 4, [], -1, [140, 83], 0, 0, [], []⟩ := rfl
  rw [e0]
  have w0 : ∀ s : Lz, s.fs.length ≤ 1 → lzW 2 s = 3 := fun s h => wid_23 (by unfold fcN; omega)
  have e1 : lzS 2 ⟨0, 4, [], -1, [140, 83], 0, 0, [], []⟩ = some ⟨0, 4, [], -1, [140, 83], 3, 0, [], []⟩ := by
    simp [lzS, w0, lzV, lzP, lzC, bitV, litN]
  have e2 : lzS 2 ⟨0, 4, [], -1, [140, 83], 3, 0, [], []⟩ = some ⟨0, 3, [], 1, [140, 83], 6, 0, [1], []⟩ := by
    simp [lzS, w0, lzV, lzP, lzC, bitV, litN, flwN, lzT, tx_root]
  have f1 : ∀ fs, fsC 2 fs 1 = 1 := fun fs => fsC_root (by unfold fcN; omega)
  have t6 : txC 2 [(1, 1)] 6 = [1, 1] := by
    rw [txC_eq, if_pos (by decide)]
    show txC 2 [(1, 1)] 1 ++ [1] = _
    rw [tx_root (by decide)]; rfl
  have e3 : lzS 2 ⟨0, 3, [], 1, [140, 83], 6, 0, [1], []⟩ = some ⟨0, 1, [(1, 1)], 6, [83], 1, 0, [1, 1, 1], []⟩ := by
    simp [lzS, w0, lzV, lzP, lzC, bitV, litN, flwN, lzT, f1, fcN, lrnN, t6]
  have e4 : lzS 2 ⟨0, 1, [(1, 1)], 6, [83], 1, 0, [1, 1, 1], []⟩ = some ⟨0, 0, [(1, 1), (6, 1)], 1, [83], 4, 0, [1, 1, 1, 1], []⟩ := by
    simp [lzS, w0, lzV, lzP, lzC, bitV, litN, flwN, lzT, f1, fcN, lrnN, tx_root]
  have w5 : lzW 2 ⟨0, 0, [(1, 1), (6, 1)], 1, [83], 4, 0, [1, 1, 1, 1], []⟩ = 4 := wid_24 (by decide) (by decide)
  have e5 : lzS 2 ⟨0, 0, [(1, 1), (6, 1)], 1, [83], 4, 0, [1, 1, 1, 1], []⟩ = some ⟨1, 0, [], 0, [], 0, 0, [1, 1, 1, 1], []⟩ := by
    simp [lzS, w5, lzV, lzP, lzC, bitV, litN]
  rw [lzG_step (by decide) rfl e1, lzG_step (by decide) rfl e2, lzG_step (by decide) rfl e3, lzG_step (by decide) rfl e4, lzG_done (by decide) rfl e5 (by decide)]
theorem row_litL (w : World) (l : List Int) : Row (w.alloc (.cells (vals l).toArray 5)) (some ⟨w.heap.size, 0, none⟩) l := by
  refine .inr ⟨w.heap.size, 0, rfl, fun i hi => ?_⟩
  rw [Nat.zero_add, World.cell?_alloc_mark]
  simp [vals, List.getElem?_eq_getElem hi]
set_option maxHeartbeats 1600000 in
set_option maxRecDepth 20000 in
theorem lfixed_any (w : World) : Calls Try.prog 9 #[] w fun e w' => e = .returned (.bool true) ∧ Below w.heap.size w w' := by
  have hba : Below w.heap.size w (w.alloc (.cells #[.int .u8 1, .int .u8 1, .int .u8 1, .int .u8 1] 5)) := (Below.refl _ w).alloc (Nat.le_refl _) _
  have C1 : Calls Try.prog 18 #[.slice (some ⟨w.heap.size, 0, none⟩) 4 4, .int .i64 2, .int .i64 0] (w.alloc (.cells #[.int .u8 1, .int .u8 1, .int .u8 1, .int .u8 1] 5)) fun e w' => NewBytes2 (w.alloc (.cells #[.int .u8 1, .int .u8 1, .int .u8 1, .int .u8 1] 5)) (outE (pkA 2 0 [1, 1, 1, 1])) e w' :=
    lpack_yes (L := 2) (t := 0) (bs := [1, 1, 1, 1]) (by decide) (by decide) (by decide) rfl (by decide) (by decide) (fun h => by cases h) (row_litL w [1, 1, 1, 1]) (by intro z hz; simp at hz; omega) (by intro z hz; simp at hz; subst hz; decide)
  rw [ex_pk] at C1
  have HBA : Hid (Below w.heap.size w (w.alloc (.cells #[.int .u8 1, .int .u8 1, .int .u8 1, .int .u8 1] 5))) := hba
  clear hba
  go_enter Try.func9, Try.ntmps9
  go_wp2_with fail
  refine C1.mono ?_
  clear C1
  rintro e w1 ⟨a1, c1, rfl, hc1, hm1, hn1, hr1, hb1⟩
  simp only [List.length_cons, List.length_nil, Nat.zero_add, Nat.reduceAdd] at hc1
  have HB1 : Hid (Below w.heap.size w w1) := HBA.out.trans (hb1.mono HBA.out.size)
  have HR1 : Hid (Row w1 a1 [140, 83] ∧ (a1 = none → c1 = 0)) := ⟨hr1, hn1⟩
  unfold maxLen at hm1
  clear hr1 hb1 hn1 HBA
  have C2 : Calls Try.prog 10 #[.int .i64 2, .int .i64 4] w1 fun e w' => LnPost w1 2 4 e w' := lnew_yes (L := 2) (by decide) 4 (by decide) w1
  go_wp2_with fail
  refine C2.mono ?_
  clear C2
  rintro e w2 ⟨S, rfl, hm2, hb2⟩
  have C3 := lpush_any (by decide) hm2 [140, 83] a1 2 c1 rfl HR1.out.2 (HR1.out.1.old hb2) (by intro z hz; simp at hz; omega) (fun _ => by show 0 + 2 ≤ _; decide) (fun _ => by show 0 + 2 ≤ _; decide)
  have HB2 : Hid (Below w.heap.size w w2 ∧ Row w2 a1 [140, 83] ∧ Below w1.heap.size w1 w2 ∧ ∀ k, S k → w1.heap.size ≤ k) := ⟨HB1.out.trans (hb2.mono HB1.out.size), HR1.out.1.old hb2, hb2, fun k hk => (hm2.sb k hk).1⟩
  clear hm2 hb2
  obtain ⟨D, hD⟩ : ∃ D, w1.heap.size = D := ⟨_, rfl⟩
  rw [hD] at C3 ⊢
  go_wp2_with fail
  refine C3.mono ?_
  clear C3
  rintro e w3 ⟨s', S', T, tv, tg, rfl, hs', hT, hm3, hl3, hg3, hS3, hf3⟩
  rw [ex_lz] at hs'
  subst hs'
  obtain rfl : T = [1, 1, 1, 1] := by simpa [lz0] using hT.symm
  obtain ⟨a3, c3, hv3, -⟩ := hl3.shape
  rw [vals_len] at hv3
  simp only [List.length_cons, List.length_nil, Nat.zero_add, Nat.reduceAdd] at hv3
  subst hv3
  have hb13 : Below w1.heap.size w1 w3 := by
    have h := HB2.out.2.2.1
    exact ⟨hf3.os.trans h.os, hf3.tape.trans h.tape, hf3.output.trans h.output, Nat.le_trans h.size hf3.size, fun k hk => (hf3.block k (by have := h.size; omega) (fun e => by have := HB2.out.2.2.2 k e; omega)).trans (h.block k hk)⟩
  have HX : Hid (Below w.heap.size w w3 ∧ Row w3 a1 [140, 83] ∧ Row w3 a3 [1, 1, 1, 1] ∧ ∃ S, LMem D w3 D 2 ⟨1, 0, [], 0, [], 0, 0, [1, 1, 1, 1], []⟩ S) := ⟨HB1.out.trans (hb13.mono HB1.out.size), HR1.out.1.old hb13, hl3.row rfl, S', hm3⟩
  clear hm3 hl3 hg3 hS3 hf3 hT hb13 HB2 HB1 HR1 hD
  obtain ⟨w4, hw4⟩ : ∃ w4, w3.alloc (.cells #[.int .u8 4] 5) = w4 := ⟨_, rfl⟩
  have hb4 : Below w3.heap.size w3 w4 := by rw [← hw4]; exact (Below.refl _ _).alloc (Nat.le_refl _) _
  have C4 : Calls Try.prog 18 #[.slice (some ⟨w3.heap.size, 0, none⟩) 1 1, .int .i64 2, .int .i64 0] w4 fun e w' => e = .returned (.tuple #[.slice none 0 0, .int .i64 1]) ∧ w' = w4 :=
    lpack_root (L := 2) (t := 0) (bs := [4]) (by decide) (by decide) rfl (by decide) (by decide) (by rw [← hw4]; exact row_litL w3 [4]) (by intro z hz; simp at hz; omega) (by intro h; have := h 4 (by simp); revert this; decide)
  go_wp2_with fail
  refine C4.mono ?_
  clear C4
  rintro e w' ⟨rfl, hw'⟩
  subst w'
  obtain ⟨h1, h2, h3, S2, h4⟩ := HX.out
  have HY : Hid (Below w.heap.size w w4 ∧ Row w4 a1 [140, 83] ∧ Row w4 a3 [1, 1, 1, 1] ∧ LMem D w4 D 2 ⟨1, 0, [], 0, [], 0, 0, [1, 1, 1, 1], []⟩ S2) := ⟨h1.trans (hb4.mono h1.size), h2.old hb4, h3.old hb4, h4.old hb4⟩
  clear HX h1 h2 h3 h4 hb4 hw4
  obtain ⟨w5, hw5⟩ : ∃ w5, w4.alloc (.cells #[.int .u8 140, .int .u8 83] 5) = w5 := ⟨_, rfl⟩
  have hb5 : Below w4.heap.size w4 w5 := by rw [← hw5]; exact (Below.refl _ _).alloc (Nat.le_refl _) _
  have C5 := same_any a1 (some ⟨w4.heap.size, 0, none⟩) 2 c1 2 [140, 83] w5 rfl (HY.out.2.1.old hb5) (by rw [← hw5]; exact row_litL w4 [140, 83])
  go_wp2_with fail
  refine C5.mono ?_
  clear C5
  rintro e w' ⟨rfl, hw'⟩
  subst w'
  obtain ⟨w6, hw6⟩ : ∃ w6, w5.alloc (.cells #[.int .u8 1, .int .u8 1, .int .u8 1, .int .u8 1] 5) = w6 := ⟨_, rfl⟩
  have hb6 : Below w5.heap.size w5 w6 := by rw [← hw6]; exact (Below.refl _ _).alloc (Nat.le_refl _) _
  have C6 := same_any a3 (some ⟨w5.heap.size, 0, none⟩) 4 c3 4 [1, 1, 1, 1] w6 rfl ((HY.out.2.2.1.old hb5).old hb6) (by rw [← hw6]; exact row_litL w5 [1, 1, 1, 1])
  have C7 := ldone_any ((HY.out.2.2.2.old hb5).old hb6)
  have HZ : Hid (Below w.heap.size w w6) := (HY.out.1.trans (hb5.mono HY.out.1.size)).trans (hb6.mono (Nat.le_trans HY.out.1.size hb5.size))
  clear HY hb5 hb6 hw5
  go_wp2_with fail
  refine C6.mono ?_
  clear C6
  rintro e w' ⟨rfl, hw'⟩
  subst w'
  go_wp2_with fail
  refine C7.mono ?_
  clear C7
  rintro e w' ⟨rfl, hw'⟩
  subst w'
  go_wp2
  go_ret
  exact ⟨rfl, HZ.out⟩
end Go.Proofs.Ytcbmlioeeoghkaa
