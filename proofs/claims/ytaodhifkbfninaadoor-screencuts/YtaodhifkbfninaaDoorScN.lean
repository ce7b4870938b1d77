/- A GIF's beginning is written: the program's Write. -/
import Derived.Test.YtaodhifkbfninaaDoorScM
namespace Go.Proofs.YtaodhifkbfninaaDoor
open Go.RowKit
def wrL (W H : Int) (T : List Int) (Lo : Bool) (C : Int) (La : Bool) (B : Int) (k : Nat) : List Int :=
  nmB ++ sdL W H ++ [smB Lo k, 0, 0] ++ (if Lo then [] else T) ++ (if C = -1 then [] else [33, 249, 4, 1, 0, 0, C, 0]) ++ [44, 0, 0, 0, 0] ++ sdL W H ++ [pmB Lo La k] ++ (if Lo then T else []) ++ [B]
/-- What is written so far. -/
def WrI (w : World) (W H : Int) (tv : Value) (Lo : Bool) (C : Int) (La : Bool) (B : Int) (out : List Int) (v : Value) (g : Option Nat) (wr : World) : Prop := Qs w W H tv Lo C La B wr ∧ Sl wr 5 v g (vals out) ∧ ∀ k, g = some k → w.heap.size < k
section
variable {w : World} {W H : Int} {tv : Value} {Lo : Bool} {C : Int} {La : Bool} {B : Int} {out : List Int} {v : Value} {g : Option Nat} {wr : World}
theorem WrI.old {w2 : World} (h : WrI w W H tv Lo C La B out v g wr) (hb : Below wr.heap.size wr w2) : WrI w W H tv Lo C La B out v g w2 := ⟨h.1.old hb, h.2.1.same fun k hk => hb.block k (h.2.1.lt hk), h.2.2⟩
theorem WrI.more {w2 w7 : World} {ys : List Int} {v7 : Value} {g7 : Option Nat} (h : WrI w W H tv Lo C La B out v g wr) (hb : Below wr.heap.size wr w2) (hs : Sl w7 5 v7 g7 (vals (out ++ ys))) (hg : g7 = g ∨ ∃ k, g7 = some k ∧ w2.heap.size ≤ k) (hgr : w2.grownBy w7 g) : WrI w W H tv Lo C La B (out ++ ys) v7 g7 w7 := by
  have q2 := h.1.old hb
  have hlt := lt_of_block q2.2
  refine ⟨⟨q2.1.grown hgr q2.1.size (fun k hk => by have := h.2.2 k hk; omega), (hgr.block _ hlt (fun e => by have := h.2.2 _ e.symm; omega)).trans q2.2⟩, hs, ?_⟩
  intro k hk
  rcases hg with e | ⟨j, e, hj⟩
  · rw [e] at hk; exact h.2.2 k hk
  · rw [e] at hk; cases hk; omega
end
def WtPost (w : World) (L : List Int) (e : Ending) (w' : World) : Prop := ∃ a c g, e = .returned (.tuple #[.slice a L.length c, .int .i64 0]) ∧ Sl w' 5 (.slice a L.length c) g (vals L) ∧ (∀ k, g = some k → w.heap.size ≤ k) ∧ Below w.heap.size w w'
set_option maxHeartbeats 800000 in
theorem write_no (W H : Int) (ta : Option Addr) (tn tc : Nat) (Lo : Bool) (C : Int) (La : Bool) (B : Int) (w : World) (he : wrE W H tn C B ≠ 0) : Calls Tryd.prog 13 #[ScV W H (.slice ta tn tc) Lo C La B] w fun e w' => e = .returned (.tuple #[.slice none 0 0, .int .i64 (wrE W H tn C B)]) ∧ Below w.heap.size w w' := by
  have HQ : Hid (Qs w W H (.slice ta tn tc) Lo C La B _) := Qs.box w W H (.slice ta tn tc) Lo C La B
  have CC := check_any W H ta tn tc Lo C La B (w.alloc (.cells #[.int .i64 W, .int .i64 H, .slice ta tn tc, .bool Lo, .int .i64 C, .bool La, .int .i64 B] 26))
  have h1 : (wrE W H tn C B != 0) = true := by simpa using he
  have h2 : (wrE W H tn C B == 0) = false := by simpa using he
  generalize wrE W H tn C B = E at *
  unfold ScV at *
  go_enter Tryd.func13, Tryd.ntmps13
  go_wp2_with fail
  refine CC.mono ?_
  clear CC
  rintro e w1 ⟨rfl, hb1⟩
  have HQ1 := HQ.out.old hb1
  go_wp2
  go_ret2
  exact ⟨rfl, HQ1.1⟩
set_option maxHeartbeats 6400000 in
set_option maxRecDepth 20000 in
theorem write_yes (W H : Int) (ta : Option Addr) (tn tc : Nat) (Lo : Bool) (C : Int) (La : Bool) (B : Int) (T : List Int) (k : Nat) (w : World) (ht : TabD w) (hk : k < 8) (hn : tn = 2 ^ (k + 1)) (he : wrE W H tn C B = 0) (hl : T.length = 3 * tn) (hc : tn ≤ tc) (hr : Row w ta T) : Calls Tryd.prog 13 #[ScV W H (.slice ta tn tc) Lo C La B] w fun e w' => WtPost w (wrL W H T Lo C La B k) e w' := by
  have HQ : Hid (Qs w W H (.slice ta tn tc) Lo C La B _) := Qs.box w W H (.slice ta tn tc) Lo C La B
  have htn : tn ≤ 256 := (tbOk_bd ⟨k, hk, hn⟩).2
  have CC := check_any W H ta tn tc Lo C La B (w.alloc (.cells #[.int .i64 W, .int .i64 H, .slice ta tn tc, .bool Lo, .int .i64 C, .bool La, .int .i64 B] 26))
  rw [he] at CC
  have HTD : Hid (TabD w) := ht
  have HKN : Hid (tn = 2 ^ (k + 1)) := hn
  have HT3 : Hid (T.length = 3 * tn ∧ tn ≤ 256 ∧ tn ≤ tc ∧ Row w ta T) := ⟨hl, htn, hc, hr⟩
  have hbd : (-1 ≤ C ∧ C ≤ 255) ∧ 2 ≤ B ∧ B ≤ 8 := by
    unfold wrE at he
    by_cases h1 : picN W H
    · rw [if_pos h1] at he
      by_cases h2 : tbOk tn
      · rw [if_pos h2] at he
        by_cases h3 : (-1 ≤ C ∧ C ≤ 255) ∧ 2 ≤ B ∧ B ≤ 8
        · exact h3
        · rw [if_neg h3] at he; omega
      · rw [if_neg h2] at he; omega
    · rw [if_neg h1] at he; omega
  have hSM : 0 ≤ smB Lo k ∧ smB Lo k ≤ 255 := by unfold smB; cases Lo <;> simp <;> omega
  have hPM : 0 ≤ pmB Lo La k ∧ pmB Lo La k ≤ 255 := by unfold pmB; cases Lo <;> cases La <;> simp <;> omega
  obtain ⟨SM, hSMe⟩ : ∃ SM, smB Lo k = SM := ⟨_, rfl⟩
  obtain ⟨PM, hPMe⟩ : ∃ PM, pmB Lo La k = PM := ⟨_, rfl⟩
  rw [hSMe] at hSM
  rw [hPMe] at hPM
  have HSP : Hid (smB Lo k = SM ∧ pmB Lo La k = PM) := ⟨hSMe, hPMe⟩
  have kc := fun (w : World) (Cx : Array Value) (n c g : Nat) (hg : g = w.heap.size) => Go.Joins.run_convert_bytes_const_at (P := Tryd.prog) w 22 5 Cx n c g hg Tryd.underlying22 Tryd.underlying5
  have HSI : Hid (∀ w1, Calls Tryd.prog 24 #[ScV W H (.slice ta tn tc) Lo C La B] w1 fun e w' => NewBytes w1 (sdL W H) e w') := fun w1 => sides_any W H ta tn tc Lo C La B w1
  obtain ⟨⟨hc1, hc2⟩, hb1, hb2⟩ := hbd
  have m1 : SM % 256 = SM := by omega
  have m2 : PM % 256 = PM := by omega
  have m3 : B % 256 = B := by omega
  have u1 : IntKind.u8.wrap SM = SM := by rw [IntKind.wrap_u8]; omega
  have u2 : IntKind.u8.wrap PM = PM := by rw [IntKind.wrap_u8]; omega
  have u3 : IntKind.u8.wrap B = B := by rw [IntKind.wrap_u8]; omega
  clear ht he hl hc hr htn hn hSMe hPMe
  unfold ScV at *
  go_enter Tryd.func13, Tryd.ntmps13
  go_wp2_with fail
  refine CC.mono ?_
  clear CC
  rintro e w1 ⟨rfl, hbb⟩
  have HQ1 : Hid (Qs w W H (.slice ta tn tc) Lo C La B w1) := HQ.out.old hbb
  clear hbb HQ
  obtain ⟨z0, z1, z2, z3, z4, z5, z6, -⟩ := HQ1.out.2.cells
  obtain ⟨w2, hw2⟩ : ∃ w2, w2 = w1.alloc (.cells #[.int .u8 71, .int .u8 73, .int .u8 70, .int .u8 56, .int .u8 57, .int .u8 97] 5 (6, 7)) := ⟨_, rfl⟩
  have HQ2 : Hid (Qs w W H (.slice ta tn tc) Lo C La B w2 ∧ Row w2 (some ⟨w1.heap.size, 0, none⟩) nmB ∧ w.heap.size < w1.heap.size) := by
    have hb : Below w1.heap.size w1 w2 := by rw [hw2]; exact (Below.refl _ _).alloc (Nat.le_refl _) _
    exact ⟨HQ1.out.old hb, by rw [hw2]; exact row_fr nmB _ _ rfl, lt_of_block HQ1.out.2⟩
  obtain ⟨y0, y1, y2, y3, y4, y5, y6, -⟩ := HQ2.out.1.2.cells
  rw [hw2] at y0 y1 y2 y3 y4 y5 y6
  have CS2 := HSI.out w2
  rw [hw2] at CS2
  go_wp2_with fail
  refine CS2.mono ?_
  clear CS2 kc z0 z1 z2 z3 z4 z5 z6 y0 y1 y2 y3 y4 y5 y6
  rintro e wa ⟨ax, cx, gx, rfl, hsx, -, hnx, hbx⟩
  rw [← hw2] at hbx
  clear hw2
  have HQa : Hid (Qs w W H (.slice ta tn tc) Lo C La B wa ∧ Row wa (some ⟨w1.heap.size, 0, none⟩) nmB ∧ Row wa ax (sdL W H)) := ⟨HQ2.out.1.old hbx, HQ2.out.2.1.old hbx, hsx.row rfl⟩
  obtain ⟨ad, rfl⟩ : ∃ ad, ax = some ad := by
    rcases HQa.out.2.2 with e | ⟨b, off, e, _⟩
    · exact absurd (congrArg List.length e) (by simp [sdL, octs_len])
    · exact ⟨_, e⟩
  have HLs : Hid ((sdL W H).length = 4) := by show _ = _; simp [sdL, octs_len]
  rw [HLs.out]
  clear hsx hbx HQ2
  generalize w1.heap.size = nb at *
  go_upto_region 6 with (at_builtin; refine wpList_more_full rfl _ _ rfl nb 6 nmB rfl rfl HQa.out.2.1 ad 4 cx (sdL W H) rfl HLs.out (by omega) HQa.out.2.2 (by decide) ?_; intro v3 w3 g3 hs3 hg3 hb3; obtain ⟨a3, c3, hv3, -⟩ := hs3.shape; obtain ⟨n3, hn3⟩ : ∃ n3, (vals (nmB ++ sdL W H)).length = n3 := ⟨_, rfl⟩; rw [hn3] at hv3; have HN3 : Hid (n3 = (nmB ++ sdL W H).length) := (by rw [← hn3, vals_len] : n3 = (nmB ++ sdL W H).length); clear hn3; subst hv3; have HW3 : Hid (WrI w W H (.slice ta tn tc) Lo C La B (nmB ++ sdL W H) (.slice a3 n3 c3) g3 w3) := ⟨HQa.out.1.old hb3, hs3, fun q hq => by have := hg3 q hq; have := lt_of_block HQa.out.1.2; omega⟩; obtain ⟨z0, z1, z2, z3, z4, z5, z6, -⟩ := HW3.out.1.2.cells)
  have HO3 : Hid ((nmB ++ sdL W H).length ≤ 3000) := by show _ ≤ _; simp [sdL, octs_len, nmB]
  obtain ⟨O3, hO3⟩ : ∃ O3, O3 = nmB ++ sdL W H := ⟨_, rfl⟩
  rw [← hO3] at HW3 HO3 HN3
  have HE3 : Hid (O3 = nmB ++ sdL W H) := hO3
  clear hO3 hs3 hg3 hb3 HQa HQ1 HSI
  cases Lo with
  | true =>
    by_cases hC : C = -1
    · have hC1 : (C == -1) = true := by simpa using hC
      have hC2 : (C != -1) = false := by simpa using hC
      subst hC
      have CX := screenMarks_any W H ta tn tc true (-1) La B k hk HKN.out w3 (HTD.out.old HW3.out.1.1)
      unfold ScV at CX
      rw [HSP.out.1] at CX
      go_wp2_with fail
      refine CX.mono ?_
      clear CX
      clear z0 z1 z2 z3 z4 z5 z6
      rintro e wq ⟨rfl, hbx⟩
      have HW4 : Hid (WrI w W H (.slice ta tn tc) true (-1) La B O3 (.slice a3 n3 c3) g3 wq) := HW3.out.old hbx
      clear hbx
      obtain ⟨w4, hwj⟩ : ∃ w4, w4 = wq := ⟨_, rfl⟩
      subst hwj
      obtain ⟨O4, hO4⟩ : ∃ O4, O4 = O3 := ⟨_, rfl⟩
      have HO4 : Hid (O4.length ≤ 4 * 1000) := by show _ ≤ _; rw [hO4]; have := HO3.out; omega
      have HE4 : Hid (O4 = O3) := hO4
      have HN4 : Hid (n3 = O4.length) := by show _ = _; rw [hO4]; exact HN3.out
      rw [← hO4] at HW4
      clear hO4
      generalize a3 = a4 at *
      generalize n3 = n4 at *
      generalize c3 = c4 at *
      generalize g3 = g4 at *
      obtain ⟨z0, z1, z2, z3, z4, z5, z6, -⟩ := HW4.out.1.2.cells
      obtain ⟨wa, hwa⟩ : ∃ wa, wa = w4.alloc (.cells #[.int .u8 SM, .int .u8 0, .int .u8 0] 5) := ⟨_, rfl⟩
      have HBA : Hid (Below w4.heap.size w4 wa) := by show Below ..; rw [hwa]; exact (Below.refl _ _).alloc (Nat.le_refl _) _
      have HRX : Hid (Row wa (some ⟨w4.heap.size, 0, none⟩) [SM, 0, 0]) := by show Row ..; rw [hwa]; exact row_fr [SM, 0, 0] _ _ rfl
      have HIN : Hid (Sl wa 5 (.slice a4 n4 c4) g4 (vals O4)) := HW4.out.2.1.same fun q hq => HBA.out.block q (HW4.out.2.1.lt hq)
      go_upto_region 11 with (at_builtin; rw [← hwa]; refine wpList_more rfl _ _ rfl (.slice a4 n4 c4) g4 O4 rfl HIN.out (some ⟨w4.heap.size, 0, none⟩) 3 3 [SM, 0, 0] rfl (by intro h; cases h) rfl HRX.out (by have := HO4.out; omega) ?_; clear z0 z1 z2 z3 z4 z5 z6; intro v5 w5 g5 hs5 hg5 hgr5; obtain ⟨a5, c5, hv5, -⟩ := hs5.shape; obtain ⟨n5, hn5⟩ : ∃ n5, (vals (O4 ++ [SM, 0, 0])).length = n5 := ⟨_, rfl⟩; rw [hn5] at hv5; have HN5 : Hid (n5 = (O4 ++ [SM, 0, 0]).length) := by { show n5 = _; rw [← hn5, vals_len] }; clear hn5; subst hv5; have HW5 : Hid (WrI w W H (.slice ta tn tc) true (-1) La B (O4 ++ [SM, 0, 0]) (.slice a5 n5 c5) g5 w5) := HW4.out.more HBA.out hs5 hg5 hgr5; obtain ⟨z0, z1, z2, z3, z4, z5, z6, -⟩ := HW5.out.1.2.cells; clear hs5 hg5 hgr5 hwa)
      have HO5 : Hid ((O4 ++ [SM, 0, 0]).length ≤ 5 * 1000) := by show _ ≤ _; have := HO4.out; have := HT3.out; simp only [List.length_append, List.length_cons, List.length_nil]; omega
      obtain ⟨O5, hO5⟩ : ∃ O5, O5 = O4 ++ [SM, 0, 0] := ⟨_, rfl⟩
      rw [← hO5] at HW5 HO5 HN5
      have HE5 : Hid (O5 = O4 ++ [SM, 0, 0]) := hO5
      clear hO5 HBA HIN
      obtain ⟨wa, hwa⟩ : ∃ wa, wa = w5.alloc (.cells #[.int .u8 44, .int .u8 0, .int .u8 0, .int .u8 0, .int .u8 0] 5) := ⟨_, rfl⟩
      have HBA : Hid (Below w5.heap.size w5 wa) := by show Below ..; rw [hwa]; exact (Below.refl _ _).alloc (Nat.le_refl _) _
      have HRX : Hid (Row wa (some ⟨w5.heap.size, 0, none⟩) [44, 0, 0, 0, 0]) := by show Row ..; rw [hwa]; exact row_fr [44, 0, 0, 0, 0] _ _ rfl
      have HIN : Hid (Sl wa 5 (.slice a5 n5 c5) g5 (vals O5)) := HW5.out.2.1.same fun q hq => HBA.out.block q (HW5.out.2.1.lt hq)
      go_upto_region 12 with (at_builtin; rw [← hwa]; refine wpList_more rfl _ _ rfl (.slice a5 n5 c5) g5 O5 rfl HIN.out (some ⟨w5.heap.size, 0, none⟩) 5 5 [44, 0, 0, 0, 0] rfl (by intro h; cases h) rfl HRX.out (by have := HO5.out; omega) ?_; clear z0 z1 z2 z3 z4 z5 z6; intro v6 w6 g6 hs6 hg6 hgr6; obtain ⟨a6, c6, hv6, -⟩ := hs6.shape; obtain ⟨n6, hn6⟩ : ∃ n6, (vals (O5 ++ [44, 0, 0, 0, 0])).length = n6 := ⟨_, rfl⟩; rw [hn6] at hv6; have HN6 : Hid (n6 = (O5 ++ [44, 0, 0, 0, 0]).length) := by { show n6 = _; rw [← hn6, vals_len] }; clear hn6; subst hv6; have HW6 : Hid (WrI w W H (.slice ta tn tc) true (-1) La B (O5 ++ [44, 0, 0, 0, 0]) (.slice a6 n6 c6) g6 w6) := HW5.out.more HBA.out hs6 hg6 hgr6; obtain ⟨z0, z1, z2, z3, z4, z5, z6, -⟩ := HW6.out.1.2.cells; clear hs6 hg6 hgr6 hwa)
      have HO6 : Hid ((O5 ++ [44, 0, 0, 0, 0]).length ≤ 6 * 1000) := by show _ ≤ _; have := HO5.out; have := HT3.out; simp only [List.length_append, List.length_cons, List.length_nil]; omega
      obtain ⟨O6, hO6⟩ : ∃ O6, O6 = O5 ++ [44, 0, 0, 0, 0] := ⟨_, rfl⟩
      rw [← hO6] at HW6 HO6 HN6
      have HE6 : Hid (O6 = O5 ++ [44, 0, 0, 0, 0]) := hO6
      clear hO6 HBA HIN
      have CX := sides_any W H ta tn tc true (-1) La B w6
      unfold ScV at CX
      go_wp2_with fail
      refine CX.mono ?_
      clear CX
      clear z0 z1 z2 z3 z4 z5 z6
      rintro e wa ⟨ax, cx, gx, rfl, hsx, -, hnx, hbx⟩
      have HBA : Hid (Below w6.heap.size w6 wa) := hbx
      have HRX : Hid (Row wa ax (sdL W H)) := hsx.row rfl
      clear hsx hbx
      obtain ⟨nx, hnx2⟩ : ∃ nx, ((sdL W H)).length = nx := ⟨_, rfl⟩
      rw [hnx2]
      have HNX : Hid (((sdL W H)).length = nx) := hnx2
      have HNXb : Hid (nx ≤ 900) := by show _ ≤ _; rw [← hnx2]; have := HT3.out; simp only [List.length_append, octs_len, sdL]; omega
      clear hnx2
      have HIN : Hid (Sl wa 5 (.slice a6 n6 c6) g6 (vals O6)) := HW6.out.2.1.same fun q hq => HBA.out.block q (HW6.out.2.1.lt hq)
      go_upto_region 13 with (at_builtin; refine wpList_more rfl _ _ rfl (.slice a6 n6 c6) g6 O6 rfl HIN.out ax nx cx (sdL W H) rfl hnx HNX.out HRX.out (by have := HO6.out; have := HNXb.out; omega) ?_; intro v7 w7 g7 hs7 hg7 hgr7; obtain ⟨a7, c7, hv7, -⟩ := hs7.shape; obtain ⟨n7, hn7⟩ : ∃ n7, (vals (O6 ++ (sdL W H))).length = n7 := ⟨_, rfl⟩; rw [hn7] at hv7; have HN7 : Hid (n7 = (O6 ++ (sdL W H)).length) := by { show n7 = _; rw [← hn7, vals_len] }; clear hn7; subst hv7; have HW7 : Hid (WrI w W H (.slice ta tn tc) true (-1) La B (O6 ++ (sdL W H)) (.slice a7 n7 c7) g7 w7) := HW6.out.more HBA.out hs7 hg7 hgr7; obtain ⟨z0, z1, z2, z3, z4, z5, z6, -⟩ := HW7.out.1.2.cells; clear hs7 hg7 hgr7)
      have HO7 : Hid ((O6 ++ (sdL W H)).length ≤ 7 * 1000) := by show _ ≤ _; have := HO6.out; have := HT3.out; simp only [List.length_append, octs_len, sdL]; omega
      obtain ⟨O7, hO7⟩ : ∃ O7, O7 = O6 ++ (sdL W H) := ⟨_, rfl⟩
      rw [← hO7] at HW7 HO7 HN7
      have HE7 : Hid (O7 = O6 ++ (sdL W H)) := hO7
      clear hO7 HBA HIN
      have CX := pictureMarks_any W H ta tn tc true (-1) La B k hk HKN.out w7 (HTD.out.old HW7.out.1.1)
      unfold ScV at CX
      rw [HSP.out.2] at CX
      go_wp2_with fail
      refine CX.mono ?_
      clear CX
      clear z0 z1 z2 z3 z4 z5 z6
      rintro e wq ⟨rfl, hbx⟩
      have HW8 : Hid (WrI w W H (.slice ta tn tc) true (-1) La B O7 (.slice a7 n7 c7) g7 wq) := HW7.out.old hbx
      clear hbx
      obtain ⟨w8, hwj⟩ : ∃ w8, w8 = wq := ⟨_, rfl⟩
      subst hwj
      obtain ⟨O8, hO8⟩ : ∃ O8, O8 = O7 := ⟨_, rfl⟩
      have HO8 : Hid (O8.length ≤ 8 * 1000) := by show _ ≤ _; rw [hO8]; have := HO7.out; omega
      have HE8 : Hid (O8 = O7) := hO8
      have HN8 : Hid (n7 = O8.length) := by show _ = _; rw [hO8]; exact HN7.out
      rw [← hO8] at HW8
      clear hO8
      generalize a7 = a8 at *
      generalize n7 = n8 at *
      generalize c7 = c8 at *
      generalize g7 = g8 at *
      obtain ⟨z0, z1, z2, z3, z4, z5, z6, -⟩ := HW8.out.1.2.cells
      obtain ⟨wa, hwa⟩ : ∃ wa, wa = w8.alloc (.cells #[.int .u8 PM] 5) := ⟨_, rfl⟩
      have HBA : Hid (Below w8.heap.size w8 wa) := by show Below ..; rw [hwa]; exact (Below.refl _ _).alloc (Nat.le_refl _) _
      have HRX : Hid (Row wa (some ⟨w8.heap.size, 0, none⟩) [PM]) := by show Row ..; rw [hwa]; exact row_fr [PM] _ _ rfl
      have HIN : Hid (Sl wa 5 (.slice a8 n8 c8) g8 (vals O8)) := HW8.out.2.1.same fun q hq => HBA.out.block q (HW8.out.2.1.lt hq)
      go_upto_region 15 with (at_builtin; rw [← hwa]; refine wpList_more rfl _ _ rfl (.slice a8 n8 c8) g8 O8 rfl HIN.out (some ⟨w8.heap.size, 0, none⟩) 1 1 [PM] rfl (by intro h; cases h) rfl HRX.out (by have := HO8.out; omega) ?_; clear z0 z1 z2 z3 z4 z5 z6; intro v9 w9 g9 hs9 hg9 hgr9; obtain ⟨a9, c9, hv9, -⟩ := hs9.shape; obtain ⟨n9, hn9⟩ : ∃ n9, (vals (O8 ++ [PM])).length = n9 := ⟨_, rfl⟩; rw [hn9] at hv9; have HN9 : Hid (n9 = (O8 ++ [PM]).length) := by { show n9 = _; rw [← hn9, vals_len] }; clear hn9; subst hv9; have HW9 : Hid (WrI w W H (.slice ta tn tc) true (-1) La B (O8 ++ [PM]) (.slice a9 n9 c9) g9 w9) := HW8.out.more HBA.out hs9 hg9 hgr9; obtain ⟨z0, z1, z2, z3, z4, z5, z6, -⟩ := HW9.out.1.2.cells; clear hs9 hg9 hgr9 hwa)
      have HO9 : Hid ((O8 ++ [PM]).length ≤ 9 * 1000) := by show _ ≤ _; have := HO8.out; have := HT3.out; simp only [List.length_append, List.length_cons, List.length_nil]; omega
      obtain ⟨O9, hO9⟩ : ∃ O9, O9 = O8 ++ [PM] := ⟨_, rfl⟩
      rw [← hO9] at HW9 HO9 HN9
      have HE9 : Hid (O9 = O8 ++ [PM]) := hO9
      clear hO9 HBA HIN
      have CX := table_any W H ta tn tc true (-1) La B T w9 HT3.out.1 HT3.out.2.1 HT3.out.2.2.1 (HT3.out.2.2.2.old HW9.out.1.1)
      unfold ScV at CX
      go_wp2_with fail
      refine CX.mono ?_
      clear CX
      clear z0 z1 z2 z3 z4 z5 z6
      rintro e wa ⟨ax, cx, gx, rfl, hsx, -, hnx, hbx⟩
      have HBA : Hid (Below w9.heap.size w9 wa) := hbx
      have HRX : Hid (Row wa ax T) := hsx.row rfl
      clear hsx hbx
      obtain ⟨nx, hnx2⟩ : ∃ nx, (T).length = nx := ⟨_, rfl⟩
      rw [hnx2]
      have HNX : Hid ((T).length = nx) := hnx2
      have HNXb : Hid (nx ≤ 900) := by show _ ≤ _; rw [← hnx2]; have := HT3.out; omega
      clear hnx2
      have HIN : Hid (Sl wa 5 (.slice a9 n9 c9) g9 (vals O9)) := HW9.out.2.1.same fun q hq => HBA.out.block q (HW9.out.2.1.lt hq)
      go_upto_region 16 with (at_builtin; refine wpList_more rfl _ _ rfl (.slice a9 n9 c9) g9 O9 rfl HIN.out ax nx cx T rfl hnx HNX.out HRX.out (by have := HO9.out; have := HNXb.out; omega) ?_; intro v10 w10 g10 hs10 hg10 hgr10; obtain ⟨a10, c10, hv10, -⟩ := hs10.shape; obtain ⟨n10, hn10⟩ : ∃ n10, (vals (O9 ++ T)).length = n10 := ⟨_, rfl⟩; rw [hn10] at hv10; have HN10 : Hid (n10 = (O9 ++ T).length) := by { show n10 = _; rw [← hn10, vals_len] }; clear hn10; subst hv10; have HW10 : Hid (WrI w W H (.slice ta tn tc) true (-1) La B (O9 ++ T) (.slice a10 n10 c10) g10 w10) := HW9.out.more HBA.out hs10 hg10 hgr10; obtain ⟨z0, z1, z2, z3, z4, z5, z6, -⟩ := HW10.out.1.2.cells; clear hs10 hg10 hgr10)
      have HO10 : Hid ((O9 ++ T).length ≤ 10 * 1000) := by show _ ≤ _; have := HO9.out; have := HT3.out; rw [List.length_append]; omega
      obtain ⟨O10, hO10⟩ : ∃ O10, O10 = O9 ++ T := ⟨_, rfl⟩
      rw [← hO10] at HW10 HO10 HN10
      have HE10 : Hid (O10 = O9 ++ T) := hO10
      clear hO10 HBA HIN
      obtain ⟨wa, hwa⟩ : ∃ wa, wa = w10.alloc (.cells #[.int .u8 B] 5) := ⟨_, rfl⟩
      have HBA : Hid (Below w10.heap.size w10 wa) := by show Below ..; rw [hwa]; exact (Below.refl _ _).alloc (Nat.le_refl _) _
      have HRX : Hid (Row wa (some ⟨w10.heap.size, 0, none⟩) [B]) := by show Row ..; rw [hwa]; exact row_fr [B] _ _ rfl
      have HIN : Hid (Sl wa 5 (.slice a10 n10 c10) g10 (vals O10)) := HW10.out.2.1.same fun q hq => HBA.out.block q (HW10.out.2.1.lt hq)
      go_wp2_with (at_builtin; rw [← hwa]; refine wpList_more rfl _ _ rfl (.slice a10 n10 c10) g10 O10 rfl HIN.out (some ⟨w10.heap.size, 0, none⟩) 1 1 [B] rfl (by intro h; cases h) rfl HRX.out (by have := HO10.out; omega) ?_; clear z0 z1 z2 z3 z4 z5 z6; intro v11 w11 g11 hs11 hg11 hgr11; obtain ⟨a11, c11, hv11, -⟩ := hs11.shape; obtain ⟨n11, hn11⟩ : ∃ n11, (vals (O10 ++ [B])).length = n11 := ⟨_, rfl⟩; rw [hn11] at hv11; have HN11 : Hid (n11 = (O10 ++ [B]).length) := by { show n11 = _; rw [← hn11, vals_len] }; clear hn11; subst hv11; have HW11 : Hid (WrI w W H (.slice ta tn tc) true (-1) La B (O10 ++ [B]) (.slice a11 n11 c11) g11 w11) := HW10.out.more HBA.out hs11 hg11 hgr11; obtain ⟨z0, z1, z2, z3, z4, z5, z6, -⟩ := HW11.out.1.2.cells; clear hs11 hg11 hgr11 hwa)
      have HO11 : Hid ((O10 ++ [B]).length ≤ 11 * 1000) := by show _ ≤ _; have := HO10.out; have := HT3.out; simp only [List.length_append, List.length_cons, List.length_nil]; omega
      obtain ⟨O11, hO11⟩ : ∃ O11, O11 = O10 ++ [B] := ⟨_, rfl⟩
      rw [← hO11] at HW11 HO11 HN11
      have HE11 : Hid (O11 = O10 ++ [B]) := hO11
      clear hO11 HBA HIN
      go_ret2
      have he : O11 = wrL W H T true (-1) La B k := by rw [HE11.out, HE10.out, HE9.out, HE8.out, HE7.out, HE6.out, HE5.out, HE4.out, HE3.out]; unfold wrL; rw [HSP.out.1, HSP.out.2]; simp
      have hs := HW11.out.2.1
      rw [HN11.out] at hs ⊢
      rw [he] at hs ⊢
      exact ⟨_, _, _, rfl, hs, fun q hq => by have := HW11.out.2.2 q hq; omega, HW11.out.1.1⟩
    · have hC1 : (C == -1) = false := by simpa using hC
      have hC2 : (C != -1) = true := by simpa using hC
      have m4 : C % 256 = C := by omega
      have u4 : IntKind.u8.wrap C = C := by rw [IntKind.wrap_u8]; omega
      have CX := screenMarks_any W H ta tn tc true C La B k hk HKN.out w3 (HTD.out.old HW3.out.1.1)
      unfold ScV at CX
      rw [HSP.out.1] at CX
      go_wp2_with fail
      refine CX.mono ?_
      clear CX
      clear z0 z1 z2 z3 z4 z5 z6
      rintro e wq ⟨rfl, hbx⟩
      have HW4 : Hid (WrI w W H (.slice ta tn tc) true C La B O3 (.slice a3 n3 c3) g3 wq) := HW3.out.old hbx
      clear hbx
      obtain ⟨w4, hwj⟩ : ∃ w4, w4 = wq := ⟨_, rfl⟩
      subst hwj
      obtain ⟨O4, hO4⟩ : ∃ O4, O4 = O3 := ⟨_, rfl⟩
      have HO4 : Hid (O4.length ≤ 4 * 1000) := by show _ ≤ _; rw [hO4]; have := HO3.out; omega
      have HE4 : Hid (O4 = O3) := hO4
      have HN4 : Hid (n3 = O4.length) := by show _ = _; rw [hO4]; exact HN3.out
      rw [← hO4] at HW4
      clear hO4
      generalize a3 = a4 at *
      generalize n3 = n4 at *
      generalize c3 = c4 at *
      generalize g3 = g4 at *
      obtain ⟨z0, z1, z2, z3, z4, z5, z6, -⟩ := HW4.out.1.2.cells
      obtain ⟨wa, hwa⟩ : ∃ wa, wa = w4.alloc (.cells #[.int .u8 SM, .int .u8 0, .int .u8 0] 5) := ⟨_, rfl⟩
      have HBA : Hid (Below w4.heap.size w4 wa) := by show Below ..; rw [hwa]; exact (Below.refl _ _).alloc (Nat.le_refl _) _
      have HRX : Hid (Row wa (some ⟨w4.heap.size, 0, none⟩) [SM, 0, 0]) := by show Row ..; rw [hwa]; exact row_fr [SM, 0, 0] _ _ rfl
      have HIN : Hid (Sl wa 5 (.slice a4 n4 c4) g4 (vals O4)) := HW4.out.2.1.same fun q hq => HBA.out.block q (HW4.out.2.1.lt hq)
      go_upto_region 10 with (at_builtin; rw [← hwa]; refine wpList_more rfl _ _ rfl (.slice a4 n4 c4) g4 O4 rfl HIN.out (some ⟨w4.heap.size, 0, none⟩) 3 3 [SM, 0, 0] rfl (by intro h; cases h) rfl HRX.out (by have := HO4.out; omega) ?_; clear z0 z1 z2 z3 z4 z5 z6; intro v5 w5 g5 hs5 hg5 hgr5; obtain ⟨a5, c5, hv5, -⟩ := hs5.shape; obtain ⟨n5, hn5⟩ : ∃ n5, (vals (O4 ++ [SM, 0, 0])).length = n5 := ⟨_, rfl⟩; rw [hn5] at hv5; have HN5 : Hid (n5 = (O4 ++ [SM, 0, 0]).length) := by { show n5 = _; rw [← hn5, vals_len] }; clear hn5; subst hv5; have HW5 : Hid (WrI w W H (.slice ta tn tc) true C La B (O4 ++ [SM, 0, 0]) (.slice a5 n5 c5) g5 w5) := HW4.out.more HBA.out hs5 hg5 hgr5; obtain ⟨z0, z1, z2, z3, z4, z5, z6, -⟩ := HW5.out.1.2.cells; clear hs5 hg5 hgr5 hwa)
      have HO5 : Hid ((O4 ++ [SM, 0, 0]).length ≤ 5 * 1000) := by show _ ≤ _; have := HO4.out; have := HT3.out; simp only [List.length_append, List.length_cons, List.length_nil]; omega
      obtain ⟨O5, hO5⟩ : ∃ O5, O5 = O4 ++ [SM, 0, 0] := ⟨_, rfl⟩
      rw [← hO5] at HW5 HO5 HN5
      have HE5 : Hid (O5 = O4 ++ [SM, 0, 0]) := hO5
      clear hO5 HBA HIN
      obtain ⟨wa, hwa⟩ : ∃ wa, wa = w5.alloc (.cells #[.int .u8 33, .int .u8 249, .int .u8 4, .int .u8 1, .int .u8 0, .int .u8 0, .int .u8 C, .int .u8 0] 5) := ⟨_, rfl⟩
      have HBA : Hid (Below w5.heap.size w5 wa) := by show Below ..; rw [hwa]; exact (Below.refl _ _).alloc (Nat.le_refl _) _
      have HRX : Hid (Row wa (some ⟨w5.heap.size, 0, none⟩) [33, 249, 4, 1, 0, 0, C, 0]) := by show Row ..; rw [hwa]; exact row_fr [33, 249, 4, 1, 0, 0, C, 0] _ _ rfl
      have HIN : Hid (Sl wa 5 (.slice a5 n5 c5) g5 (vals O5)) := HW5.out.2.1.same fun q hq => HBA.out.block q (HW5.out.2.1.lt hq)
      go_upto_region 11 with (at_builtin; rw [← hwa]; refine wpList_more rfl _ _ rfl (.slice a5 n5 c5) g5 O5 rfl HIN.out (some ⟨w5.heap.size, 0, none⟩) 8 8 [33, 249, 4, 1, 0, 0, C, 0] rfl (by intro h; cases h) rfl HRX.out (by have := HO5.out; omega) ?_; clear z0 z1 z2 z3 z4 z5 z6; intro v6 w6 g6 hs6 hg6 hgr6; obtain ⟨a6, c6, hv6, -⟩ := hs6.shape; obtain ⟨n6, hn6⟩ : ∃ n6, (vals (O5 ++ [33, 249, 4, 1, 0, 0, C, 0])).length = n6 := ⟨_, rfl⟩; rw [hn6] at hv6; have HN6 : Hid (n6 = (O5 ++ [33, 249, 4, 1, 0, 0, C, 0]).length) := by { show n6 = _; rw [← hn6, vals_len] }; clear hn6; subst hv6; have HW6 : Hid (WrI w W H (.slice ta tn tc) true C La B (O5 ++ [33, 249, 4, 1, 0, 0, C, 0]) (.slice a6 n6 c6) g6 w6) := HW5.out.more HBA.out hs6 hg6 hgr6; obtain ⟨z0, z1, z2, z3, z4, z5, z6, -⟩ := HW6.out.1.2.cells; clear hs6 hg6 hgr6 hwa)
      have HO6 : Hid ((O5 ++ [33, 249, 4, 1, 0, 0, C, 0]).length ≤ 6 * 1000) := by show _ ≤ _; have := HO5.out; have := HT3.out; simp only [List.length_append, List.length_cons, List.length_nil]; omega
      obtain ⟨O6, hO6⟩ : ∃ O6, O6 = O5 ++ [33, 249, 4, 1, 0, 0, C, 0] := ⟨_, rfl⟩
      rw [← hO6] at HW6 HO6 HN6
      have HE6 : Hid (O6 = O5 ++ [33, 249, 4, 1, 0, 0, C, 0]) := hO6
      clear hO6 HBA HIN
      obtain ⟨wa, hwa⟩ : ∃ wa, wa = w6.alloc (.cells #[.int .u8 44, .int .u8 0, .int .u8 0, .int .u8 0, .int .u8 0] 5) := ⟨_, rfl⟩
      have HBA : Hid (Below w6.heap.size w6 wa) := by show Below ..; rw [hwa]; exact (Below.refl _ _).alloc (Nat.le_refl _) _
      have HRX : Hid (Row wa (some ⟨w6.heap.size, 0, none⟩) [44, 0, 0, 0, 0]) := by show Row ..; rw [hwa]; exact row_fr [44, 0, 0, 0, 0] _ _ rfl
      have HIN : Hid (Sl wa 5 (.slice a6 n6 c6) g6 (vals O6)) := HW6.out.2.1.same fun q hq => HBA.out.block q (HW6.out.2.1.lt hq)
      go_upto_region 12 with (at_builtin; rw [← hwa]; refine wpList_more rfl _ _ rfl (.slice a6 n6 c6) g6 O6 rfl HIN.out (some ⟨w6.heap.size, 0, none⟩) 5 5 [44, 0, 0, 0, 0] rfl (by intro h; cases h) rfl HRX.out (by have := HO6.out; omega) ?_; clear z0 z1 z2 z3 z4 z5 z6; intro v7 w7 g7 hs7 hg7 hgr7; obtain ⟨a7, c7, hv7, -⟩ := hs7.shape; obtain ⟨n7, hn7⟩ : ∃ n7, (vals (O6 ++ [44, 0, 0, 0, 0])).length = n7 := ⟨_, rfl⟩; rw [hn7] at hv7; have HN7 : Hid (n7 = (O6 ++ [44, 0, 0, 0, 0]).length) := by { show n7 = _; rw [← hn7, vals_len] }; clear hn7; subst hv7; have HW7 : Hid (WrI w W H (.slice ta tn tc) true C La B (O6 ++ [44, 0, 0, 0, 0]) (.slice a7 n7 c7) g7 w7) := HW6.out.more HBA.out hs7 hg7 hgr7; obtain ⟨z0, z1, z2, z3, z4, z5, z6, -⟩ := HW7.out.1.2.cells; clear hs7 hg7 hgr7 hwa)
      have HO7 : Hid ((O6 ++ [44, 0, 0, 0, 0]).length ≤ 7 * 1000) := by show _ ≤ _; have := HO6.out; have := HT3.out; simp only [List.length_append, List.length_cons, List.length_nil]; omega
      obtain ⟨O7, hO7⟩ : ∃ O7, O7 = O6 ++ [44, 0, 0, 0, 0] := ⟨_, rfl⟩
      rw [← hO7] at HW7 HO7 HN7
      have HE7 : Hid (O7 = O6 ++ [44, 0, 0, 0, 0]) := hO7
      clear hO7 HBA HIN
      have CX := sides_any W H ta tn tc true C La B w7
      unfold ScV at CX
      go_wp2_with fail
      refine CX.mono ?_
      clear CX
      clear z0 z1 z2 z3 z4 z5 z6
      rintro e wa ⟨ax, cx, gx, rfl, hsx, -, hnx, hbx⟩
      have HBA : Hid (Below w7.heap.size w7 wa) := hbx
      have HRX : Hid (Row wa ax (sdL W H)) := hsx.row rfl
      clear hsx hbx
      obtain ⟨nx, hnx2⟩ : ∃ nx, ((sdL W H)).length = nx := ⟨_, rfl⟩
      rw [hnx2]
      have HNX : Hid (((sdL W H)).length = nx) := hnx2
      have HNXb : Hid (nx ≤ 900) := by show _ ≤ _; rw [← hnx2]; have := HT3.out; simp only [List.length_append, octs_len, sdL]; omega
      clear hnx2
      have HIN : Hid (Sl wa 5 (.slice a7 n7 c7) g7 (vals O7)) := HW7.out.2.1.same fun q hq => HBA.out.block q (HW7.out.2.1.lt hq)
      go_upto_region 13 with (at_builtin; refine wpList_more rfl _ _ rfl (.slice a7 n7 c7) g7 O7 rfl HIN.out ax nx cx (sdL W H) rfl hnx HNX.out HRX.out (by have := HO7.out; have := HNXb.out; omega) ?_; intro v8 w8 g8 hs8 hg8 hgr8; obtain ⟨a8, c8, hv8, -⟩ := hs8.shape; obtain ⟨n8, hn8⟩ : ∃ n8, (vals (O7 ++ (sdL W H))).length = n8 := ⟨_, rfl⟩; rw [hn8] at hv8; have HN8 : Hid (n8 = (O7 ++ (sdL W H)).length) := by { show n8 = _; rw [← hn8, vals_len] }; clear hn8; subst hv8; have HW8 : Hid (WrI w W H (.slice ta tn tc) true C La B (O7 ++ (sdL W H)) (.slice a8 n8 c8) g8 w8) := HW7.out.more HBA.out hs8 hg8 hgr8; obtain ⟨z0, z1, z2, z3, z4, z5, z6, -⟩ := HW8.out.1.2.cells; clear hs8 hg8 hgr8)
      have HO8 : Hid ((O7 ++ (sdL W H)).length ≤ 8 * 1000) := by show _ ≤ _; have := HO7.out; have := HT3.out; simp only [List.length_append, octs_len, sdL]; omega
      obtain ⟨O8, hO8⟩ : ∃ O8, O8 = O7 ++ (sdL W H) := ⟨_, rfl⟩
      rw [← hO8] at HW8 HO8 HN8
      have HE8 : Hid (O8 = O7 ++ (sdL W H)) := hO8
      clear hO8 HBA HIN
      have CX := pictureMarks_any W H ta tn tc true C La B k hk HKN.out w8 (HTD.out.old HW8.out.1.1)
      unfold ScV at CX
      rw [HSP.out.2] at CX
      go_wp2_with fail
      refine CX.mono ?_
      clear CX
      clear z0 z1 z2 z3 z4 z5 z6
      rintro e wq ⟨rfl, hbx⟩
      have HW9 : Hid (WrI w W H (.slice ta tn tc) true C La B O8 (.slice a8 n8 c8) g8 wq) := HW8.out.old hbx
      clear hbx
      obtain ⟨w9, hwj⟩ : ∃ w9, w9 = wq := ⟨_, rfl⟩
      subst hwj
      obtain ⟨O9, hO9⟩ : ∃ O9, O9 = O8 := ⟨_, rfl⟩
      have HO9 : Hid (O9.length ≤ 9 * 1000) := by show _ ≤ _; rw [hO9]; have := HO8.out; omega
      have HE9 : Hid (O9 = O8) := hO9
      have HN9 : Hid (n8 = O9.length) := by show _ = _; rw [hO9]; exact HN8.out
      rw [← hO9] at HW9
      clear hO9
      generalize a8 = a9 at *
      generalize n8 = n9 at *
      generalize c8 = c9 at *
      generalize g8 = g9 at *
      obtain ⟨z0, z1, z2, z3, z4, z5, z6, -⟩ := HW9.out.1.2.cells
      obtain ⟨wa, hwa⟩ : ∃ wa, wa = w9.alloc (.cells #[.int .u8 PM] 5) := ⟨_, rfl⟩
      have HBA : Hid (Below w9.heap.size w9 wa) := by show Below ..; rw [hwa]; exact (Below.refl _ _).alloc (Nat.le_refl _) _
      have HRX : Hid (Row wa (some ⟨w9.heap.size, 0, none⟩) [PM]) := by show Row ..; rw [hwa]; exact row_fr [PM] _ _ rfl
      have HIN : Hid (Sl wa 5 (.slice a9 n9 c9) g9 (vals O9)) := HW9.out.2.1.same fun q hq => HBA.out.block q (HW9.out.2.1.lt hq)
      go_upto_region 15 with (at_builtin; rw [← hwa]; refine wpList_more rfl _ _ rfl (.slice a9 n9 c9) g9 O9 rfl HIN.out (some ⟨w9.heap.size, 0, none⟩) 1 1 [PM] rfl (by intro h; cases h) rfl HRX.out (by have := HO9.out; omega) ?_; clear z0 z1 z2 z3 z4 z5 z6; intro v10 w10 g10 hs10 hg10 hgr10; obtain ⟨a10, c10, hv10, -⟩ := hs10.shape; obtain ⟨n10, hn10⟩ : ∃ n10, (vals (O9 ++ [PM])).length = n10 := ⟨_, rfl⟩; rw [hn10] at hv10; have HN10 : Hid (n10 = (O9 ++ [PM]).length) := by { show n10 = _; rw [← hn10, vals_len] }; clear hn10; subst hv10; have HW10 : Hid (WrI w W H (.slice ta tn tc) true C La B (O9 ++ [PM]) (.slice a10 n10 c10) g10 w10) := HW9.out.more HBA.out hs10 hg10 hgr10; obtain ⟨z0, z1, z2, z3, z4, z5, z6, -⟩ := HW10.out.1.2.cells; clear hs10 hg10 hgr10 hwa)
      have HO10 : Hid ((O9 ++ [PM]).length ≤ 10 * 1000) := by show _ ≤ _; have := HO9.out; have := HT3.out; simp only [List.length_append, List.length_cons, List.length_nil]; omega
      obtain ⟨O10, hO10⟩ : ∃ O10, O10 = O9 ++ [PM] := ⟨_, rfl⟩
      rw [← hO10] at HW10 HO10 HN10
      have HE10 : Hid (O10 = O9 ++ [PM]) := hO10
      clear hO10 HBA HIN
      have CX := table_any W H ta tn tc true C La B T w10 HT3.out.1 HT3.out.2.1 HT3.out.2.2.1 (HT3.out.2.2.2.old HW10.out.1.1)
      unfold ScV at CX
      go_wp2_with fail
      refine CX.mono ?_
      clear CX
      clear z0 z1 z2 z3 z4 z5 z6
      rintro e wa ⟨ax, cx, gx, rfl, hsx, -, hnx, hbx⟩
      have HBA : Hid (Below w10.heap.size w10 wa) := hbx
      have HRX : Hid (Row wa ax T) := hsx.row rfl
      clear hsx hbx
      obtain ⟨nx, hnx2⟩ : ∃ nx, (T).length = nx := ⟨_, rfl⟩
      rw [hnx2]
      have HNX : Hid ((T).length = nx) := hnx2
      have HNXb : Hid (nx ≤ 900) := by show _ ≤ _; rw [← hnx2]; have := HT3.out; omega
      clear hnx2
      have HIN : Hid (Sl wa 5 (.slice a10 n10 c10) g10 (vals O10)) := HW10.out.2.1.same fun q hq => HBA.out.block q (HW10.out.2.1.lt hq)
      go_upto_region 16 with (at_builtin; refine wpList_more rfl _ _ rfl (.slice a10 n10 c10) g10 O10 rfl HIN.out ax nx cx T rfl hnx HNX.out HRX.out (by have := HO10.out; have := HNXb.out; omega) ?_; intro v11 w11 g11 hs11 hg11 hgr11; obtain ⟨a11, c11, hv11, -⟩ := hs11.shape; obtain ⟨n11, hn11⟩ : ∃ n11, (vals (O10 ++ T)).length = n11 := ⟨_, rfl⟩; rw [hn11] at hv11; have HN11 : Hid (n11 = (O10 ++ T).length) := by { show n11 = _; rw [← hn11, vals_len] }; clear hn11; subst hv11; have HW11 : Hid (WrI w W H (.slice ta tn tc) true C La B (O10 ++ T) (.slice a11 n11 c11) g11 w11) := HW10.out.more HBA.out hs11 hg11 hgr11; obtain ⟨z0, z1, z2, z3, z4, z5, z6, -⟩ := HW11.out.1.2.cells; clear hs11 hg11 hgr11)
      have HO11 : Hid ((O10 ++ T).length ≤ 11 * 1000) := by show _ ≤ _; have := HO10.out; have := HT3.out; rw [List.length_append]; omega
      obtain ⟨O11, hO11⟩ : ∃ O11, O11 = O10 ++ T := ⟨_, rfl⟩
      rw [← hO11] at HW11 HO11 HN11
      have HE11 : Hid (O11 = O10 ++ T) := hO11
      clear hO11 HBA HIN
      obtain ⟨wa, hwa⟩ : ∃ wa, wa = w11.alloc (.cells #[.int .u8 B] 5) := ⟨_, rfl⟩
      have HBA : Hid (Below w11.heap.size w11 wa) := by show Below ..; rw [hwa]; exact (Below.refl _ _).alloc (Nat.le_refl _) _
      have HRX : Hid (Row wa (some ⟨w11.heap.size, 0, none⟩) [B]) := by show Row ..; rw [hwa]; exact row_fr [B] _ _ rfl
      have HIN : Hid (Sl wa 5 (.slice a11 n11 c11) g11 (vals O11)) := HW11.out.2.1.same fun q hq => HBA.out.block q (HW11.out.2.1.lt hq)
      go_wp2_with (at_builtin; rw [← hwa]; refine wpList_more rfl _ _ rfl (.slice a11 n11 c11) g11 O11 rfl HIN.out (some ⟨w11.heap.size, 0, none⟩) 1 1 [B] rfl (by intro h; cases h) rfl HRX.out (by have := HO11.out; omega) ?_; clear z0 z1 z2 z3 z4 z5 z6; intro v12 w12 g12 hs12 hg12 hgr12; obtain ⟨a12, c12, hv12, -⟩ := hs12.shape; obtain ⟨n12, hn12⟩ : ∃ n12, (vals (O11 ++ [B])).length = n12 := ⟨_, rfl⟩; rw [hn12] at hv12; have HN12 : Hid (n12 = (O11 ++ [B]).length) := by { show n12 = _; rw [← hn12, vals_len] }; clear hn12; subst hv12; have HW12 : Hid (WrI w W H (.slice ta tn tc) true C La B (O11 ++ [B]) (.slice a12 n12 c12) g12 w12) := HW11.out.more HBA.out hs12 hg12 hgr12; obtain ⟨z0, z1, z2, z3, z4, z5, z6, -⟩ := HW12.out.1.2.cells; clear hs12 hg12 hgr12 hwa)
      have HO12 : Hid ((O11 ++ [B]).length ≤ 12 * 1000) := by show _ ≤ _; have := HO11.out; have := HT3.out; simp only [List.length_append, List.length_cons, List.length_nil]; omega
      obtain ⟨O12, hO12⟩ : ∃ O12, O12 = O11 ++ [B] := ⟨_, rfl⟩
      rw [← hO12] at HW12 HO12 HN12
      have HE12 : Hid (O12 = O11 ++ [B]) := hO12
      clear hO12 HBA HIN
      go_ret2
      have he : O12 = wrL W H T true C La B k := by rw [HE12.out, HE11.out, HE10.out, HE9.out, HE8.out, HE7.out, HE6.out, HE5.out, HE4.out, HE3.out]; unfold wrL; rw [HSP.out.1, HSP.out.2]; simp [hC]
      have hs := HW12.out.2.1
      rw [HN12.out] at hs ⊢
      rw [he] at hs ⊢
      exact ⟨_, _, _, rfl, hs, fun q hq => by have := HW12.out.2.2 q hq; omega, HW12.out.1.1⟩
  | false =>
    by_cases hC : C = -1
    · have hC1 : (C == -1) = true := by simpa using hC
      have hC2 : (C != -1) = false := by simpa using hC
      subst hC
      have CX := screenMarks_any W H ta tn tc false (-1) La B k hk HKN.out w3 (HTD.out.old HW3.out.1.1)
      unfold ScV at CX
      rw [HSP.out.1] at CX
      go_wp2_with fail
      refine CX.mono ?_
      clear CX
      clear z0 z1 z2 z3 z4 z5 z6
      rintro e wq ⟨rfl, hbx⟩
      have HW4 : Hid (WrI w W H (.slice ta tn tc) false (-1) La B O3 (.slice a3 n3 c3) g3 wq) := HW3.out.old hbx
      clear hbx
      obtain ⟨w4, hwj⟩ : ∃ w4, w4 = wq := ⟨_, rfl⟩
      subst hwj
      obtain ⟨O4, hO4⟩ : ∃ O4, O4 = O3 := ⟨_, rfl⟩
      have HO4 : Hid (O4.length ≤ 4 * 1000) := by show _ ≤ _; rw [hO4]; have := HO3.out; omega
      have HE4 : Hid (O4 = O3) := hO4
      have HN4 : Hid (n3 = O4.length) := by show _ = _; rw [hO4]; exact HN3.out
      rw [← hO4] at HW4
      clear hO4
      generalize a3 = a4 at *
      generalize n3 = n4 at *
      generalize c3 = c4 at *
      generalize g3 = g4 at *
      obtain ⟨z0, z1, z2, z3, z4, z5, z6, -⟩ := HW4.out.1.2.cells
      obtain ⟨wa, hwa⟩ : ∃ wa, wa = w4.alloc (.cells #[.int .u8 SM, .int .u8 0, .int .u8 0] 5) := ⟨_, rfl⟩
      have HBA : Hid (Below w4.heap.size w4 wa) := by show Below ..; rw [hwa]; exact (Below.refl _ _).alloc (Nat.le_refl _) _
      have HRX : Hid (Row wa (some ⟨w4.heap.size, 0, none⟩) [SM, 0, 0]) := by show Row ..; rw [hwa]; exact row_fr [SM, 0, 0] _ _ rfl
      have HIN : Hid (Sl wa 5 (.slice a4 n4 c4) g4 (vals O4)) := HW4.out.2.1.same fun q hq => HBA.out.block q (HW4.out.2.1.lt hq)
      go_upto_region 8 with (at_builtin; rw [← hwa]; refine wpList_more rfl _ _ rfl (.slice a4 n4 c4) g4 O4 rfl HIN.out (some ⟨w4.heap.size, 0, none⟩) 3 3 [SM, 0, 0] rfl (by intro h; cases h) rfl HRX.out (by have := HO4.out; omega) ?_; clear z0 z1 z2 z3 z4 z5 z6; intro v5 w5 g5 hs5 hg5 hgr5; obtain ⟨a5, c5, hv5, -⟩ := hs5.shape; obtain ⟨n5, hn5⟩ : ∃ n5, (vals (O4 ++ [SM, 0, 0])).length = n5 := ⟨_, rfl⟩; rw [hn5] at hv5; have HN5 : Hid (n5 = (O4 ++ [SM, 0, 0]).length) := by { show n5 = _; rw [← hn5, vals_len] }; clear hn5; subst hv5; have HW5 : Hid (WrI w W H (.slice ta tn tc) false (-1) La B (O4 ++ [SM, 0, 0]) (.slice a5 n5 c5) g5 w5) := HW4.out.more HBA.out hs5 hg5 hgr5; obtain ⟨z0, z1, z2, z3, z4, z5, z6, -⟩ := HW5.out.1.2.cells; clear hs5 hg5 hgr5 hwa)
      have HO5 : Hid ((O4 ++ [SM, 0, 0]).length ≤ 5 * 1000) := by show _ ≤ _; have := HO4.out; have := HT3.out; simp only [List.length_append, List.length_cons, List.length_nil]; omega
      obtain ⟨O5, hO5⟩ : ∃ O5, O5 = O4 ++ [SM, 0, 0] := ⟨_, rfl⟩
      rw [← hO5] at HW5 HO5 HN5
      have HE5 : Hid (O5 = O4 ++ [SM, 0, 0]) := hO5
      clear hO5 HBA HIN
      have CX := table_any W H ta tn tc false (-1) La B T w5 HT3.out.1 HT3.out.2.1 HT3.out.2.2.1 (HT3.out.2.2.2.old HW5.out.1.1)
      unfold ScV at CX
      go_wp2_with fail
      refine CX.mono ?_
      clear CX
      clear z0 z1 z2 z3 z4 z5 z6
      rintro e wa ⟨ax, cx, gx, rfl, hsx, -, hnx, hbx⟩
      have HBA : Hid (Below w5.heap.size w5 wa) := hbx
      have HRX : Hid (Row wa ax T) := hsx.row rfl
      clear hsx hbx
      obtain ⟨nx, hnx2⟩ : ∃ nx, (T).length = nx := ⟨_, rfl⟩
      rw [hnx2]
      have HNX : Hid ((T).length = nx) := hnx2
      have HNXb : Hid (nx ≤ 900) := by show _ ≤ _; rw [← hnx2]; have := HT3.out; omega
      clear hnx2
      have HIN : Hid (Sl wa 5 (.slice a5 n5 c5) g5 (vals O5)) := HW5.out.2.1.same fun q hq => HBA.out.block q (HW5.out.2.1.lt hq)
      go_upto_region 11 with (at_builtin; refine wpList_more rfl _ _ rfl (.slice a5 n5 c5) g5 O5 rfl HIN.out ax nx cx T rfl hnx HNX.out HRX.out (by have := HO5.out; have := HNXb.out; omega) ?_; intro v6 w6 g6 hs6 hg6 hgr6; obtain ⟨a6, c6, hv6, -⟩ := hs6.shape; obtain ⟨n6, hn6⟩ : ∃ n6, (vals (O5 ++ T)).length = n6 := ⟨_, rfl⟩; rw [hn6] at hv6; have HN6 : Hid (n6 = (O5 ++ T).length) := by { show n6 = _; rw [← hn6, vals_len] }; clear hn6; subst hv6; have HW6 : Hid (WrI w W H (.slice ta tn tc) false (-1) La B (O5 ++ T) (.slice a6 n6 c6) g6 w6) := HW5.out.more HBA.out hs6 hg6 hgr6; obtain ⟨z0, z1, z2, z3, z4, z5, z6, -⟩ := HW6.out.1.2.cells; clear hs6 hg6 hgr6)
      have HO6 : Hid ((O5 ++ T).length ≤ 6 * 1000) := by show _ ≤ _; have := HO5.out; have := HT3.out; rw [List.length_append]; omega
      obtain ⟨O6, hO6⟩ : ∃ O6, O6 = O5 ++ T := ⟨_, rfl⟩
      rw [← hO6] at HW6 HO6 HN6
      have HE6 : Hid (O6 = O5 ++ T) := hO6
      clear hO6 HBA HIN
      obtain ⟨wa, hwa⟩ : ∃ wa, wa = w6.alloc (.cells #[.int .u8 44, .int .u8 0, .int .u8 0, .int .u8 0, .int .u8 0] 5) := ⟨_, rfl⟩
      have HBA : Hid (Below w6.heap.size w6 wa) := by show Below ..; rw [hwa]; exact (Below.refl _ _).alloc (Nat.le_refl _) _
      have HRX : Hid (Row wa (some ⟨w6.heap.size, 0, none⟩) [44, 0, 0, 0, 0]) := by show Row ..; rw [hwa]; exact row_fr [44, 0, 0, 0, 0] _ _ rfl
      have HIN : Hid (Sl wa 5 (.slice a6 n6 c6) g6 (vals O6)) := HW6.out.2.1.same fun q hq => HBA.out.block q (HW6.out.2.1.lt hq)
      go_upto_region 12 with (at_builtin; rw [← hwa]; refine wpList_more rfl _ _ rfl (.slice a6 n6 c6) g6 O6 rfl HIN.out (some ⟨w6.heap.size, 0, none⟩) 5 5 [44, 0, 0, 0, 0] rfl (by intro h; cases h) rfl HRX.out (by have := HO6.out; omega) ?_; clear z0 z1 z2 z3 z4 z5 z6; intro v7 w7 g7 hs7 hg7 hgr7; obtain ⟨a7, c7, hv7, -⟩ := hs7.shape; obtain ⟨n7, hn7⟩ : ∃ n7, (vals (O6 ++ [44, 0, 0, 0, 0])).length = n7 := ⟨_, rfl⟩; rw [hn7] at hv7; have HN7 : Hid (n7 = (O6 ++ [44, 0, 0, 0, 0]).length) := by { show n7 = _; rw [← hn7, vals_len] }; clear hn7; subst hv7; have HW7 : Hid (WrI w W H (.slice ta tn tc) false (-1) La B (O6 ++ [44, 0, 0, 0, 0]) (.slice a7 n7 c7) g7 w7) := HW6.out.more HBA.out hs7 hg7 hgr7; obtain ⟨z0, z1, z2, z3, z4, z5, z6, -⟩ := HW7.out.1.2.cells; clear hs7 hg7 hgr7 hwa)
      have HO7 : Hid ((O6 ++ [44, 0, 0, 0, 0]).length ≤ 7 * 1000) := by show _ ≤ _; have := HO6.out; have := HT3.out; simp only [List.length_append, List.length_cons, List.length_nil]; omega
      obtain ⟨O7, hO7⟩ : ∃ O7, O7 = O6 ++ [44, 0, 0, 0, 0] := ⟨_, rfl⟩
      rw [← hO7] at HW7 HO7 HN7
      have HE7 : Hid (O7 = O6 ++ [44, 0, 0, 0, 0]) := hO7
      clear hO7 HBA HIN
      have CX := sides_any W H ta tn tc false (-1) La B w7
      unfold ScV at CX
      go_wp2_with fail
      refine CX.mono ?_
      clear CX
      clear z0 z1 z2 z3 z4 z5 z6
      rintro e wa ⟨ax, cx, gx, rfl, hsx, -, hnx, hbx⟩
      have HBA : Hid (Below w7.heap.size w7 wa) := hbx
      have HRX : Hid (Row wa ax (sdL W H)) := hsx.row rfl
      clear hsx hbx
      obtain ⟨nx, hnx2⟩ : ∃ nx, ((sdL W H)).length = nx := ⟨_, rfl⟩
      rw [hnx2]
      have HNX : Hid (((sdL W H)).length = nx) := hnx2
      have HNXb : Hid (nx ≤ 900) := by show _ ≤ _; rw [← hnx2]; have := HT3.out; simp only [List.length_append, octs_len, sdL]; omega
      clear hnx2
      have HIN : Hid (Sl wa 5 (.slice a7 n7 c7) g7 (vals O7)) := HW7.out.2.1.same fun q hq => HBA.out.block q (HW7.out.2.1.lt hq)
      go_upto_region 13 with (at_builtin; refine wpList_more rfl _ _ rfl (.slice a7 n7 c7) g7 O7 rfl HIN.out ax nx cx (sdL W H) rfl hnx HNX.out HRX.out (by have := HO7.out; have := HNXb.out; omega) ?_; intro v8 w8 g8 hs8 hg8 hgr8; obtain ⟨a8, c8, hv8, -⟩ := hs8.shape; obtain ⟨n8, hn8⟩ : ∃ n8, (vals (O7 ++ (sdL W H))).length = n8 := ⟨_, rfl⟩; rw [hn8] at hv8; have HN8 : Hid (n8 = (O7 ++ (sdL W H)).length) := by { show n8 = _; rw [← hn8, vals_len] }; clear hn8; subst hv8; have HW8 : Hid (WrI w W H (.slice ta tn tc) false (-1) La B (O7 ++ (sdL W H)) (.slice a8 n8 c8) g8 w8) := HW7.out.more HBA.out hs8 hg8 hgr8; obtain ⟨z0, z1, z2, z3, z4, z5, z6, -⟩ := HW8.out.1.2.cells; clear hs8 hg8 hgr8)
      have HO8 : Hid ((O7 ++ (sdL W H)).length ≤ 8 * 1000) := by show _ ≤ _; have := HO7.out; have := HT3.out; simp only [List.length_append, octs_len, sdL]; omega
      obtain ⟨O8, hO8⟩ : ∃ O8, O8 = O7 ++ (sdL W H) := ⟨_, rfl⟩
      rw [← hO8] at HW8 HO8 HN8
      have HE8 : Hid (O8 = O7 ++ (sdL W H)) := hO8
      clear hO8 HBA HIN
      have CX := pictureMarks_any W H ta tn tc false (-1) La B k hk HKN.out w8 (HTD.out.old HW8.out.1.1)
      unfold ScV at CX
      rw [HSP.out.2] at CX
      go_wp2_with fail
      refine CX.mono ?_
      clear CX
      clear z0 z1 z2 z3 z4 z5 z6
      rintro e wq ⟨rfl, hbx⟩
      have HW9 : Hid (WrI w W H (.slice ta tn tc) false (-1) La B O8 (.slice a8 n8 c8) g8 wq) := HW8.out.old hbx
      clear hbx
      obtain ⟨w9, hwj⟩ : ∃ w9, w9 = wq := ⟨_, rfl⟩
      subst hwj
      obtain ⟨O9, hO9⟩ : ∃ O9, O9 = O8 := ⟨_, rfl⟩
      have HO9 : Hid (O9.length ≤ 9 * 1000) := by show _ ≤ _; rw [hO9]; have := HO8.out; omega
      have HE9 : Hid (O9 = O8) := hO9
      have HN9 : Hid (n8 = O9.length) := by show _ = _; rw [hO9]; exact HN8.out
      rw [← hO9] at HW9
      clear hO9
      generalize a8 = a9 at *
      generalize n8 = n9 at *
      generalize c8 = c9 at *
      generalize g8 = g9 at *
      obtain ⟨z0, z1, z2, z3, z4, z5, z6, -⟩ := HW9.out.1.2.cells
      obtain ⟨wa, hwa⟩ : ∃ wa, wa = w9.alloc (.cells #[.int .u8 PM] 5) := ⟨_, rfl⟩
      have HBA : Hid (Below w9.heap.size w9 wa) := by show Below ..; rw [hwa]; exact (Below.refl _ _).alloc (Nat.le_refl _) _
      have HRX : Hid (Row wa (some ⟨w9.heap.size, 0, none⟩) [PM]) := by show Row ..; rw [hwa]; exact row_fr [PM] _ _ rfl
      have HIN : Hid (Sl wa 5 (.slice a9 n9 c9) g9 (vals O9)) := HW9.out.2.1.same fun q hq => HBA.out.block q (HW9.out.2.1.lt hq)
      go_upto_region 16 with (at_builtin; rw [← hwa]; refine wpList_more rfl _ _ rfl (.slice a9 n9 c9) g9 O9 rfl HIN.out (some ⟨w9.heap.size, 0, none⟩) 1 1 [PM] rfl (by intro h; cases h) rfl HRX.out (by have := HO9.out; omega) ?_; clear z0 z1 z2 z3 z4 z5 z6; intro v10 w10 g10 hs10 hg10 hgr10; obtain ⟨a10, c10, hv10, -⟩ := hs10.shape; obtain ⟨n10, hn10⟩ : ∃ n10, (vals (O9 ++ [PM])).length = n10 := ⟨_, rfl⟩; rw [hn10] at hv10; have HN10 : Hid (n10 = (O9 ++ [PM]).length) := by { show n10 = _; rw [← hn10, vals_len] }; clear hn10; subst hv10; have HW10 : Hid (WrI w W H (.slice ta tn tc) false (-1) La B (O9 ++ [PM]) (.slice a10 n10 c10) g10 w10) := HW9.out.more HBA.out hs10 hg10 hgr10; obtain ⟨z0, z1, z2, z3, z4, z5, z6, -⟩ := HW10.out.1.2.cells; clear hs10 hg10 hgr10 hwa)
      have HO10 : Hid ((O9 ++ [PM]).length ≤ 10 * 1000) := by show _ ≤ _; have := HO9.out; have := HT3.out; simp only [List.length_append, List.length_cons, List.length_nil]; omega
      obtain ⟨O10, hO10⟩ : ∃ O10, O10 = O9 ++ [PM] := ⟨_, rfl⟩
      rw [← hO10] at HW10 HO10 HN10
      have HE10 : Hid (O10 = O9 ++ [PM]) := hO10
      clear hO10 HBA HIN
      obtain ⟨wa, hwa⟩ : ∃ wa, wa = w10.alloc (.cells #[.int .u8 B] 5) := ⟨_, rfl⟩
      have HBA : Hid (Below w10.heap.size w10 wa) := by show Below ..; rw [hwa]; exact (Below.refl _ _).alloc (Nat.le_refl _) _
      have HRX : Hid (Row wa (some ⟨w10.heap.size, 0, none⟩) [B]) := by show Row ..; rw [hwa]; exact row_fr [B] _ _ rfl
      have HIN : Hid (Sl wa 5 (.slice a10 n10 c10) g10 (vals O10)) := HW10.out.2.1.same fun q hq => HBA.out.block q (HW10.out.2.1.lt hq)
      go_wp2_with (at_builtin; rw [← hwa]; refine wpList_more rfl _ _ rfl (.slice a10 n10 c10) g10 O10 rfl HIN.out (some ⟨w10.heap.size, 0, none⟩) 1 1 [B] rfl (by intro h; cases h) rfl HRX.out (by have := HO10.out; omega) ?_; clear z0 z1 z2 z3 z4 z5 z6; intro v11 w11 g11 hs11 hg11 hgr11; obtain ⟨a11, c11, hv11, -⟩ := hs11.shape; obtain ⟨n11, hn11⟩ : ∃ n11, (vals (O10 ++ [B])).length = n11 := ⟨_, rfl⟩; rw [hn11] at hv11; have HN11 : Hid (n11 = (O10 ++ [B]).length) := by { show n11 = _; rw [← hn11, vals_len] }; clear hn11; subst hv11; have HW11 : Hid (WrI w W H (.slice ta tn tc) false (-1) La B (O10 ++ [B]) (.slice a11 n11 c11) g11 w11) := HW10.out.more HBA.out hs11 hg11 hgr11; obtain ⟨z0, z1, z2, z3, z4, z5, z6, -⟩ := HW11.out.1.2.cells; clear hs11 hg11 hgr11 hwa)
      have HO11 : Hid ((O10 ++ [B]).length ≤ 11 * 1000) := by show _ ≤ _; have := HO10.out; have := HT3.out; simp only [List.length_append, List.length_cons, List.length_nil]; omega
      obtain ⟨O11, hO11⟩ : ∃ O11, O11 = O10 ++ [B] := ⟨_, rfl⟩
      rw [← hO11] at HW11 HO11 HN11
      have HE11 : Hid (O11 = O10 ++ [B]) := hO11
      clear hO11 HBA HIN
      go_ret2
      have he : O11 = wrL W H T false (-1) La B k := by rw [HE11.out, HE10.out, HE9.out, HE8.out, HE7.out, HE6.out, HE5.out, HE4.out, HE3.out]; unfold wrL; rw [HSP.out.1, HSP.out.2]; simp
      have hs := HW11.out.2.1
      rw [HN11.out] at hs ⊢
      rw [he] at hs ⊢
      exact ⟨_, _, _, rfl, hs, fun q hq => by have := HW11.out.2.2 q hq; omega, HW11.out.1.1⟩
    · have hC1 : (C == -1) = false := by simpa using hC
      have hC2 : (C != -1) = true := by simpa using hC
      have m4 : C % 256 = C := by omega
      have u4 : IntKind.u8.wrap C = C := by rw [IntKind.wrap_u8]; omega
      have CX := screenMarks_any W H ta tn tc false C La B k hk HKN.out w3 (HTD.out.old HW3.out.1.1)
      unfold ScV at CX
      rw [HSP.out.1] at CX
      go_wp2_with fail
      refine CX.mono ?_
      clear CX
      clear z0 z1 z2 z3 z4 z5 z6
      rintro e wq ⟨rfl, hbx⟩
      have HW4 : Hid (WrI w W H (.slice ta tn tc) false C La B O3 (.slice a3 n3 c3) g3 wq) := HW3.out.old hbx
      clear hbx
      obtain ⟨w4, hwj⟩ : ∃ w4, w4 = wq := ⟨_, rfl⟩
      subst hwj
      obtain ⟨O4, hO4⟩ : ∃ O4, O4 = O3 := ⟨_, rfl⟩
      have HO4 : Hid (O4.length ≤ 4 * 1000) := by show _ ≤ _; rw [hO4]; have := HO3.out; omega
      have HE4 : Hid (O4 = O3) := hO4
      have HN4 : Hid (n3 = O4.length) := by show _ = _; rw [hO4]; exact HN3.out
      rw [← hO4] at HW4
      clear hO4
      generalize a3 = a4 at *
      generalize n3 = n4 at *
      generalize c3 = c4 at *
      generalize g3 = g4 at *
      obtain ⟨z0, z1, z2, z3, z4, z5, z6, -⟩ := HW4.out.1.2.cells
      obtain ⟨wa, hwa⟩ : ∃ wa, wa = w4.alloc (.cells #[.int .u8 SM, .int .u8 0, .int .u8 0] 5) := ⟨_, rfl⟩
      have HBA : Hid (Below w4.heap.size w4 wa) := by show Below ..; rw [hwa]; exact (Below.refl _ _).alloc (Nat.le_refl _) _
      have HRX : Hid (Row wa (some ⟨w4.heap.size, 0, none⟩) [SM, 0, 0]) := by show Row ..; rw [hwa]; exact row_fr [SM, 0, 0] _ _ rfl
      have HIN : Hid (Sl wa 5 (.slice a4 n4 c4) g4 (vals O4)) := HW4.out.2.1.same fun q hq => HBA.out.block q (HW4.out.2.1.lt hq)
      go_upto_region 8 with (at_builtin; rw [← hwa]; refine wpList_more rfl _ _ rfl (.slice a4 n4 c4) g4 O4 rfl HIN.out (some ⟨w4.heap.size, 0, none⟩) 3 3 [SM, 0, 0] rfl (by intro h; cases h) rfl HRX.out (by have := HO4.out; omega) ?_; clear z0 z1 z2 z3 z4 z5 z6; intro v5 w5 g5 hs5 hg5 hgr5; obtain ⟨a5, c5, hv5, -⟩ := hs5.shape; obtain ⟨n5, hn5⟩ : ∃ n5, (vals (O4 ++ [SM, 0, 0])).length = n5 := ⟨_, rfl⟩; rw [hn5] at hv5; have HN5 : Hid (n5 = (O4 ++ [SM, 0, 0]).length) := by { show n5 = _; rw [← hn5, vals_len] }; clear hn5; subst hv5; have HW5 : Hid (WrI w W H (.slice ta tn tc) false C La B (O4 ++ [SM, 0, 0]) (.slice a5 n5 c5) g5 w5) := HW4.out.more HBA.out hs5 hg5 hgr5; obtain ⟨z0, z1, z2, z3, z4, z5, z6, -⟩ := HW5.out.1.2.cells; clear hs5 hg5 hgr5 hwa)
      have HO5 : Hid ((O4 ++ [SM, 0, 0]).length ≤ 5 * 1000) := by show _ ≤ _; have := HO4.out; have := HT3.out; simp only [List.length_append, List.length_cons, List.length_nil]; omega
      obtain ⟨O5, hO5⟩ : ∃ O5, O5 = O4 ++ [SM, 0, 0] := ⟨_, rfl⟩
      rw [← hO5] at HW5 HO5 HN5
      have HE5 : Hid (O5 = O4 ++ [SM, 0, 0]) := hO5
      clear hO5 HBA HIN
      have CX := table_any W H ta tn tc false C La B T w5 HT3.out.1 HT3.out.2.1 HT3.out.2.2.1 (HT3.out.2.2.2.old HW5.out.1.1)
      unfold ScV at CX
      go_wp2_with fail
      refine CX.mono ?_
      clear CX
      clear z0 z1 z2 z3 z4 z5 z6
      rintro e wa ⟨ax, cx, gx, rfl, hsx, -, hnx, hbx⟩
      have HBA : Hid (Below w5.heap.size w5 wa) := hbx
      have HRX : Hid (Row wa ax T) := hsx.row rfl
      clear hsx hbx
      obtain ⟨nx, hnx2⟩ : ∃ nx, (T).length = nx := ⟨_, rfl⟩
      rw [hnx2]
      have HNX : Hid ((T).length = nx) := hnx2
      have HNXb : Hid (nx ≤ 900) := by show _ ≤ _; rw [← hnx2]; have := HT3.out; omega
      clear hnx2
      have HIN : Hid (Sl wa 5 (.slice a5 n5 c5) g5 (vals O5)) := HW5.out.2.1.same fun q hq => HBA.out.block q (HW5.out.2.1.lt hq)
      go_upto_region 10 with (at_builtin; refine wpList_more rfl _ _ rfl (.slice a5 n5 c5) g5 O5 rfl HIN.out ax nx cx T rfl hnx HNX.out HRX.out (by have := HO5.out; have := HNXb.out; omega) ?_; intro v6 w6 g6 hs6 hg6 hgr6; obtain ⟨a6, c6, hv6, -⟩ := hs6.shape; obtain ⟨n6, hn6⟩ : ∃ n6, (vals (O5 ++ T)).length = n6 := ⟨_, rfl⟩; rw [hn6] at hv6; have HN6 : Hid (n6 = (O5 ++ T).length) := by { show n6 = _; rw [← hn6, vals_len] }; clear hn6; subst hv6; have HW6 : Hid (WrI w W H (.slice ta tn tc) false C La B (O5 ++ T) (.slice a6 n6 c6) g6 w6) := HW5.out.more HBA.out hs6 hg6 hgr6; obtain ⟨z0, z1, z2, z3, z4, z5, z6, -⟩ := HW6.out.1.2.cells; clear hs6 hg6 hgr6)
      have HO6 : Hid ((O5 ++ T).length ≤ 6 * 1000) := by show _ ≤ _; have := HO5.out; have := HT3.out; rw [List.length_append]; omega
      obtain ⟨O6, hO6⟩ : ∃ O6, O6 = O5 ++ T := ⟨_, rfl⟩
      rw [← hO6] at HW6 HO6 HN6
      have HE6 : Hid (O6 = O5 ++ T) := hO6
      clear hO6 HBA HIN
      obtain ⟨wa, hwa⟩ : ∃ wa, wa = w6.alloc (.cells #[.int .u8 33, .int .u8 249, .int .u8 4, .int .u8 1, .int .u8 0, .int .u8 0, .int .u8 C, .int .u8 0] 5) := ⟨_, rfl⟩
      have HBA : Hid (Below w6.heap.size w6 wa) := by show Below ..; rw [hwa]; exact (Below.refl _ _).alloc (Nat.le_refl _) _
      have HRX : Hid (Row wa (some ⟨w6.heap.size, 0, none⟩) [33, 249, 4, 1, 0, 0, C, 0]) := by show Row ..; rw [hwa]; exact row_fr [33, 249, 4, 1, 0, 0, C, 0] _ _ rfl
      have HIN : Hid (Sl wa 5 (.slice a6 n6 c6) g6 (vals O6)) := HW6.out.2.1.same fun q hq => HBA.out.block q (HW6.out.2.1.lt hq)
      go_upto_region 11 with (at_builtin; rw [← hwa]; refine wpList_more rfl _ _ rfl (.slice a6 n6 c6) g6 O6 rfl HIN.out (some ⟨w6.heap.size, 0, none⟩) 8 8 [33, 249, 4, 1, 0, 0, C, 0] rfl (by intro h; cases h) rfl HRX.out (by have := HO6.out; omega) ?_; clear z0 z1 z2 z3 z4 z5 z6; intro v7 w7 g7 hs7 hg7 hgr7; obtain ⟨a7, c7, hv7, -⟩ := hs7.shape; obtain ⟨n7, hn7⟩ : ∃ n7, (vals (O6 ++ [33, 249, 4, 1, 0, 0, C, 0])).length = n7 := ⟨_, rfl⟩; rw [hn7] at hv7; have HN7 : Hid (n7 = (O6 ++ [33, 249, 4, 1, 0, 0, C, 0]).length) := by { show n7 = _; rw [← hn7, vals_len] }; clear hn7; subst hv7; have HW7 : Hid (WrI w W H (.slice ta tn tc) false C La B (O6 ++ [33, 249, 4, 1, 0, 0, C, 0]) (.slice a7 n7 c7) g7 w7) := HW6.out.more HBA.out hs7 hg7 hgr7; obtain ⟨z0, z1, z2, z3, z4, z5, z6, -⟩ := HW7.out.1.2.cells; clear hs7 hg7 hgr7 hwa)
      have HO7 : Hid ((O6 ++ [33, 249, 4, 1, 0, 0, C, 0]).length ≤ 7 * 1000) := by show _ ≤ _; have := HO6.out; have := HT3.out; simp only [List.length_append, List.length_cons, List.length_nil]; omega
      obtain ⟨O7, hO7⟩ : ∃ O7, O7 = O6 ++ [33, 249, 4, 1, 0, 0, C, 0] := ⟨_, rfl⟩
      rw [← hO7] at HW7 HO7 HN7
      have HE7 : Hid (O7 = O6 ++ [33, 249, 4, 1, 0, 0, C, 0]) := hO7
      clear hO7 HBA HIN
      obtain ⟨wa, hwa⟩ : ∃ wa, wa = w7.alloc (.cells #[.int .u8 44, .int .u8 0, .int .u8 0, .int .u8 0, .int .u8 0] 5) := ⟨_, rfl⟩
      have HBA : Hid (Below w7.heap.size w7 wa) := by show Below ..; rw [hwa]; exact (Below.refl _ _).alloc (Nat.le_refl _) _
      have HRX : Hid (Row wa (some ⟨w7.heap.size, 0, none⟩) [44, 0, 0, 0, 0]) := by show Row ..; rw [hwa]; exact row_fr [44, 0, 0, 0, 0] _ _ rfl
      have HIN : Hid (Sl wa 5 (.slice a7 n7 c7) g7 (vals O7)) := HW7.out.2.1.same fun q hq => HBA.out.block q (HW7.out.2.1.lt hq)
      go_upto_region 12 with (at_builtin; rw [← hwa]; refine wpList_more rfl _ _ rfl (.slice a7 n7 c7) g7 O7 rfl HIN.out (some ⟨w7.heap.size, 0, none⟩) 5 5 [44, 0, 0, 0, 0] rfl (by intro h; cases h) rfl HRX.out (by have := HO7.out; omega) ?_; clear z0 z1 z2 z3 z4 z5 z6; intro v8 w8 g8 hs8 hg8 hgr8; obtain ⟨a8, c8, hv8, -⟩ := hs8.shape; obtain ⟨n8, hn8⟩ : ∃ n8, (vals (O7 ++ [44, 0, 0, 0, 0])).length = n8 := ⟨_, rfl⟩; rw [hn8] at hv8; have HN8 : Hid (n8 = (O7 ++ [44, 0, 0, 0, 0]).length) := by { show n8 = _; rw [← hn8, vals_len] }; clear hn8; subst hv8; have HW8 : Hid (WrI w W H (.slice ta tn tc) false C La B (O7 ++ [44, 0, 0, 0, 0]) (.slice a8 n8 c8) g8 w8) := HW7.out.more HBA.out hs8 hg8 hgr8; obtain ⟨z0, z1, z2, z3, z4, z5, z6, -⟩ := HW8.out.1.2.cells; clear hs8 hg8 hgr8 hwa)
      have HO8 : Hid ((O7 ++ [44, 0, 0, 0, 0]).length ≤ 8 * 1000) := by show _ ≤ _; have := HO7.out; have := HT3.out; simp only [List.length_append, List.length_cons, List.length_nil]; omega
      obtain ⟨O8, hO8⟩ : ∃ O8, O8 = O7 ++ [44, 0, 0, 0, 0] := ⟨_, rfl⟩
      rw [← hO8] at HW8 HO8 HN8
      have HE8 : Hid (O8 = O7 ++ [44, 0, 0, 0, 0]) := hO8
      clear hO8 HBA HIN
      have CX := sides_any W H ta tn tc false C La B w8
      unfold ScV at CX
      go_wp2_with fail
      refine CX.mono ?_
      clear CX
      clear z0 z1 z2 z3 z4 z5 z6
      rintro e wa ⟨ax, cx, gx, rfl, hsx, -, hnx, hbx⟩
      have HBA : Hid (Below w8.heap.size w8 wa) := hbx
      have HRX : Hid (Row wa ax (sdL W H)) := hsx.row rfl
      clear hsx hbx
      obtain ⟨nx, hnx2⟩ : ∃ nx, ((sdL W H)).length = nx := ⟨_, rfl⟩
      rw [hnx2]
      have HNX : Hid (((sdL W H)).length = nx) := hnx2
      have HNXb : Hid (nx ≤ 900) := by show _ ≤ _; rw [← hnx2]; have := HT3.out; simp only [List.length_append, octs_len, sdL]; omega
      clear hnx2
      have HIN : Hid (Sl wa 5 (.slice a8 n8 c8) g8 (vals O8)) := HW8.out.2.1.same fun q hq => HBA.out.block q (HW8.out.2.1.lt hq)
      go_upto_region 13 with (at_builtin; refine wpList_more rfl _ _ rfl (.slice a8 n8 c8) g8 O8 rfl HIN.out ax nx cx (sdL W H) rfl hnx HNX.out HRX.out (by have := HO8.out; have := HNXb.out; omega) ?_; intro v9 w9 g9 hs9 hg9 hgr9; obtain ⟨a9, c9, hv9, -⟩ := hs9.shape; obtain ⟨n9, hn9⟩ : ∃ n9, (vals (O8 ++ (sdL W H))).length = n9 := ⟨_, rfl⟩; rw [hn9] at hv9; have HN9 : Hid (n9 = (O8 ++ (sdL W H)).length) := by { show n9 = _; rw [← hn9, vals_len] }; clear hn9; subst hv9; have HW9 : Hid (WrI w W H (.slice ta tn tc) false C La B (O8 ++ (sdL W H)) (.slice a9 n9 c9) g9 w9) := HW8.out.more HBA.out hs9 hg9 hgr9; obtain ⟨z0, z1, z2, z3, z4, z5, z6, -⟩ := HW9.out.1.2.cells; clear hs9 hg9 hgr9)
      have HO9 : Hid ((O8 ++ (sdL W H)).length ≤ 9 * 1000) := by show _ ≤ _; have := HO8.out; have := HT3.out; simp only [List.length_append, octs_len, sdL]; omega
      obtain ⟨O9, hO9⟩ : ∃ O9, O9 = O8 ++ (sdL W H) := ⟨_, rfl⟩
      rw [← hO9] at HW9 HO9 HN9
      have HE9 : Hid (O9 = O8 ++ (sdL W H)) := hO9
      clear hO9 HBA HIN
      have CX := pictureMarks_any W H ta tn tc false C La B k hk HKN.out w9 (HTD.out.old HW9.out.1.1)
      unfold ScV at CX
      rw [HSP.out.2] at CX
      go_wp2_with fail
      refine CX.mono ?_
      clear CX
      clear z0 z1 z2 z3 z4 z5 z6
      rintro e wq ⟨rfl, hbx⟩
      have HW10 : Hid (WrI w W H (.slice ta tn tc) false C La B O9 (.slice a9 n9 c9) g9 wq) := HW9.out.old hbx
      clear hbx
      obtain ⟨w10, hwj⟩ : ∃ w10, w10 = wq := ⟨_, rfl⟩
      subst hwj
      obtain ⟨O10, hO10⟩ : ∃ O10, O10 = O9 := ⟨_, rfl⟩
      have HO10 : Hid (O10.length ≤ 10 * 1000) := by show _ ≤ _; rw [hO10]; have := HO9.out; omega
      have HE10 : Hid (O10 = O9) := hO10
      have HN10 : Hid (n9 = O10.length) := by show _ = _; rw [hO10]; exact HN9.out
      rw [← hO10] at HW10
      clear hO10
      generalize a9 = a10 at *
      generalize n9 = n10 at *
      generalize c9 = c10 at *
      generalize g9 = g10 at *
      obtain ⟨z0, z1, z2, z3, z4, z5, z6, -⟩ := HW10.out.1.2.cells
      obtain ⟨wa, hwa⟩ : ∃ wa, wa = w10.alloc (.cells #[.int .u8 PM] 5) := ⟨_, rfl⟩
      have HBA : Hid (Below w10.heap.size w10 wa) := by show Below ..; rw [hwa]; exact (Below.refl _ _).alloc (Nat.le_refl _) _
      have HRX : Hid (Row wa (some ⟨w10.heap.size, 0, none⟩) [PM]) := by show Row ..; rw [hwa]; exact row_fr [PM] _ _ rfl
      have HIN : Hid (Sl wa 5 (.slice a10 n10 c10) g10 (vals O10)) := HW10.out.2.1.same fun q hq => HBA.out.block q (HW10.out.2.1.lt hq)
      go_upto_region 16 with (at_builtin; rw [← hwa]; refine wpList_more rfl _ _ rfl (.slice a10 n10 c10) g10 O10 rfl HIN.out (some ⟨w10.heap.size, 0, none⟩) 1 1 [PM] rfl (by intro h; cases h) rfl HRX.out (by have := HO10.out; omega) ?_; clear z0 z1 z2 z3 z4 z5 z6; intro v11 w11 g11 hs11 hg11 hgr11; obtain ⟨a11, c11, hv11, -⟩ := hs11.shape; obtain ⟨n11, hn11⟩ : ∃ n11, (vals (O10 ++ [PM])).length = n11 := ⟨_, rfl⟩; rw [hn11] at hv11; have HN11 : Hid (n11 = (O10 ++ [PM]).length) := by { show n11 = _; rw [← hn11, vals_len] }; clear hn11; subst hv11; have HW11 : Hid (WrI w W H (.slice ta tn tc) false C La B (O10 ++ [PM]) (.slice a11 n11 c11) g11 w11) := HW10.out.more HBA.out hs11 hg11 hgr11; obtain ⟨z0, z1, z2, z3, z4, z5, z6, -⟩ := HW11.out.1.2.cells; clear hs11 hg11 hgr11 hwa)
      have HO11 : Hid ((O10 ++ [PM]).length ≤ 11 * 1000) := by show _ ≤ _; have := HO10.out; have := HT3.out; simp only [List.length_append, List.length_cons, List.length_nil]; omega
      obtain ⟨O11, hO11⟩ : ∃ O11, O11 = O10 ++ [PM] := ⟨_, rfl⟩
      rw [← hO11] at HW11 HO11 HN11
      have HE11 : Hid (O11 = O10 ++ [PM]) := hO11
      clear hO11 HBA HIN
      obtain ⟨wa, hwa⟩ : ∃ wa, wa = w11.alloc (.cells #[.int .u8 B] 5) := ⟨_, rfl⟩
      have HBA : Hid (Below w11.heap.size w11 wa) := by show Below ..; rw [hwa]; exact (Below.refl _ _).alloc (Nat.le_refl _) _
      have HRX : Hid (Row wa (some ⟨w11.heap.size, 0, none⟩) [B]) := by show Row ..; rw [hwa]; exact row_fr [B] _ _ rfl
      have HIN : Hid (Sl wa 5 (.slice a11 n11 c11) g11 (vals O11)) := HW11.out.2.1.same fun q hq => HBA.out.block q (HW11.out.2.1.lt hq)
      go_wp2_with (at_builtin; rw [← hwa]; refine wpList_more rfl _ _ rfl (.slice a11 n11 c11) g11 O11 rfl HIN.out (some ⟨w11.heap.size, 0, none⟩) 1 1 [B] rfl (by intro h; cases h) rfl HRX.out (by have := HO11.out; omega) ?_; clear z0 z1 z2 z3 z4 z5 z6; intro v12 w12 g12 hs12 hg12 hgr12; obtain ⟨a12, c12, hv12, -⟩ := hs12.shape; obtain ⟨n12, hn12⟩ : ∃ n12, (vals (O11 ++ [B])).length = n12 := ⟨_, rfl⟩; rw [hn12] at hv12; have HN12 : Hid (n12 = (O11 ++ [B]).length) := by { show n12 = _; rw [← hn12, vals_len] }; clear hn12; subst hv12; have HW12 : Hid (WrI w W H (.slice ta tn tc) false C La B (O11 ++ [B]) (.slice a12 n12 c12) g12 w12) := HW11.out.more HBA.out hs12 hg12 hgr12; obtain ⟨z0, z1, z2, z3, z4, z5, z6, -⟩ := HW12.out.1.2.cells; clear hs12 hg12 hgr12 hwa)
      have HO12 : Hid ((O11 ++ [B]).length ≤ 12 * 1000) := by show _ ≤ _; have := HO11.out; have := HT3.out; simp only [List.length_append, List.length_cons, List.length_nil]; omega
      obtain ⟨O12, hO12⟩ : ∃ O12, O12 = O11 ++ [B] := ⟨_, rfl⟩
      rw [← hO12] at HW12 HO12 HN12
      have HE12 : Hid (O12 = O11 ++ [B]) := hO12
      clear hO12 HBA HIN
      go_ret2
      have he : O12 = wrL W H T false C La B k := by rw [HE12.out, HE11.out, HE10.out, HE9.out, HE8.out, HE7.out, HE6.out, HE5.out, HE4.out, HE3.out]; unfold wrL; rw [HSP.out.1, HSP.out.2]; simp [hC]
      have hs := HW12.out.2.1
      rw [HN12.out] at hs ⊢
      rw [he] at hs ⊢
      exact ⟨_, _, _, rfl, hs, fun q hq => by have := HW12.out.2.2 q hq; omega, HW12.out.1.1⟩
end Go.Proofs.YtaodhifkbfninaaDoor
