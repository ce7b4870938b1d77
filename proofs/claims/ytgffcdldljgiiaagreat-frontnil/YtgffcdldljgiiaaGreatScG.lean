/- A GIF's beginning: the picture's place and marks: the program's walk. -/
import Derived.Test.YtgffcdldljgiiaaGreatScX
import Derived.Deep.DeepCutAuto
import Derived.Deep.CutBlock
namespace Go.Proofs.YtgffcdldljgiiaaGreat
open Go.RowKit
set_option maxRecDepth 100000 in
theorem land64 : ∀ k : Fin 256, k.val &&& 64 = if k.val / 64 % 2 = 1 then 64 else 0 := by decide
theorem and64 (m : Int) (h0 : 0 ≤ m) (h1 : m ≤ 255) : (bits .and .i64 m 64 != 0) = decide (m / 64 % 2 = 1) := by
  obtain ⟨k, rfl⟩ := Int.eq_ofNat_of_zero_le h0
  rw [show (64 : Int) = ((64 : Nat) : Int) from rfl, i64_andN k 64 (by omega) (by omega), land64 ⟨k, by omega⟩]
  by_cases h : k / 64 % 2 = 1
  · rw [if_pos h, decide_eq_true (by omega)]; rfl
  · rw [if_neg h, decide_eq_false (by omega)]; rfl
theorem four_cells {w : World} {b : Nat} {v0 v1 v2 v3 : Value} {t : TypeId} (h : w.heap[b]? = some (.cells #[v0, v1, v2, v3] t (0, 0))) :
    w.cell? ⟨b, 0, none⟩ = some v0 ∧ w.cell? ⟨b, 1, none⟩ = some v1 ∧ w.cell? ⟨b, 2, none⟩ = some v2 ∧ w.cell? ⟨b, 3, none⟩ = some v3 := by
  simp [World.cell?, h]
def PcPost (w : World) (c U sb : Nat) (W H : Int) (T : List Int) (Lo : Bool) (C : Int) (La : Bool) (B : Int) (st : St) (e : Ending) (w' : World) : Prop := e = .returned (.tuple #[]) ∧ ∃ tv, SI w c U sb W H tv T Lo C La B st w'
set_option maxHeartbeats 6400000 in
set_option maxRecDepth 20000 in
theorem readPicture_any (c U sb : Nat) (W H : Int) (tv : Value) (T : List Int) (Lo : Bool) (C : Int) (La : Bool) (B : Int) (st : St) (w0 w : World) (s : Scr) (hs : s.W = W ∧ s.H = H ∧ s.T = T) (h : SI w0 c U sb W H tv T Lo C La B st w) : Calls Tryz.prog 243 #[.pointer (some ⟨c, 0, none⟩), .pointer (some ⟨sb, 0, none⟩)] w fun e w' => PcPost w0 c U sb W H (pcT s st) (decide (128 ≤ pcM st)) C (decide (pcM st / 64 % 2 = 1)) (b1 (pcB s st)) (pcS s st) e w' := by
  obtain ⟨sW, sH, sT⟩ := hs
  obtain ⟨ta, tn, tc, htv, htn, -⟩ := h.ti
  subst htv
  have HTn : Hid (3 * tn = T.length) := htn
  have HI : Hid (SI w0 c U sb W H (.slice ta tn tc) T Lo C La B st w) := h
  have C0 := h.cs.little
  have HL : Hid (∀ (s : St) w1, CS w1 c U s → Calls Tryz.prog 257 #[.pointer (some ⟨c, 0, none⟩), .int .i64 2] w1 fun e w' => e = .returned (.int .i64 (l2 s)) ∧ CS w' c U (bS 2 s) ∧ w1.grownBy w' (some c)) := fun s w1 h => h.little
  have HM : Hid (∀ w1, CS w1 c U (pc8 st) → (0 ≤ pcM st ∧ pcM st ≤ 255) ∧ Calls Tryz.prog 78 #[.pointer (some ⟨c, 0, none⟩), .int .i64 1] w1 fun e w' => e = .returned (.int .i64 (pcM st)) ∧ CS w' c U (bS 1 (pc8 st)) ∧ w1.grownBy w' (some c)) := fun w1 h => ⟨b1_bd h, h.big⟩
  have HSA : Hid (pcA s st = (if l2 st = 0 ∧ l2 (bS 2 st) = 0 ∧ l2 (bS 2 (bS 2 st)) = W ∧ l2 (bS 2 (bS 2 (bS 2 st))) = H then (if pcM st < 128 ∧ T = [] then fS 12 (bS 1 (pc8 st)) else bS 1 (pc8 st)) else fS 11 (bS 1 (pc8 st)))) := by
    show _ = _
    unfold pcA
    rw [sT]
    by_cases hk : pcOk s.W s.H st
    · have hk' := hk
      unfold pcOk at hk'
      rw [sW, sH] at hk'
      rw [if_pos hk, if_pos hk']
    · have hk' := hk
      unfold pcOk at hk'
      rw [sW, sH] at hk'
      rw [if_neg hk, if_neg hk']
  have HP0 : Hid (pcT s st = (if 128 ≤ pcM st then bL (tbN (pcM st)) (pcA s st) else T) ∧ pcB s st = (if 128 ≤ pcM st then bS (tbN (pcM st)) (pcA s st) else pcA s st) ∧ pcS s st = (if 2 ≤ b1 (pcB s st) ∧ b1 (pcB s st) ≤ 8 then bS 1 (pcB s st) else fS 3 (bS 1 (pcB s st)))) := ⟨by show pcT s st = _; unfold pcT; rw [sT], rfl, rfl⟩
  obtain ⟨LO, hLO⟩ : ∃ LO, LO = decide (128 ≤ pcM st) := ⟨_, rfl⟩
  rw [← hLO]
  generalize pcT s st = TT at *
  generalize pcS s st = SF at *
  generalize hBB : b1 (pcB s st) = BB at *
  generalize pcB s st = SB at *
  generalize pcA s st = SA at *
  have HBB : Hid (b1 SB = BB) := hBB
  clear hBB h htn
  generalize pcM st = M at *
  have h8 : pc8 st = bS 2 (bS 2 (bS 2 (bS 2 st))) := rfl
  rw [h8] at HM HSA
  clear h8
  have C1 := HL.out (bS 2 st)
  have C2 := HL.out (bS 2 (bS 2 st))
  have C3 := HL.out (bS 2 (bS 2 (bS 2 st)))
  clear HL sW sH sT
  generalize bS 1 (bS 2 (bS 2 (bS 2 (bS 2 st)))) = S5 at *
  generalize bS 2 (bS 2 (bS 2 (bS 2 st))) = S4 at *
  generalize l2 (bS 2 (bS 2 (bS 2 st))) = x3 at *
  generalize bS 2 (bS 2 (bS 2 st)) = S3 at *
  generalize l2 (bS 2 (bS 2 st)) = x2 at *
  generalize bS 2 (bS 2 st) = S2 at *
  generalize l2 (bS 2 st) = x1 at *
  generalize bS 2 st = S1 at *
  generalize l2 st = x0 at *
  have HC1 : Hid _ := C1
  have HC2 : Hid _ := C2
  have HC3 : Hid _ := C3
  clear C1 C2 C3
  go_enter Tryz.func243, Tryz.ntmps243
  go_wp2_with fail
  refine C0.mono ?_
  clear C0
  rintro e w1 ⟨rfl, hc1, hg1⟩
  have HI1 : Hid (SI w0 c U sb W H (.slice ta tn tc) T Lo C La B S1 w1) := HI.out.step hc1 hg1
  have C1 := HC1.out w1 hc1
  clear hc1 hg1 HI HC1
  go_wp2_with fail
  refine C1.mono ?_
  clear C1
  rintro e w2 ⟨rfl, hc2, hg2⟩
  have HI2 : Hid (SI w0 c U sb W H (.slice ta tn tc) T Lo C La B S2 w2) := HI1.out.step hc2 hg2
  have C2 := HC2.out w2 hc2
  clear hc2 hg2 HI1 HC2
  go_wp2_with fail
  refine C2.mono ?_
  clear C2
  rintro e w3 ⟨rfl, hc3, hg3⟩
  have HI3 : Hid (SI w0 c U sb W H (.slice ta tn tc) T Lo C La B S3 w3) := HI2.out.step hc3 hg3
  have C3 := HC3.out w3 hc3
  clear hc3 hg3 HI2 HC3
  go_wp2_with fail
  refine C3.mono ?_
  clear C3
  rintro e w4 ⟨rfl, hc4, hg4⟩
  have HI4 : Hid (SI w0 c U sb W H (.slice ta tn tc) T Lo C La B S4 w4) := HI3.out.step hc4 hg4
  obtain ⟨w4b, hw4b⟩ : ∃ w4b, w4b = w4.alloc (.cells #[.int .i64 x0, .int .i64 x1, .int .i64 x2, .int .i64 x3] 339) := ⟨_, rfl⟩
  have HI4b : Hid (SI w0 c U sb W H (.slice ta tn tc) T Lo C La B S4 w4b ∧ w4b.heap[w4.heap.size]? = some (.cells #[.int .i64 x0, .int .i64 x1, .int .i64 x2, .int .i64 x3] 339 (0, 0)) ∧ w4.heap.size ≠ sb) := by
    have hb : Below w4.heap.size w4 w4b := by rw [hw4b]; exact (Below.refl _ w4).alloc (Nat.le_refl _) _
    exact ⟨HI4.out.below hb, by rw [hw4b]; exact World.alloc_heap_new w4 _, by have := lt_of_block HI4.out.sc; omega⟩
  obtain ⟨hM, CM⟩ := HM.out w4b HI4b.out.1.cs
  clear hc4 hg4 HI3 HM HI4
  go_wp2_with fail
  rw [← hw4b]
  refine CM.mono ?_
  clear CM hw4b
  generalize w4.heap.size = ab at *
  rintro e w5 ⟨rfl, hc5, hg5⟩
  have HI5 : Hid (SI w0 c U sb W H (.slice ta tn tc) T Lo C La B S5 w5 ∧ w5.heap[ab]? = some (.cells #[.int .i64 x0, .int .i64 x1, .int .i64 x2, .int .i64 x3] 339 (0, 0)) ∧ ab ≠ sb) := ⟨HI4b.out.1.step hc5 hg5, (hg5.block _ (lt_of_block HI4b.out.2.1) (by
    intro e
    simp only [Option.some.injEq] at e
    obtain ⟨a', cap', q, _⟩ := HI4b.out.1.cs.cur
    rw [← e, HI4b.out.2.1] at q
    cases q)).trans HI4b.out.2.1, HI4b.out.2.2⟩
  clear hc5 hg5 HI4b
  have h64 := and64 M hM.1 hM.2
  have h128 := and128 M hM.1 hM.2
  by_cases hq : 128 ≤ M
  · rw [if_pos hq] at h128
    rw [if_pos hq, if_pos hq] at HP0
    have HP : Hid (TT = bL (tbN M) SA ∧ SB = bS (tbN M) SA ∧ SF = (if 2 ≤ BB ∧ BB ≤ 8 then bS 1 SB else fS 3 (bS 1 SB)) ∧ LO = true) := ⟨HP0.out.1, HP0.out.2.1, HP0.out.2.2, by rw [hLO]; exact decide_eq_true hq⟩
    clear HP0 hLO
    obtain ⟨w6, hw6⟩ : ∃ w6, w6 = (w5.setCell ⟨sb, 5, none⟩ (.bool (decide (M / 64 % 2 = 1)))).setCell ⟨sb, 3, none⟩ (.bool true) := ⟨_, rfl⟩
    have HI6 : Hid (SI w0 c U sb W H (.slice ta tn tc) T true C (decide (M / 64 % 2 = 1)) B S5 w6 ∧ w6.heap[ab]? = some (.cells #[.int .i64 x0, .int .i64 x1, .int .i64 x2, .int .i64 x3] 339 (0, 0))) := by
      have g := HI5.out.1.set 5 _ (HI5.out.1.sc.set5 (decide (M / 64 % 2 = 1))) HI5.out.1.ti
      have hne : ab ≠ sb := HI5.out.2.2
      rw [hw6]
      exact ⟨g.set 3 _ (g.sc.set3 true) g.ti, by rw [Below.heap_setCell _ _ _ _ hne, Below.heap_setCell _ _ _ _ hne]; exact HI5.out.2.1⟩
    obtain ⟨k0, k1, k2, k3, k4, k5, k6, kf⟩ := HI5.out.1.sc.cells
    have kf3 := kf 3
    have kf5 := kf 5
    clear kf
    obtain ⟨j0, j1, j2, j3, j4, j5, j6, -⟩ := HI6.out.1.sc.cells
    obtain ⟨a0, a1, a2, a3⟩ := four_cells HI6.out.2
    have d0 : w6.drew.cell? ⟨sb, 0, none⟩ = _ := j0
    have d1 : w6.drew.cell? ⟨sb, 1, none⟩ = _ := j1
    have d2 : w6.drew.cell? ⟨ab, 0, none⟩ = _ := a0
    have d3 : w6.drew.cell? ⟨ab, 1, none⟩ = _ := a1
    have d4 : w6.drew.cell? ⟨ab, 2, none⟩ = _ := a2
    have d5 : w6.drew.cell? ⟨ab, 3, none⟩ = _ := a3
    have d6 : w6.drew.cell? ⟨sb, 2, none⟩ = _ := j2
    have d7 : w6.drew.cell? ⟨sb, 3, none⟩ = _ := j3
    have HI6d : Hid (SI w0 c U sb W H (.slice ta tn tc) T true C (decide (M / 64 % 2 = 1)) B S5 w6.drew) := HI6.out.1.below ⟨rfl, rfl, rfl, Nat.le_refl _, fun _ _ => rfl⟩
    clear HI5 HI6
    go_upto_block 0 with fail
    rw [← hw6]
    clear hw6 k0 k1 k2 k3 k4 k5 k6 kf3 kf5 j0 j1 j2 j3 j4 j5 j6 a0 a1 a2 a3
    go_cut [29, 43] (fun _ _ wx => True ∧ SI w0 c U sb W H (.slice ta tn tc) T true C (decide (M / 64 % 2 = 1)) B SA wx)
    case first =>
      by_cases hok : x0 = 0 ∧ x1 = 0 ∧ x2 = W ∧ x3 = H
      · rw [if_pos hok] at HSA
        obtain ⟨rfl, rfl, rfl, rfl⟩ := hok
        have heq : ∀ u : World, (Op.equalIn 10000 339 (.agg #[.int .i64 0, .int .i64 0, .int .i64 x2, .int .i64 x3]) (.agg #[.int .i64 0, .int .i64 0, .int .i64 x2, .int .i64 x3])).run Tryz.prog u = .ok true u := fun u => by rw [eq_arr4]; simp
        go_wp2_with fail
        go_region_held3 (fun u => u.cell? ⟨sb, 0, none⟩ = some (.int .i64 x2) ∧ u.cell? ⟨sb, 1, none⟩ = some (.int .i64 x3) ∧ u.cell? ⟨ab, 0, none⟩ = some (.int .i64 0) ∧ u.cell? ⟨ab, 1, none⟩ = some (.int .i64 0) ∧ u.cell? ⟨ab, 2, none⟩ = some (.int .i64 x2) ∧ u.cell? ⟨ab, 3, none⟩ = some (.int .i64 x3)) (first | (with_reducible exact ⟨by with_reducible assumption, by with_reducible assumption, by with_reducible assumption, by with_reducible assumption, by with_reducible assumption, by with_reducible assumption⟩) | go_keep) (fail)
        rw [if_neg (by omega)] at HSA
        go_wp2
        go_meet
        exact ⟨trivial, by rw [HSA.out]; exact HI6d.out⟩
      · rw [if_neg hok] at HSA
        have CF := HI6d.out.cs.fail 11 (by omega)
        have heq : ∀ u : World, (Op.equalIn 10000 339 (.agg #[.int .i64 x0, .int .i64 x1, .int .i64 x2, .int .i64 x3]) (.agg #[.int .i64 0, .int .i64 0, .int .i64 W, .int .i64 H])).run Tryz.prog u = .ok false u := fun u => by rw [eq_arr4]; congr 1; simpa [and_assoc] using hok
        go_wp2_with fail
        go_region_held3 (fun u => u.cell? ⟨sb, 0, none⟩ = some (.int .i64 W) ∧ u.cell? ⟨sb, 1, none⟩ = some (.int .i64 H) ∧ u.cell? ⟨ab, 0, none⟩ = some (.int .i64 x0) ∧ u.cell? ⟨ab, 1, none⟩ = some (.int .i64 x1) ∧ u.cell? ⟨ab, 2, none⟩ = some (.int .i64 x2) ∧ u.cell? ⟨ab, 3, none⟩ = some (.int .i64 x3)) (first | (with_reducible exact ⟨by with_reducible assumption, by with_reducible assumption, by with_reducible assumption, by with_reducible assumption, by with_reducible assumption, by with_reducible assumption⟩) | go_keep) (fail)
        go_wp2_with (go_at_call 123; refine CF.mono ?_; rintro e w12 ⟨rfl, hc12, hg12⟩; clear CF)
        go_meet
        exact ⟨trivial, by rw [HSA.out]; exact HI6d.out.step hc12 hg12⟩
    case rest =>
      obtain ⟨-, hcI⟩ := hcut
      have HJ : Hid (SI w0 c U sb W H (.slice ta tn tc) T true C (decide (M / 64 % 2 = 1)) B SA wc) := hcI
      clear hcI
      obtain ⟨w7, hw7⟩ : ∃ w7, w7 = wc := ⟨_, rfl⟩
      subst hw7
      obtain ⟨k0, k1, k2, k3, k4, k5, k6, kf⟩ := HJ.out.sc.cells
      have kf2 := kf 2
      clear kf
      have CT := readTable_any c U SA M w7 HJ.out.cs (by have := HJ.out.us; have := lt_of_block HJ.out.sc; omega) hM
      go_wp2_with fail
      refine CT.mono ?_
      clear CT
      rintro e w8 ⟨tv8, rfl, ht8, hc8, hg8⟩
      have HJ8 : Hid (SI w0 c U sb W H (.slice ta tn tc) T true C (decide (M / 64 % 2 = 1)) B (bS (tbN M) SA) w8) := HJ.out.step hc8 hg8
      have HT8 : Hid (TJ w8 tv8 (bL (tbN M) SA)) := ht8.toTJ
      obtain ⟨t8, n8, c8, htv, -⟩ := ht8
      subst htv
      clear hc8 hg8 HJ k0 k1 k2 k3 k4 k5 k6 kf2
      obtain ⟨k0, k1, k2, k3, k4, k5, k6, kf⟩ := HJ8.out.sc.cells
      have kf2 := kf 2
      clear kf
      obtain ⟨w9, hw9⟩ : ∃ w9, w9 = w8.setCell ⟨sb, 2, none⟩ (.slice t8 n8 c8) := ⟨_, rfl⟩
      have HJ9 : Hid (SI w0 c U sb W H (.slice t8 n8 c8) TT true C (decide (M / 64 % 2 = 1)) B SB w9) := by
        show SI ..
        rw [hw9, HP.out.1, HP.out.2.1]
        exact HJ8.out.set 2 _ (HJ8.out.sc.set2 _) HT8.out
      have CB := HJ9.out.cs.big
      rw [hw9, HBB.out] at CB
      go_wp2_with fail
      refine CB.mono ?_
      clear CB HJ8 HT8 k0 k1 k2 k3 k4 k5 k6 kf2
      rw [← hw9]
      clear hw9
      generalize t8 = t9 at *
      generalize n8 = n9 at *
      generalize c8 = c9 at *
      rintro e w10 ⟨rfl, hc10, hg10⟩
      have HJ10 : Hid (SI w0 c U sb W H (.slice t9 n9 c9) TT true C (decide (M / 64 % 2 = 1)) B (bS 1 SB) w10) := HJ9.out.step hc10 hg10
      clear hc10 hg10 HJ9
      obtain ⟨k0, k1, k2, k3, k4, k5, k6, kf⟩ := HJ10.out.sc.cells
      have kf6 := kf 6
      clear kf
      obtain ⟨w11, hw11⟩ : ∃ w11, w11 = w10.setCell ⟨sb, 6, none⟩ (.int .i64 BB) := ⟨_, rfl⟩
      have HJ11 : Hid (SI w0 c U sb W H (.slice t9 n9 c9) TT true C (decide (M / 64 % 2 = 1)) BB (bS 1 SB) w11) := by
        show SI ..
        rw [hw11]
        exact HJ10.out.set 6 _ (HJ10.out.sc.set6 _) HJ10.out.ti
      have CM := mayBits_any BB w11
      rw [hw11] at CM
      have HF : Hid (SI w0 c U sb W H (.slice t9 n9 c9) TT true C (decide (M / 64 % 2 = 1)) BB (bS 1 SB) w11 ∧ ∀ w', CS w' c U (fS 3 (bS 1 SB)) → w11.grownBy w' (some c) → SI w0 c U sb W H (.slice t9 n9 c9) TT true C (decide (M / 64 % 2 = 1)) BB (fS 3 (bS 1 SB)) w') := ⟨HJ11.out, fun w' h1 h2 => HJ11.out.step h1 h2⟩
      have CF := HJ11.out.cs.fail 3 (by omega)
      rw [hw11] at CF
      clear HJ10 HJ11
      by_cases hb : 2 ≤ BB ∧ BB ≤ 8
      · rw [decide_eq_true hb] at CM
        rw [if_pos hb] at HP
        go_wp2_with (go_at_call 262; refine CM.mono ?_; rintro e w12 ⟨rfl, rfl⟩; clear CM)
        go_end0
        refine ⟨rfl, .slice t9 n9 c9, ?_⟩
        rw [HP.out.2.2.1, HP.out.2.2.2, ← hw11]
        exact HF.out.1
      · rw [decide_eq_false hb] at CM
        rw [if_neg hb] at HP
        go_wp2_with (first | (go_at_call 262; refine CM.mono ?_; rintro e w12 ⟨rfl, rfl⟩; clear CM) | (go_at_call 123; refine CF.mono ?_; rintro e w13 ⟨rfl, hc13, hg13⟩; clear CF))
        go_end0
        refine ⟨rfl, .slice t9 n9 c9, ?_⟩
        rw [HP.out.2.2.1, HP.out.2.2.2]
        rw [← hw11] at hg13
        exact HF.out.2 _ hc13 hg13
  · rw [if_neg hq] at h128
    rw [if_neg hq, if_neg hq] at HP0
    have HP : Hid (TT = T ∧ SB = SA ∧ SF = (if 2 ≤ BB ∧ BB ≤ 8 then bS 1 SB else fS 3 (bS 1 SB)) ∧ LO = false) := ⟨HP0.out.1, HP0.out.2.1, HP0.out.2.2, by rw [hLO]; exact decide_eq_false hq⟩
    clear HP0 hLO
    obtain ⟨w6, hw6⟩ : ∃ w6, w6 = (w5.setCell ⟨sb, 5, none⟩ (.bool (decide (M / 64 % 2 = 1)))).setCell ⟨sb, 3, none⟩ (.bool false) := ⟨_, rfl⟩
    have HI6 : Hid (SI w0 c U sb W H (.slice ta tn tc) T false C (decide (M / 64 % 2 = 1)) B S5 w6 ∧ w6.heap[ab]? = some (.cells #[.int .i64 x0, .int .i64 x1, .int .i64 x2, .int .i64 x3] 339 (0, 0))) := by
      have g := HI5.out.1.set 5 _ (HI5.out.1.sc.set5 (decide (M / 64 % 2 = 1))) HI5.out.1.ti
      have hne : ab ≠ sb := HI5.out.2.2
      rw [hw6]
      exact ⟨g.set 3 _ (g.sc.set3 false) g.ti, by rw [Below.heap_setCell _ _ _ _ hne, Below.heap_setCell _ _ _ _ hne]; exact HI5.out.2.1⟩
    obtain ⟨k0, k1, k2, k3, k4, k5, k6, kf⟩ := HI5.out.1.sc.cells
    have kf3 := kf 3
    have kf5 := kf 5
    clear kf
    obtain ⟨j0, j1, j2, j3, j4, j5, j6, -⟩ := HI6.out.1.sc.cells
    obtain ⟨a0, a1, a2, a3⟩ := four_cells HI6.out.2
    have d0 : w6.drew.cell? ⟨sb, 0, none⟩ = _ := j0
    have d1 : w6.drew.cell? ⟨sb, 1, none⟩ = _ := j1
    have d2 : w6.drew.cell? ⟨ab, 0, none⟩ = _ := a0
    have d3 : w6.drew.cell? ⟨ab, 1, none⟩ = _ := a1
    have d4 : w6.drew.cell? ⟨ab, 2, none⟩ = _ := a2
    have d5 : w6.drew.cell? ⟨ab, 3, none⟩ = _ := a3
    have d6 : w6.drew.cell? ⟨sb, 2, none⟩ = _ := j2
    have d7 : w6.drew.cell? ⟨sb, 3, none⟩ = _ := j3
    have HI6d : Hid (SI w0 c U sb W H (.slice ta tn tc) T false C (decide (M / 64 % 2 = 1)) B S5 w6.drew) := HI6.out.1.below ⟨rfl, rfl, rfl, Nat.le_refl _, fun _ _ => rfl⟩
    clear HI5 HI6
    go_upto_block 0 with fail
    rw [← hw6]
    clear hw6 k0 k1 k2 k3 k4 k5 k6 kf3 kf5 j0 j1 j2 j3 j4 j5 j6 a0 a1 a2 a3
    go_cut [29, 43] (fun _ _ wx => True ∧ SI w0 c U sb W H (.slice ta tn tc) T false C (decide (M / 64 % 2 = 1)) B SA wx)
    case first =>
      by_cases hok : x0 = 0 ∧ x1 = 0 ∧ x2 = W ∧ x3 = H
      · rw [if_pos hok] at HSA
        obtain ⟨rfl, rfl, rfl, rfl⟩ := hok
        have heq : ∀ u : World, (Op.equalIn 10000 339 (.agg #[.int .i64 0, .int .i64 0, .int .i64 x2, .int .i64 x3]) (.agg #[.int .i64 0, .int .i64 0, .int .i64 x2, .int .i64 x3])).run Tryz.prog u = .ok true u := fun u => by rw [eq_arr4]; simp
        go_wp2_with fail
        go_region_held3 (fun u => u.cell? ⟨sb, 0, none⟩ = some (.int .i64 x2) ∧ u.cell? ⟨sb, 1, none⟩ = some (.int .i64 x3) ∧ u.cell? ⟨ab, 0, none⟩ = some (.int .i64 0) ∧ u.cell? ⟨ab, 1, none⟩ = some (.int .i64 0) ∧ u.cell? ⟨ab, 2, none⟩ = some (.int .i64 x2) ∧ u.cell? ⟨ab, 3, none⟩ = some (.int .i64 x3)) (first | (with_reducible exact ⟨by with_reducible assumption, by with_reducible assumption, by with_reducible assumption, by with_reducible assumption, by with_reducible assumption, by with_reducible assumption⟩) | go_keep) (fail)
        by_cases hT : T = []
        · rw [if_pos ⟨by omega, hT⟩] at HSA
          have hn0 : tn = 0 := by have := HTn.out; rw [hT] at this; simp at this; omega
          subst hn0
          have CF := HI6d.out.cs.fail 12 (by omega)
          go_wp2_with (go_at_call 123; refine CF.mono ?_; rintro e w12 ⟨rfl, hc12, hg12⟩; clear CF)
          go_meet
          exact ⟨trivial, by rw [HSA.out]; exact HI6d.out.step hc12 hg12⟩
        · rw [if_neg (fun h => hT h.2)] at HSA
          have hn0 : ((tn : Int) == 0) = false := by
            have h3 := HTn.out
            have : T.length ≠ 0 := fun e => hT (List.length_eq_zero_iff.1 e)
            simp; omega
          go_wp2
          go_meet
          exact ⟨trivial, by rw [HSA.out]; exact HI6d.out⟩
      · rw [if_neg hok] at HSA
        have CF := HI6d.out.cs.fail 11 (by omega)
        have heq : ∀ u : World, (Op.equalIn 10000 339 (.agg #[.int .i64 x0, .int .i64 x1, .int .i64 x2, .int .i64 x3]) (.agg #[.int .i64 0, .int .i64 0, .int .i64 W, .int .i64 H])).run Tryz.prog u = .ok false u := fun u => by rw [eq_arr4]; congr 1; simpa [and_assoc] using hok
        go_wp2_with fail
        go_region_held3 (fun u => u.cell? ⟨sb, 0, none⟩ = some (.int .i64 W) ∧ u.cell? ⟨sb, 1, none⟩ = some (.int .i64 H) ∧ u.cell? ⟨ab, 0, none⟩ = some (.int .i64 x0) ∧ u.cell? ⟨ab, 1, none⟩ = some (.int .i64 x1) ∧ u.cell? ⟨ab, 2, none⟩ = some (.int .i64 x2) ∧ u.cell? ⟨ab, 3, none⟩ = some (.int .i64 x3)) (first | (with_reducible exact ⟨by with_reducible assumption, by with_reducible assumption, by with_reducible assumption, by with_reducible assumption, by with_reducible assumption, by with_reducible assumption⟩) | go_keep) (fail)
        go_wp2_with (go_at_call 123; refine CF.mono ?_; rintro e w12 ⟨rfl, hc12, hg12⟩; clear CF)
        go_meet
        exact ⟨trivial, by rw [HSA.out]; exact HI6d.out.step hc12 hg12⟩
    case rest =>
      obtain ⟨-, hcI⟩ := hcut
      have HJ : Hid (SI w0 c U sb W H (.slice ta tn tc) T false C (decide (M / 64 % 2 = 1)) B SA wc) := hcI
      clear hcI
      obtain ⟨w9, hw9⟩ : ∃ w9, w9 = wc := ⟨_, rfl⟩
      subst hw9
      have HJ9 : Hid (SI w0 c U sb W H (.slice ta tn tc) TT false C (decide (M / 64 % 2 = 1)) B SB w9) := by
        show SI ..
        rw [HP.out.1, HP.out.2.1]
        exact HJ.out
      clear HJ
      obtain ⟨k0, k1, k2, k3, k4, k5, k6, kf⟩ := HJ9.out.sc.cells
      clear kf k0 k1 k2 k4 k5 k6
      have CB := HJ9.out.cs.big
      rw [HBB.out] at CB
      go_wp2_with fail
      refine CB.mono ?_
      clear CB k3
      generalize ta = t9 at *
      generalize tn = n9 at *
      generalize tc = c9 at *
      rintro e w10 ⟨rfl, hc10, hg10⟩
      have HJ10 : Hid (SI w0 c U sb W H (.slice t9 n9 c9) TT false C (decide (M / 64 % 2 = 1)) B (bS 1 SB) w10) := HJ9.out.step hc10 hg10
      clear hc10 hg10 HJ9
      obtain ⟨k0, k1, k2, k3, k4, k5, k6, kf⟩ := HJ10.out.sc.cells
      have kf6 := kf 6
      clear kf
      obtain ⟨w11, hw11⟩ : ∃ w11, w11 = w10.setCell ⟨sb, 6, none⟩ (.int .i64 BB) := ⟨_, rfl⟩
      have HJ11 : Hid (SI w0 c U sb W H (.slice t9 n9 c9) TT false C (decide (M / 64 % 2 = 1)) BB (bS 1 SB) w11) := by
        show SI ..
        rw [hw11]
        exact HJ10.out.set 6 _ (HJ10.out.sc.set6 _) HJ10.out.ti
      have CM := mayBits_any BB w11
      rw [hw11] at CM
      have HF : Hid (SI w0 c U sb W H (.slice t9 n9 c9) TT false C (decide (M / 64 % 2 = 1)) BB (bS 1 SB) w11 ∧ ∀ w', CS w' c U (fS 3 (bS 1 SB)) → w11.grownBy w' (some c) → SI w0 c U sb W H (.slice t9 n9 c9) TT false C (decide (M / 64 % 2 = 1)) BB (fS 3 (bS 1 SB)) w') := ⟨HJ11.out, fun w' h1 h2 => HJ11.out.step h1 h2⟩
      have CF := HJ11.out.cs.fail 3 (by omega)
      rw [hw11] at CF
      clear HJ10 HJ11
      by_cases hb : 2 ≤ BB ∧ BB ≤ 8
      · rw [decide_eq_true hb] at CM
        rw [if_pos hb] at HP
        go_wp2_with (go_at_call 262; refine CM.mono ?_; rintro e w12 ⟨rfl, rfl⟩; clear CM)
        go_end0
        refine ⟨rfl, .slice t9 n9 c9, ?_⟩
        rw [HP.out.2.2.1, HP.out.2.2.2, ← hw11]
        exact HF.out.1
      · rw [decide_eq_false hb] at CM
        rw [if_neg hb] at HP
        go_wp2_with (first | (go_at_call 262; refine CM.mono ?_; rintro e w12 ⟨rfl, rfl⟩; clear CM) | (go_at_call 123; refine CF.mono ?_; rintro e w13 ⟨rfl, hc13, hg13⟩; clear CF))
        go_end0
        refine ⟨rfl, .slice t9 n9 c9, ?_⟩
        rw [HP.out.2.2.1, HP.out.2.2.2]
        rw [← hw11] at hg13
        exact HF.out.2 _ hc13 hg13
end Go.Proofs.YtgffcdldljgiiaaGreat
