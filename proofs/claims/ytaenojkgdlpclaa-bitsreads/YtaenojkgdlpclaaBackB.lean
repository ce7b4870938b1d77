import Derived.Test.YtaenojkgdlpclaaBackM
namespace Go.Proofs.Ytaenojkgdlpclaa
open Go.RowKit

/-- The writer behind i puts. -/
def WRelB (w : World) (x : Nat) (F : Nat → Int × Int × Bool) (i : Nat) (wr : World) : Prop :=
  ∃ g zs, WrZ wr x g zs (pss F i).2 ∧ Bitz zs (pss F i).1 (pss F i).2 ∧ w.heap.size ≤ x ∧ (∀ k, g = some k → w.heap.size ≤ k) ∧ Below w.heap.size w wr
theorem WRelB.step {w wr w' : World} {x : Nat} {F : Nat → Int × Int × Bool} {i : Nat} {g g' : Option Nat} {zs' : List Int} (hx : w.heap.size ≤ x) (hg0 : ∀ k, g = some k → w.heap.size ≤ k) (hb : Below w.heap.size w wr)
    (hw : WrZ w' x g' zs' (pss F (i + 1)).2) (hz : Bitz zs' (pss F (i + 1)).1 (pss F (i + 1)).2) (hg : g' = g ∨ ∃ k, g' = some k ∧ wr.heap.size ≤ k) (hf : Fr wr w' x g) : WRelB w x F (i + 1) w' := by
  refine ⟨g', zs', hw, hz, hx, ?_, Fr.below hb hf hx hg0 hb.size⟩
  intro k hk
  rcases hg with e | ⟨q, e, hq⟩
  · exact hg0 k (by rw [← e]; exact hk)
  · rw [e] at hk; cases hk; have := hb.size; omega
theorem bitz_align {zs : List Int} {W : Int} {c : Nat} (h : Bitz zs W c) : Bitz zs W (8 * ((c + 7) / 8)) ∧ 8 * zs.length = 8 * ((c + 7) / 8) :=
  ⟨⟨h.1, by have := h.2.1; omega, h.2.2.1, Int.lt_of_lt_of_le h.2.2.2 (pow_le_of _ _ (by omega))⟩, by have := h.2.1; omega⟩

/-- The reader behind j takes. -/
def RRel (w : World) (r : Nat) (F : Nat → Int × Int × Bool) (zs : List Int) (j : Nat) (wr : World) : Prop :=
  ∃ g, Rd wr r g (zs.drop ((pss F j).2 / 8)) ((pss F j).2 % 8) ∧ w.heap.size ≤ r ∧ (∀ k, g = some k → w.heap.size ≤ k) ∧ Below w.heap.size w wr

theorem take_int (r : Nat) (g : Option Nat) (zs : List Int) (gone : Nat) (m : Int) (n : Nat) (w : World) (hm : m = (n : Int)) (h : Rd w r g zs gone) (hb : Bytes zs) (hl : zs.length ≤ 140737488355328) (hg : gone < 8) (hn : n ≤ 32) (hh : gone + n ≤ 8 * zs.length) :
    Calls Try.prog 13 #[.pointer (some ⟨r, 0, none⟩), .int .i64 m] w fun e w' => TakePost w r g (bitV zs gone % 2 ^ n) (zs.drop ((gone + n) / 8)) ((gone + n) % 8) e w' := by
  subst hm; exact take_yes r g zs gone n w h hb hl hg hn hh

set_option maxHeartbeats 3200000 in
theorem back_walk (a : Option Addr) (len cap : Nat) (F : Nat → Int × Int × Bool) (w : World) (h : PArg w a len cap F) :
    Calls Try.prog 5 #[.slice a len cap] w fun e w' => e = .returned (.bool true) ∧ Below w.heap.size w w' := by
  obtain ⟨hl, hm, hF⟩ := h
  unfold maxLen at hm
  have HF : Hid (0 < len → ∃ b off, a = some ⟨b, off, none⟩ ∧ ∀ i, i < len → w.cell? ⟨b, off + i * 3, none⟩ = some (.int .i64 (F i).1) ∧ w.cell? ⟨b, off + i * 3 + 1, none⟩ = some (.int .i64 (F i).2.1) ∧ w.cell? ⟨b, off + i * 3 + 2, none⟩ = some (.bool (F i).2.2)) := hF
  clear hF
  by_cases c0 : 500 < (len : Int)
  · go_enter Try.func5, Try.ntmps5
    go_wp2_with (go_at_call 8; refine (fixed_any _).mono ?_; rintro e w1 ⟨rfl, hbel⟩)
    go_ret
    exact ⟨rfl, hbel⟩
  have d0 : len ≤ 500 := by omega
  go_enter Try.func5, Try.ntmps5
  go_wp2_with fail
  refine (fixed_any _).mono ?_
  rintro e w1 ⟨rfl, hb1⟩
  go_wp2_with fail
  refine (newW_any _).mono ?_
  rintro e w2 ⟨x, rfl, hx, hwr, hb2⟩
  have HW : Hid (WRelB w x F 0 w2) := ⟨none, [], hwr, bitz_nil, Nat.le_trans hb1.size hx, (by intro k hk; cases hk), hb1.trans (hb2.mono hb1.size)⟩
  clear hwr hb1 hb2 hx
  go_wp2
  go_loopw [5, 20] (fun _ t wr => ∃ i : Nat, i ≤ len ∧ t = .int .i64 i ∧ WRelB w x F i wr) (fun _ t _ => len - (intOf t).toNat)
  case atStart => exact ⟨0, Nat.zero_le _, rfl, HW.out⟩
  case round =>
    clear HW
    obtain ⟨i, hi, rfl, g, zs, hwr, hz, hx0, hg0, hbel⟩ := hrel
    by_cases hlt : i < len
    · obtain ⟨b, off, hab, hc⟩ := HF.out (by omega)
      have hbw : b < w.heap.size := cell_lt (hc i hlt).1
      have q0 : wr.cell? ⟨b, off + i * 3, none⟩ = some (.int .i64 (F i).1) := (hbel.cell (p := ⟨b, _, none⟩) hbw).trans (hc i hlt).1
      have q1 : wr.cell? ⟨b, off + i * 3 + 1, none⟩ = some (.int .i64 (F i).2.1) := (hbel.cell (p := ⟨b, _, none⟩) hbw).trans (hc i hlt).2.1
      have q2 : wr.cell? ⟨b, off + i * 3 + 2, none⟩ = some (.bool (F i).2.2) := (hbel.cell (p := ⟨b, _, none⟩) hbw).trans (hc i hlt).2.2
      subst hab
      clear hc
      have hps : pss F (i + 1) = pst (pss F i) (F i) := rfl
      have HPS : Hid (pss F (i + 1) = pst (pss F i) (F i)) := hps
      clear hps
      have hcnt := pss_count F i
      have hzl : zs.length ≤ 3000 := by have := hz.2.1; omega
      generalize hFi : F i = f at *
      have HFI : Hid (F i = f) := hFi
      clear hFi
      obtain ⟨fv, fn, fa⟩ := f
      simp only at q0 q1 q2
      cases fa with
      | true =>
        have hst : pss F (i + 1) = ((pss F i).1, 8 * (((pss F i).2 + 7) / 8)) := by rw [HPS.out]; simp [pst]
        have HST : Hid (pss F (i + 1) = ((pss F i).1, 8 * (((pss F i).2 + 7) / 8))) := hst
        clear hst HPS
        go_wp2_with fail
        refine (alignW_any x g zs _ _ (hwr.old ((Below.refl _ _).alloc (Nat.le_refl _) _)) (by omega)).mono ?_
        rintro e w5 ⟨rfl, g5, hw5, hg5, hf5⟩
        have ha := bitz_align hz
        rw [ha.2] at hw5
        have R : WRelB w x F (i + 1) w5 := WRelB.step hx0 hg0 (hbel.alloc hbel.size _) (by rw [HST.out]; exact hw5) (by rw [HST.out]; exact ha.1) hg5 hf5
        clear hwr hz hg0 hbel hw5 hg5 hf5 ha
        go_wp2
        go_roundw
        case rel => exact ⟨i + 1, by omega, by go_num, R⟩
        case measure => simp [intOf]; omega
      | false =>
        have hst : pss F (i + 1) = ((pss F i).1 + fv % 2 ^ clamp fn * 2 ^ (pss F i).2, (pss F i).2 + clamp fn) := by rw [HPS.out]; simp [pst]
        have HST : Hid (pss F (i + 1) = ((pss F i).1 + fv % 2 ^ clamp fn * 2 ^ (pss F i).2, (pss F i).2 + clamp fn)) := hst
        clear hst HPS
        go_wp2_with fail
        refine (put_all x g zs (pss F i).1 (pss F i).2 fv fn _ (hwr.old ((Below.refl _ _).alloc (Nat.le_refl _) _)) hz (by omega)).mono ?_
        rintro e w5 ⟨zs5, hz5, rfl, g5, hw5, hg5, hf5⟩
        have R : WRelB w x F (i + 1) w5 := WRelB.step hx0 hg0 (hbel.alloc hbel.size _) (by rw [HST.out]; exact hw5) (by rw [HST.out]; exact hz5) hg5 hf5
        clear hwr hz hg0 hbel hw5 hg5 hf5 hz5
        go_wp2
        go_roundw
        case rel => exact ⟨i + 1, by omega, by go_num, R⟩
        case measure => simp [intOf]; omega
    · obtain rfl : i = len := by omega
      have hcnt := pss_count F i
      have hzl : zs.length ≤ 3000 := by have := hz.2.1; omega
      go_wp2_with fail
      refine (new_any _).mono ?_
      rintro e w3 ⟨r, rfl, hr, hrd, hb3⟩
      have hw3 := hwr.old hb3
      go_wp2_with fail
      refine (outW_any x g zs _ _ hw3 (by omega)).mono ?_
      rintro e w4 ⟨a4, c4, rfl, _, _, n4, r4, b4⟩
      have hrd4 := hrd.old b4
      go_wp2_with fail
      refine (feed_any r none [] zs 0 a4 _ c4 _ hrd4 rfl n4 r4 (by simp; omega)).mono ?_
      rintro e w5 ⟨rfl, g5, hr5, hg5, hf5⟩
      have hB3 := hbel.trans (hb3.mono hbel.size)
      have hB4 := hB3.trans (b4.mono hB3.size)
      have hwr0 : w.heap.size ≤ r := Nat.le_trans hbel.size hr
      have HR : Hid (RRel w r F zs 0 w5) := ⟨g5, by rw [show (pss F 0).2 = 0 from rfl]; exact hr5, hwr0, (by
        intro k hk
        rcases hg5 with e | ⟨q, e, hq⟩
        · rw [e] at hk; cases hk
        · rw [e] at hk; cases hk; have := hB4.size; omega), Fr.below hB4 hf5 hwr0 (by intro k hk; cases hk) hB4.size⟩
      have HZ : Hid (Bitz zs (pss F i).1 (pss F i).2) := hz
      clear hwr hz hg0 hbel hw3 hb3 hrd hrd4 r4 b4 n4 hr5 hg5 hf5 hB3 hB4 hx0 hr hwr0
      go_wp2
      go_loopw [8, 9, 10, 11, 42] (fun _ _ _ _ t wr => ∃ j : Nat, j ≤ i ∧ t = .int .i64 j ∧ RRel w r F zs j wr) (fun _ _ _ _ t _ => i - (intOf t).toNat)
      case atStart => exact ⟨0, Nat.zero_le _, rfl, HR.out⟩
      case round =>
        clear HR
        obtain ⟨j, hj, rfl, g, hrd, hr0, hg0, hbel⟩ := hrel
        have hcj := pss_count F j
        have HLT : Hid (∀ d, (pss F j).2 ≤ (pss F (j + d)).2) := fun d => (pss_later F j d).choose_spec.2
        have HZD : Hid ((zs.drop ((pss F j).2 / 8)).length = zs.length - (pss F j).2 / 8) := List.length_drop
        have HBD : Hid (Bytes (zs.drop ((pss F j).2 / 8))) := HZ.out.1.drop _
        by_cases hlt : j < i
        · obtain ⟨b, off, hab, hc⟩ := HF.out (by omega)
          have hbw : b < w.heap.size := cell_lt (hc j hlt).1
          have q0 : wr.cell? ⟨b, off + j * 3, none⟩ = some (.int .i64 (F j).1) := (hbel.cell (p := ⟨b, _, none⟩) hbw).trans (hc j hlt).1
          have q1 : wr.cell? ⟨b, off + j * 3 + 1, none⟩ = some (.int .i64 (F j).2.1) := (hbel.cell (p := ⟨b, _, none⟩) hbw).trans (hc j hlt).2.1
          have q2 : wr.cell? ⟨b, off + j * 3 + 2, none⟩ = some (.bool (F j).2.2) := (hbel.cell (p := ⟨b, _, none⟩) hbw).trans (hc j hlt).2.2
          subst hab
          clear hc
          have hle1 : (pss F (j + 1)).2 ≤ (pss F i).2 := by have := (pss_later F (j + 1) (i - (j + 1))).choose_spec.2; rw [show j + 1 + (i - (j + 1)) = i by omega] at this; exact this
          have HTK : Hid ((F j).2.2 = false → (pss F i).1 / 2 ^ (pss F j).2 % 2 ^ clamp (F j).2.1 = (F j).1 % 2 ^ clamp (F j).2.1) := pss_take F j i hlt
          have HPS : Hid (pss F (j + 1) = pst (pss F j) (F j)) := rfl
          have HLE : Hid ((pss F (j + 1)).2 ≤ (pss F i).2) := hle1
          clear hle1
          generalize hFi : F j = f at *
          clear hFi
          obtain ⟨fv, fn, fa⟩ := f
          simp only at q0 q1 q2
          cases fa with
          | true =>
            have hst : (pss F (j + 1)).2 = 8 * (((pss F j).2 + 7) / 8) := by rw [HPS.out]; simp [pst]
            have HST : Hid ((pss F (j + 1)).2 = 8 * (((pss F j).2 + 7) / 8)) := hst
            clear hst
            by_cases hgo : (pss F j).2 % 8 = 0
            · have hrd0 : Rd wr r g (zs.drop ((pss F j).2 / 8)) 0 := by rw [← hgo]; exact hrd
              have HGO : Hid ((pss F j).2 % 8 = 0) := hgo
              clear hgo hrd
              go_wp2_with fail
              refine (align_no r g _ _ (hrd0.old ((Below.refl _ _).alloc (Nat.le_refl _) _))).mono ?_
              rintro e w6 ⟨rfl, rfl⟩
              have R : RRel w r F zs (j + 1) (wr.alloc (.cells #[.int .i64 fv, .int .i64 fn, .bool true] 45)) := by
                refine ⟨g, ?_, hr0, hg0, hbel.alloc hbel.size _⟩
                rw [HST.out, show 8 * (((pss F j).2 + 7) / 8) / 8 = (pss F j).2 / 8 by have := HGO.out; omega, show 8 * (((pss F j).2 + 7) / 8) % 8 = 0 by omega]
                exact hrd0.old ((Below.refl _ _).alloc (Nat.le_refl _) _)
              clear hrd0 hg0 hbel
              go_wp2
              go_roundw
              case rel => exact ⟨j + 1, by omega, by go_num, R⟩
              case measure => simp [intOf]; omega
            · have HGO : Hid (¬ (pss F j).2 % 8 = 0) := hgo
              clear hgo
              go_wp2_with fail
              refine (align_yes r g _ _ _ (hrd.old ((Below.refl _ _).alloc (Nat.le_refl _) _)) (by rw [HZD.out]; omega) (by omega) (by have := HGO.out; omega) (by rw [HZD.out, HZ.out.2.1]; have := HGO.out; have := HLT.out (i - j); rw [show j + (i - j) = i by omega] at this; omega)).mono ?_
              rintro e w6 ⟨rfl, hr6, hf6⟩
              have R : RRel w r F zs (j + 1) w6 := by
                refine ⟨g, ?_, hr0, hg0, Fr.below (hbel.alloc hbel.size _) hf6 hr0 hg0 (by have := hbel.size; simp; omega)⟩
                rw [HST.out, show 8 * (((pss F j).2 + 7) / 8) / 8 = (pss F j).2 / 8 + 1 by have := HGO.out; omega, show 8 * (((pss F j).2 + 7) / 8) % 8 = 0 by omega, ← List.drop_drop]
                exact hr6
              clear hrd hg0 hbel hr6 hf6
              go_wp2
              go_roundw
              case rel => exact ⟨j + 1, by omega, by go_num, R⟩
              case measure => simp [intOf]; omega
          | false =>
            have hst : (pss F (j + 1)).2 = (pss F j).2 + clamp fn := by rw [HPS.out]; simp [pst]
            have HST : Hid ((pss F (j + 1)).2 = (pss F j).2 + clamp fn) := hst
            have HCAP : Hid ((pss F j).2 % 8 + clamp fn ≤ 8 * (zs.drop ((pss F j).2 / 8)).length) := by
              have h1 := HLE.out
              have h2 := HZ.out.2.1
              have h3 : (zs.drop ((pss F j).2 / 8)).length = zs.length - (pss F j).2 / 8 := HZD.out
              rw [hst] at h1
              show _ ≤ _
              rw [h3]; omega
            have HVAL : Hid (bitV (zs.drop ((pss F j).2 / 8)) ((pss F j).2 % 8) % 2 ^ clamp fn = fv % 2 ^ clamp fn) := by
              have h1 := bitV_pass HZ.out.1 0 (pss F j).2
              rw [Nat.zero_add] at h1
              have h2 : bitV zs 0 = (pss F i).1 := by unfold bitV; rw [Int.pow_zero, Int.ediv_one]; exact HZ.out.2.2.1
              show _ = _
              rw [h1, h2]; exact HTK.out rfl
            clear hst
            by_cases hA : fn < 1
            · have HCL : Hid (clamp fn = 0) := (by unfold clamp; omega : clamp fn = 0)
              have HWT : Hid (bits .and .i64 fv 0 = fv % 2 ^ clamp fn) := by
                show _ = _
                rw [HCL.out]; exact i64_mask fv 0 0 (by omega) (by decide +kernel)
              go_wp2_with fail
              refine (take_int r g _ _ 0 (clamp fn) _ (by have := HCL.out; omega) (hrd.old ((Below.refl _ _).alloc (Nat.le_refl _) _)) HBD.out (by rw [HZD.out]; omega) (by omega) (clamp_le fn) HCAP.out).mono ?_
              rintro e w6 ⟨rfl, hr6, hf6⟩
              rw [HVAL.out] at *
              have hbx : w6.heap[wr.heap.size]? = some (.cells #[.int .i64 fv, .int .i64 fn, .bool false] 45 (0, 0)) := (hf6.block wr.heap.size (by simp) (fun e => by have := hrd.lt; omega) (fun e => by have := hrd.glt e.symm; omega)).trans (heap_alloc_new wr _)
              have hbc : w6.cell? ⟨wr.heap.size, 0, none⟩ = some (.int .i64 fv) := by simp [World.cell?, hbx]
              have R : RRel w r F zs (j + 1) w6 := by
                refine ⟨g, ?_, hr0, hg0, Fr.below (hbel.alloc hbel.size _) hf6 hr0 hg0 (by have := hbel.size; simp; omega)⟩
                rw [HST.out]
                rw [List.drop_drop, show (pss F j).2 / 8 + ((pss F j).2 % 8 + clamp fn) / 8 = ((pss F j).2 + clamp fn) / 8 by omega, show ((pss F j).2 % 8 + clamp fn) % 8 = ((pss F j).2 + clamp fn) % 8 by omega] at hr6
                exact hr6
              have HRR : Hid (RRel w r F zs (j + 1) w6) := R
              have hwt : bits .and .i64 fv 0 = fv % 2 ^ clamp fn := HWT.out
              generalize fv % 2 ^ clamp fn = V at *
              clear R hrd hg0 hbel hr6 hf6 hbx
              go_wp2
              go_roundw
              case rel => exact ⟨j + 1, by omega, by go_num, HRR.out⟩
              case measure => simp [intOf]; omega
            · by_cases hB : fn ≤ 32
              · obtain ⟨N, rfl⟩ := Int.eq_ofNat_of_zero_le (show 0 ≤ fn by omega)
                have HCL : Hid (clamp (N : Int) = N) := (by unfold clamp; omega : clamp (N : Int) = N)
                have HWT : Hid (bits .and .i64 fv (wrap64 (wrap64 (2 ^ N) - 1)) = fv % 2 ^ clamp (N : Int)) := by
                  show _ = _
                  rw [HCL.out]; exact want_eq fv N (by omega)
                have hN : (N : Int) ≤ 32 := hB
                have hN1 : (1 : Int) ≤ (N : Int) := by omega
                have hN0 : (0 : Int) < (N : Int) := by omega
                go_wp2_with fail
                refine (take_int r g _ _ (N : Int) (clamp (N : Int)) _ (by have := HCL.out; omega) (hrd.old ((Below.refl _ _).alloc (Nat.le_refl _) _)) HBD.out (by rw [HZD.out]; omega) (by omega) (clamp_le (N : Int)) HCAP.out).mono ?_
                rintro e w6 ⟨rfl, hr6, hf6⟩
                rw [HVAL.out] at *
                have hbx : w6.heap[wr.heap.size]? = some (.cells #[.int .i64 fv, .int .i64 (N : Int), .bool false] 45 (0, 0)) := (hf6.block wr.heap.size (by simp) (fun e => by have := hrd.lt; omega) (fun e => by have := hrd.glt e.symm; omega)).trans (heap_alloc_new wr _)
                have hbc : w6.cell? ⟨wr.heap.size, 0, none⟩ = some (.int .i64 fv) := by simp [World.cell?, hbx]
                have R : RRel w r F zs (j + 1) w6 := by
                  refine ⟨g, ?_, hr0, hg0, Fr.below (hbel.alloc hbel.size _) hf6 hr0 hg0 (by have := hbel.size; simp; omega)⟩
                  rw [HST.out]
                  rw [List.drop_drop, show (pss F j).2 / 8 + ((pss F j).2 % 8 + clamp (N : Int)) / 8 = ((pss F j).2 + clamp (N : Int)) / 8 by omega, show ((pss F j).2 % 8 + clamp (N : Int)) % 8 = ((pss F j).2 + clamp (N : Int)) % 8 by omega] at hr6
                  exact hr6
                have HRR : Hid (RRel w r F zs (j + 1) w6) := R
                have hwt : bits .and .i64 fv (wrap64 (wrap64 (2 ^ N) - 1)) = fv % 2 ^ clamp (N : Int) := HWT.out
                generalize fv % 2 ^ clamp (N : Int) = V at *
                clear R hrd hg0 hbel hr6 hf6 hbx
                go_wp2
                go_roundw
                case rel => exact ⟨j + 1, by omega, by go_num, HRR.out⟩
                case measure => simp [intOf]; omega
              · have HCL : Hid (clamp fn = 32) := (by unfold clamp; omega : clamp fn = 32)
                have HWT : Hid (bits .and .i64 fv 4294967295 = fv % 2 ^ clamp fn) := by
                  show _ = _
                  rw [HCL.out]; exact i64_mask fv 32 4294967295 (by omega) (by decide +kernel)
                go_wp2_with fail
                refine (take_int r g _ _ 32 (clamp fn) _ (by have := HCL.out; omega) (hrd.old ((Below.refl _ _).alloc (Nat.le_refl _) _)) HBD.out (by rw [HZD.out]; omega) (by omega) (clamp_le fn) HCAP.out).mono ?_
                rintro e w6 ⟨rfl, hr6, hf6⟩
                rw [HVAL.out] at *
                have hbx : w6.heap[wr.heap.size]? = some (.cells #[.int .i64 fv, .int .i64 fn, .bool false] 45 (0, 0)) := (hf6.block wr.heap.size (by simp) (fun e => by have := hrd.lt; omega) (fun e => by have := hrd.glt e.symm; omega)).trans (heap_alloc_new wr _)
                have hbc : w6.cell? ⟨wr.heap.size, 0, none⟩ = some (.int .i64 fv) := by simp [World.cell?, hbx]
                have R : RRel w r F zs (j + 1) w6 := by
                  refine ⟨g, ?_, hr0, hg0, Fr.below (hbel.alloc hbel.size _) hf6 hr0 hg0 (by have := hbel.size; simp; omega)⟩
                  rw [HST.out]
                  rw [List.drop_drop, show (pss F j).2 / 8 + ((pss F j).2 % 8 + clamp fn) / 8 = ((pss F j).2 + clamp fn) / 8 by omega, show ((pss F j).2 % 8 + clamp fn) % 8 = ((pss F j).2 + clamp fn) % 8 by omega] at hr6
                  exact hr6
                have HRR : Hid (RRel w r F zs (j + 1) w6) := R
                have hwt : bits .and .i64 fv 4294967295 = fv % 2 ^ clamp fn := HWT.out
                generalize fv % 2 ^ clamp fn = V at *
                clear R hrd hg0 hbel hr6 hf6 hbx
                go_wp2
                go_roundw
                case rel => exact ⟨j + 1, by omega, by go_num, HRR.out⟩
                case measure => simp [intOf]; omega
        · obtain rfl : j = i := by omega
          go_wp2_with fail
          refine (have_any r g _ _ _ hrd (by rw [HZD.out]; omega) (by omega)).mono ?_
          rintro e w6 ⟨rfl, n6, rfl⟩
          have hfin : ((zs.drop ((pss F j).2 / 8)).length : Int) * 8 - ((pss F j).2 % 8 : Nat) < 8 := by
            have h3 : (zs.drop ((pss F j).2 / 8)).length = zs.length - (pss F j).2 / 8 := HZD.out
            have h2 := HZ.out.2.1
            rw [h3]; omega
          have hfin2 : ((zs.length - (pss F j).2 / 8 : Nat) : Int) * 8 - ((pss F j).2 : Int) % 8 < 8 := by
            have h2 := HZ.out.2.1
            omega
          have HBE : Hid (Below w.heap.size w (wr.drewN n6)) := ⟨hbel.os, hbel.tape, hbel.output, hbel.size, hbel.block⟩
          clear hrd hbel
          go_wp2
          go_ret
          exact ⟨rfl, HBE.out⟩
end Go.Proofs.Ytaenojkgdlpclaa
