/- The passes, told one by one. -/
import Derived.Test.YtgffcdldljgiiaaGreatAmB
import Derived.Deep.DeepCutAuto
import Derived.Deep.CutBlock
import Derived.Deep.RegionHeld3
import Derived.Deep.LoopGhost
namespace Go.Proofs.YtgffcdldljgiiaaGreat
open Go.RowKit
attribute [local go_sem] Oper.semAt_some
theorem six_new (w : World) (x y dx dy : Int) : (w.alloc (.cells #[.int .i64 x, .int .i64 y, .int .i64 dx, .int .i64 dy, .int .i64 0, .int .i64 0] 198)).cell? ⟨w.heap.size, 0, none⟩ = some (.int .i64 x) ∧ (w.alloc (.cells #[.int .i64 x, .int .i64 y, .int .i64 dx, .int .i64 dy, .int .i64 0, .int .i64 0] 198)).cell? ⟨w.heap.size, 1, none⟩ = some (.int .i64 y) ∧ (w.alloc (.cells #[.int .i64 x, .int .i64 y, .int .i64 dx, .int .i64 dy, .int .i64 0, .int .i64 0] 198)).cell? ⟨w.heap.size, 2, none⟩ = some (.int .i64 dx) ∧
    (w.alloc (.cells #[.int .i64 x, .int .i64 y, .int .i64 dx, .int .i64 dy, .int .i64 0, .int .i64 0] 198)).cell? ⟨w.heap.size, 3, none⟩ = some (.int .i64 dy) ∧ (w.alloc (.cells #[.int .i64 x, .int .i64 y, .int .i64 dx, .int .i64 dy, .int .i64 0, .int .i64 0] 198)).cell? ⟨w.heap.size, 4, none⟩ = some (.int .i64 0) ∧ (w.alloc (.cells #[.int .i64 x, .int .i64 y, .int .i64 dx, .int .i64 dy, .int .i64 0, .int .i64 0] 198)).cell? ⟨w.heap.size, 5, none⟩ = some (.int .i64 0) := by
  refine ⟨?_, ?_, ?_, ?_, ?_, ?_⟩ <;> (rw [World.cell?_alloc_mark]; rfl)
set_option maxHeartbeats 1600000 in
set_option maxRecDepth 20000 in
theorem passes1_any (s sb l : Nat) (W H : Int) (L : List Stp) (J : Nat → World → Prop) (Dn : World → Prop) (W0 : World) (hL : ∀ p ∈ L, p.ok) (hl : L.length ≤ 7)
    (hJ : ∀ k W1, J k W1 → Bx W1 s W H sb L) (hJb : ∀ k W1 W2, J k W1 → Below W1.heap.size W1 W2 → J k W2) (h0 : J 0 W0)
    (hY : ∀ (i : Nat) (p : Stp) W1, picN W H → L[i]? = some p → J i W1 → YieldAt Fence.wide 3 Tryz.prog l #[.int .i64 ((i : Int) + 1), PsV p (wid p W H) (hig p W H)] W1 fun e W2 => ∃ b : Bool, e = .returned (.bool b) ∧ (b = true → J (i + 1) W2) ∧ (b = false → Dn W2)) :
    Calls Tryz.prog 125 #[.func (.yield l) #[] #[], .pointer (some ⟨s, 0, none⟩), .pointer (some ⟨s + 1, 0, none⟩), .pointer (some ⟨s + 2, 0, none⟩)] W0 fun e W' => (∃ v, e = .returned v) ∧ (J (if picN W H then L.length else 0) W' ∨ Dn W') := by
  obtain ⟨k0, k1, k2⟩ := (hJ 0 W0 h0).cells
  have CP := isPicture_any W H W0
  by_cases hp : picN W H
  · rw [if_pos hp]
    rw [decide_eq_true hp] at CP
    have HP : Hid (picN W H) := hp
    have HJ : Hid ((∀ k W1, J k W1 → Bx W1 s W H sb L) ∧ (∀ k W1 W2, J k W1 → Below W1.heap.size W1 W2 → J k W2) ∧ ∀ p ∈ L, p.ok) := ⟨hJ, hJb, hL⟩
    have H0 : Hid (J 0 W0) := h0
    have HY : Hid (∀ (i : Nat) (p : Stp) W1, picN W H → L[i]? = some p → J i W1 → YieldAt Fence.wide 3 Tryz.prog l #[.int .i64 ((i : Int) + 1), PsV p (wid p W H) (hig p W H)] W1 fun e W2 => ∃ b : Bool, e = .returned (.bool b) ∧ (b = true → J (i + 1) W2) ∧ (b = false → Dn W2)) := hY
    clear hJ hJb hL h0 hY hp
    go_enter Tryz.func125, Tryz.ntmps125
    go_wp2_with fail
    refine CP.mono ?_
    rintro e w1 ⟨rfl, rfl⟩
    clear CP
    go_wp2
    go_loopw [5, 6, 13] (fun _ _ v wr => ∃ i : Nat, i ≤ L.length ∧ v = .int .i64 i ∧ Hid (J i wr)) (fun _ _ v _ => L.length - (intOf v).toNat)
    case atStart => exact ⟨0, Nat.zero_le _, rfl, H0⟩
    case round =>
      clear H0 k0 k1 k2
      obtain ⟨i, hi, rfl, HJr⟩ := hrel
      obtain ⟨k0, k1, -⟩ := (HJ.out.1 _ _ HJr.out).cells
      by_cases hlt : i < L.length
      · obtain ⟨p, hpi⟩ : ∃ p, L[i]? = some p := ⟨_, List.getElem?_eq_getElem hlt⟩
        have hpo := HJ.out.2.2 p (List.mem_of_getElem? hpi)
        obtain ⟨s0, s1, s2, s3, s4, s5⟩ := (HJ.out.1 _ _ HJr.out).st.cells hpi
        have hpo2 := hpo
        obtain ⟨x, y, dx, dy⟩ := p
        go_upto_region 4 with fail
        obtain ⟨w2, hw2⟩ : ∃ w2, wr.alloc (.cells #[.int .i64 x, .int .i64 y, .int .i64 dx, .int .i64 dy, .int .i64 0, .int .i64 0] 198) = w2 := ⟨_, rfl⟩
        have HJ2 : Hid (J i w2) := HJ.out.2.1 _ _ _ HJr.out (by rw [← hw2]; exact (Below.refl _ wr).alloc (Nat.le_refl _) _)
        have six := six_new wr x y dx dy
        rw [hw2] at six ⊢
        obtain ⟨m0, m1, m2, m3, m4, m5⟩ := six
        obtain ⟨k0, k1, -⟩ := (HJ.out.1 _ _ HJ2.out).cells
        have CW := within_any ⟨x, y, dx, dy⟩ W H w2 hpo HP.out.1 HP.out.2.1 HP.out.2.2.1 HP.out.2.2.2.1
        have HYi : Hid (∀ w1, Below w2.heap.size w2 w1 → YieldAt Fence.wide 3 Tryz.prog l #[.int .i64 ((i : Int) + 1), PsV ⟨x, y, dx, dy⟩ (wid ⟨x, y, dx, dy⟩ W H) (hig ⟨x, y, dx, dy⟩ W H)] w1 fun e W2 => ∃ b : Bool, e = .returned (.bool b) ∧ (b = true → J (i + 1) W2) ∧ (b = false → Dn W2)) := fun w1 hb =>
          HY.out i _ w1 HP.out hpi (HJ.out.2.1 _ _ _ HJ2.out hb)
        clear hpi hpo hpo2 HJr hw2 s0 s1 s2 s3 s4 s5
        unfold PsV at CW HYi
        generalize wid ⟨x, y, dx, dy⟩ W H = A at *
        generalize hig ⟨x, y, dx, dy⟩ W H = B at *
        refine wp_region_yield ?_
        gi_wp2_with fail
        refine ⟨trivial, callsIn_wide.2 (CW.mono ?_)⟩
        clear CW
        rintro e w3 ⟨rfl, hb3⟩
        obtain ⟨fn, tmps, assign, body, hy, hR⟩ := HYi.out w3 hb3
        have HRd : Hid (RoundIn Fence.wide 3 Tryz.prog l fn tmps assign body w3 fun e W2 => ∃ b : Bool, e = .returned (.bool b) ∧ (b = true → J (i + 1) W2) ∧ (b = false → Dn W2)) := hR
        clear hR HYi HJ2 hb3 k0 k1 m0 m1 m2 m3 m4 m5
        gi_wp2_with fail
        refine HRd.out.mono ?_
        rintro e w4 ⟨b, rfl, hb1, hb2⟩
        clear HRd hy
        cases b with
        | false =>
          have HD : Hid (Dn w4) := hb2 rfl
          clear hb1 hb2
          gi_wp2
          go_wp2
          exact bodyPost_ret (results_none rfl _ _ _) rfl ⟨⟨_, rfl⟩, .inr HD.out⟩
        | true =>
          have HJ4 : Hid (J (i + 1) w4) := hb1 rfl
          clear hb1 hb2
          gi_wp2
          go_wp2
          go_roundw
          case rel => exact ⟨i + 1, hlt, by go_num, HJ4⟩
          case measure => simp [intOf]; omega
      · obtain rfl : i = L.length := by omega
        go_wp2
        go_end0
        exact ⟨⟨_, rfl⟩, .inl HJr.out⟩
  · rw [if_neg hp]
    rw [decide_eq_false hp] at CP
    have H0 : Hid (J 0 W0) := h0
    clear hJ hJb hL h0 hY hp
    go_enter Tryz.func125, Tryz.ntmps125
    go_wp2_with fail
    refine CP.mono ?_
    rintro e w1 ⟨rfl, rfl⟩
    go_wp2
    exact bodyPost_ret (results_none rfl _ _ _) rfl ⟨⟨_, rfl⟩, .inl H0.out⟩
end Go.Proofs.YtgffcdldljgiiaaGreat
