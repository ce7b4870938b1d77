/- The parts of blocks: the walk of the function that tells them. -/
import Derived.Test.YtgffcdldljgiiaaGreatBk2
namespace Go.Proofs.YtgffcdldljgiiaaGreat
open Go.RowKit
attribute [local go_sem] Oper.semAt_some
set_option maxHeartbeats 4000000 in
set_option maxRecDepth 100000 in
theorem parts1_any (w : World) (p : Nat) (g : Option Nat) (s : Bs) (bs : List Int) (av : Option Addr) (m c bb br l : Nat) (W0 : World) (J : List Int → World → Prop)
    (hJ : ∀ T W W', J T W → W.heap.size ≤ W'.heap.size → (∀ k, w.heap.size ≤ k → k < W.heap.size → W'.heap[k]? = W.heap[k]?) → J T W')
    (hY : ∀ T W a' n c' part, J T W → part.length = n → (a' = none → c' = 0) → Row W a' part → T.length + n ≤ bs.length → YieldAt Fence.wide 3 Tryz.prog l #[.slice a' n c'] W fun e W' => e = .returned (.bool true) ∧ J (T ++ part) W' ∧ Below w.heap.size W W' ∧ W'.heap[bb]? = W.heap[bb]? ∧ W'.heap[br]? = W.heap[br]?)
    (hbb : W0.heap[bb]? = some (.cells #[.slice av m c] 22 (0, 0))) (hbr : W0.heap[br]? = some (.cells #[.pointer (some ⟨p, 0, none⟩)] 93 (0, 0)))
    (hbbn : w.heap.size ≤ bb) (hbrn : w.heap.size ≤ br) (h : BR w p s g) (hb0 : Below w.heap.size w W0) (hm : bs.length = m) (hmc : m ≤ c) (hcm : c ≤ 9223372036854775807) (hc0 : av = none → c = 0) (hrow : Row w av bs) (hby : Bytes bs) (hleft : s.left ≤ 255) (hseen : s.seen + bs.length ≤ 4611686018427387904) (hrl : s.rest.length + bs.length ≤ 140737488351232) (h0 : J [] W0) :
    Calls Tryz.prog 234 #[.func (.yield l) #[] #[], .pointer (some ⟨bb, 0, none⟩), .pointer (some ⟨br, 0, none⟩)] W0 fun e W' => PsDone w p g s bs J e W' := by
  have HS : Hid (PsRel w p g s bs (.slice av m c) bb br J 0 [] s W0) :=
    ⟨Nat.zero_le _, h.old hb0, rfl, hleft, Nat.le_refl _, Nat.le_refl _, h0, by simp, Fr.of_heap hb0, hbb, hbr⟩
  have HJ : Hid (∀ T W W', J T W → W.heap.size ≤ W'.heap.size → (∀ k, w.heap.size ≤ k → k < W.heap.size → W'.heap[k]? = W.heap[k]?) → J T W') := hJ
  have HY : Hid (∀ T W a' n c' part, J T W → part.length = n → (a' = none → c' = 0) → Row W a' part → T.length + n ≤ bs.length → YieldAt Fence.wide 3 Tryz.prog l #[.slice a' n c'] W fun e W' => e = .returned (.bool true) ∧ J (T ++ part) W' ∧ Below w.heap.size W W' ∧ W'.heap[bb]? = W.heap[bb]? ∧ W'.heap[br]? = W.heap[br]?) := hY
  have HW : Hid (BR w p s g ∧ p < w.heap.size ∧ (∀ k, g = some k → k < w.heap.size) ∧ Bytes bs ∧ Row w av bs ∧ w.heap.size ≤ bb ∧ w.heap.size ≤ br) := ⟨h, h.lt, fun k hk => h.glt hk, hby, hrow, hbbn, hbrn⟩
  have HL : Hid (s.rest.length + bs.length ≤ 140737488351232 ∧ s.seen + bs.length ≤ 4611686018427387904) := ⟨hrl, hseen⟩
  have HS4 : Hid (∃ a' c', Value.slice av m c = .slice a' (bs.length - 0) c' ∧ bs.length - 0 ≤ c' ∧ c' ≤ 9223372036854775807 ∧ (a' = none → c' = 0) ∧ Row w a' (bs.drop 0)) := ⟨av, c, by rw [← hm]; rfl, by omega, hcm, hc0, by simpa using hrow⟩
  obtain ⟨k1, f1⟩ := one_cell hbb
  clear hJ hY hbb hbr h hb0 hrow hby h0 hbbn hbrn hrl hseen hleft hc0 hcm hmc
  go_enter Tryz.func234, Tryz.ntmps234
  go_wp2
  go_loopg [4, 5, 6] bs.length (fun fu v4 _ _ wr => ∃ (t : Nat) (T : List Int) (s1 : Bs), fu + t = bs.length ∧ Hid (∃ a' c', v4 = .slice a' (bs.length - t) c' ∧ bs.length - t ≤ c' ∧ c' ≤ 9223372036854775807 ∧ (a' = none → c' = 0) ∧ Row w a' (bs.drop t)) ∧ Hid (PsRel w p g s bs (.slice av m c) bb br J t T s1 wr))
  case atStart => exact ⟨0, [], s, by omega, HS4.out, HS.out⟩
  case round =>
    clear HS HS4 k1 f1
    obtain ⟨t, T, s1, hfu, H4, HR⟩ := hrel
    obtain ⟨a', c', rfl, hMc, hc2, ha0, hrw⟩ := H4.out
    obtain ⟨M, hM⟩ : ∃ M, bs.length - t = M := ⟨_, rfl⟩
    rw [hM] at hMc ⊢
    have HM : Hid (bs.length - t = M ∧ gk + t = bs.length ∧ t ≤ bs.length) := ⟨hM, hfu, HR.out.tle⟩
    have HA : Hid ((a' = none → c' = 0) ∧ Row w a' (bs.drop t) ∧ M ≤ c' ∧ c' ≤ 9223372036854775807) := ⟨ha0, hrw, hMc, hc2⟩
    obtain ⟨v, hc, hsl⟩ := HR.out.rd
    obtain ⟨ar, cr, hv, hl1, hl2, hl3⟩ := hsl.shape
    rw [vals_len] at hv hl1
    subst hv
    have HC : Hid (BC wr p s1.left s1.done s1.seen (.slice ar s1.rest.length cr) ∧ Sl wr 5 (.slice ar s1.rest.length cr) g (vals s1.rest) ∧ BR wr p s1 g) := ⟨hc, hsl, HR.out.rd⟩
    obtain ⟨q0, q1, q2, q3, qf⟩ := hc.cells
    obtain ⟨kr, fr⟩ := one_cell HR.out.br
    have HRW : Hid (Row wr a' (bs.drop t)) := hrw.frame HR.out.fr (HW.out.1.row hrw)
    have HRL : Hid (s1.rest.length + M ≤ 140737488351232 ∧ s1.left ≤ 255 ∧ s1.seen + M ≤ 4611686018427387904) := ⟨by rw [HR.out.rest]; have := HL.out; omega, HR.out.left, by have := HR.out.seen; have := HL.out; have := HR.out.tle; omega⟩
    clear hc hsl hM hfu ha0 hrw H4 hl2 hl3
    have HFin : Hid ((s1.done = true ∨ bs.drop t = []) → ∀ v7 w7 g7, Sl w7 5 v7 g7 (vals (s1.rest ++ bs.drop t)) → (g7 = g ∨ ∃ k, g7 = some k ∧ wr.heap.size ≤ k) → wr.grownBy w7 g → PsDone w p g s bs J (.returned (.tuple #[])) (w7.setCell ⟨p, 3, none⟩ v7) ∧ BC w7 p s1.left s1.done s1.seen (.slice ar s1.rest.length cr) ∧ w7.cell? ⟨br, 0, none⟩ = some (.pointer (some ⟨p, 0, none⟩))) := by
      intro hend v7 w7 g7 h1 h2 h3
      exact ⟨HR.out.fin HJ.out HW.out.2.1 HW.out.2.2.1 hend HC.out.1 h1 h2 h3 _ ⟨_, rfl⟩, HC.out.1.same (h3.block p HC.out.1.lt (fun e => HC.out.2.2.sep e.symm)), (World.cell?_of_block (a := ⟨br, 0, none⟩) (h3.block br (lt_of_block HR.out.br) (fun e => by have := HW.out.2.2.1 br e.symm; have := HW.out; omega))).trans kr⟩
    by_cases hM0 : M = 0
    · have hend : bs.drop t = [] := by rw [List.drop_eq_nil_iff]; have := HM.out; omega
      have HF2 := HFin.out (.inr hend)
      have HFin2 : Hid (∀ v7 w7 g7, Sl w7 5 v7 g7 (vals (s1.rest ++ bs.drop t)) → (g7 = g ∨ ∃ k, g7 = some k ∧ wr.heap.size ≤ k) → wr.grownBy w7 g → PsDone w p g s bs J (.returned (.tuple #[])) (w7.setCell ⟨p, 3, none⟩ v7) ∧ BC w7 p s1.left s1.done s1.seen (.slice ar s1.rest.length cr) ∧ w7.cell? ⟨br, 0, none⟩ = some (.pointer (some ⟨p, 0, none⟩))) := HF2
      clear hend HF2 HFin
      subst hM0
      obtain ⟨RL, hRL⟩ : ∃ RL, s1.rest.length = RL := ⟨_, rfl⟩
      have HRE : Hid (s1.rest.length = RL) := hRL
      rw [hRL] at q3 hl1
      clear hRL
      go_wp2
      go_region_law (first
        | (refine step_more rfl _ _ rfl (.slice ar RL cr) g s1.rest rfl (by have := HC.out.2.1; rw [HRE.out] at this; exact this.same fun _ _ => rfl) a' 0 c' (bs.drop t) rfl HA.out.1 (by rw [List.length_drop]; exact HM.out.1) (HRW.out.same fun _ _ _ => rfl) (by have := HRL.out; omega) ?_; intro v7 w7 g7 hs7 hg7 hgr7; obtain ⟨a7, c7, hv7, -⟩ := hs7.shape; generalize (vals (s1.rest ++ bs.drop t)).length = z7 at hv7; subst hv7; obtain ⟨HP7, hz7, ybr⟩ := HFin2.out _ w7 g7 hs7 hg7 ⟨hgr7.os, hgr7.tape, hgr7.output, hgr7.size, hgr7.block⟩; have y3 := hz7.cells.2.2.2.1; have yf := hz7.cells.2.2.2.2)
        | fail)
      all_goals
        have HPF : Hid (PsDone w p g s bs J (.returned (.tuple #[])) (w7.setCell ⟨p, 3, none⟩ (.slice a7 z7 c7))) := HP7
        clear hs7 hg7 hgr7 HP7 hz7 HFin2
        go_wp2
        go_end0
        exact HPF.out
    · by_cases hdn : s1.done = true
      · have HF2 := HFin.out (.inl hdn)
        have HFin2 : Hid (∀ v7 w7 g7, Sl w7 5 v7 g7 (vals (s1.rest ++ bs.drop t)) → (g7 = g ∨ ∃ k, g7 = some k ∧ wr.heap.size ≤ k) → wr.grownBy w7 g → PsDone w p g s bs J (.returned (.tuple #[])) (w7.setCell ⟨p, 3, none⟩ v7) ∧ BC w7 p s1.left s1.done s1.seen (.slice ar s1.rest.length cr) ∧ w7.cell? ⟨br, 0, none⟩ = some (.pointer (some ⟨p, 0, none⟩))) := HF2
        clear HF2 HFin
        rw [hdn] at q1
        obtain ⟨RL, hRL⟩ : ∃ RL, s1.rest.length = RL := ⟨_, rfl⟩
        have HRE : Hid (s1.rest.length = RL) := hRL
        rw [hRL] at q3 hl1
        clear hRL hdn
        have hM1 : 0 < M := by omega
        clear hM0
        go_wp2
        go_region_law (first
          | (refine step_more rfl _ _ rfl (.slice ar RL cr) g s1.rest rfl (by have := HC.out.2.1; rw [HRE.out] at this; exact this.same fun _ _ => rfl) a' M c' (bs.drop t) rfl HA.out.1 (by rw [List.length_drop]; exact HM.out.1) (HRW.out.same fun _ _ _ => rfl) (by have := HRL.out; omega) ?_; intro v7 w7 g7 hs7 hg7 hgr7; obtain ⟨a7, c7, hv7, -⟩ := hs7.shape; generalize (vals (s1.rest ++ bs.drop t)).length = z7 at hv7; subst hv7; obtain ⟨HP7, hz7, ybr⟩ := HFin2.out _ w7 g7 hs7 hg7 ⟨hgr7.os, hgr7.tape, hgr7.output, hgr7.size, hgr7.block⟩; have y3 := hz7.cells.2.2.2.1; have yf := hz7.cells.2.2.2.2)
          | fail)
        all_goals
          have HPF : Hid (PsDone w p g s bs J (.returned (.tuple #[])) (w7.setCell ⟨p, 3, none⟩ (.slice a7 z7 c7))) := HP7
          clear hs7 hg7 hgr7 HP7 hz7 HFin2
          go_wp2
          go_end0
          exact HPF.out
      · have hdn' : s1.done = false := by simpa using hdn
        rw [hdn'] at q1
        have HD : Hid (s1.done = false) := hdn'
        have hne : bs.drop t ≠ [] := by intro e; rw [List.drop_eq_nil_iff] at e; have := HM.out; omega
        obtain ⟨b, off, rfl⟩ : ∃ b off, a' = some ⟨b, off, none⟩ := by
          rcases HRW.out with h | ⟨b, off, h, _⟩
          · exact absurd h hne
          · exact ⟨b, off, h⟩
        have hck : wr.cell? ⟨b, off, none⟩ = some (.int .u8 ((bs.drop t)[0]?.getD 0)) := by
          rcases HRW.out with h | ⟨b', off', h, hcc⟩
          · exact absurd h hne
          · simp at h
            obtain ⟨rfl, rfl⟩ := h
            have := hcc 0 (List.length_pos_iff.2 hne)
            simpa using this
        have hbp : b ≠ p := HC.out.2.2.row HRW.out ⟨b, off, none⟩ rfl hne
        have hbrp : br ≠ p := by have := HW.out; omega
        have hM1 : 0 < M := by omega
        clear HFin hdn hdn' hM0 hne
        obtain ⟨x, hx⟩ : ∃ x, (bs.drop t)[0]?.getD 0 = x := ⟨_, rfl⟩
        have hxb : 0 ≤ x ∧ x ≤ 255 := by rw [← hx]; have := (HW.out.2.2.2.1.drop t).at 0; omega
        have HX : Hid ((bs.drop t)[0]?.getD 0 = x) := hx
        rw [hx] at hck
        clear hx
        by_cases h0 : s1.left = 0
        · have HB : Hid (∀ n, Calls Tryz.prog 235 #[.pointer (some ⟨p, 0, none⟩), .int .u8 x] (wr.drewN n) fun e w' => e = .returned (.tuple #[]) ∧ BR w' p { s1 with left := x.toNat, done := decide (x = 0), seen := s1.seen + 1 } g ∧ Fr (wr.drewN n) w' p none) := fun n => bbegin_any x hxb (by have := HRL.out; omega) (HC.out.2.2.same rfl fun _ _ => rfl)
          have HN : Hid (∀ w7, BR w7 p { s1 with left := x.toNat, done := decide (x = 0), seen := s1.seen + 1 } g → Fr wr w7 p none → PsRel w p g s bs (.slice av m c) bb br J (t + 1) T { s1 with left := x.toNat, done := decide (x = 0), seen := s1.seen + 1 } w7) := by
            intro w7 h1 h2
            have := HR.out.head HJ.out HW.out.2.1 HW.out.2.2.2.1 HW.out.2.2.2.2.2.1 HW.out.2.2.2.2.2.2 (by have := HM.out; omega) HD.out h0 (w7 := w7)
            rw [HX.out] at this
            exact this h1 h2
          rw [h0] at q0
          have hbrl : br < wr.heap.size := lt_of_block HR.out.br
          have hbl : b < wr.heap.size := cell_lt hck
          clear h0
          go_wp2
          go_region_held3 (fun u => u.cell? ⟨br, 0, none⟩ = some (.pointer (some ⟨p, 0, none⟩)) ∧ u.cell? ⟨b, off, none⟩ = some (.int .u8 x)) (go_keep) (first
            | (go_at_call 235; refine Calls.mono (HB.out 1) ?_; rintro e w7 ⟨rfl, hr7, hf7⟩; have y1 : w7.cell? ⟨br, 0, none⟩ = some (.pointer (some ⟨p, 0, none⟩)) := (World.cell?_of_block (a := ⟨br, 0, none⟩) (hf7.block br hbrl hbrp (by simp))).trans kr; have y2 : w7.cell? ⟨b, off, none⟩ = some (.int .u8 x) := (World.cell?_of_block (a := ⟨b, off, none⟩) (hf7.block b hbl hbp (by simp))).trans hck)
            | fail)
          have HN2 : Hid (PsRel w p g s bs (.slice av m c) bb br J (t + 1) T { s1 with left := x.toNat, done := decide (x = 0), seen := s1.seen + 1 } w7) := HN.out w7 hr7 ⟨hf7.os, hf7.tape, hf7.output, hf7.size, hf7.block⟩
          clear HB HN hr7 hf7 y1 y2
          have hMi : (1 : Int) ≤ (M : Int) := by omega
          have hci : (1 : Int) ≤ (c' : Int) := by have := HA.out; omega
          have hcut := HA.out.2.1.cut 1 c' (by rw [List.length_drop]; have := HM.out; omega) (by rw [List.length_drop]; have := HM.out; have := HA.out; omega)
          rw [List.drop_drop] at hcut
          by_cases hc1 : c' = 1
          · rw [if_pos hc1] at hcut
            subst hc1
            obtain rfl : M = 1 := by have := HA.out; omega
            have HV : Hid (∃ a' c', Value.slice (some ⟨b, off, none⟩) 0 0 = .slice a' (bs.length - (t + 1)) c' ∧ bs.length - (t + 1) ≤ c' ∧ c' ≤ 9223372036854775807 ∧ (a' = none → c' = 0) ∧ Row w a' (bs.drop (t + 1))) :=
              ⟨some ⟨b, off, none⟩, 0, by rw [show bs.length - (t + 1) = 0 by have := HM.out; omega], by have := HM.out; omega, by omega, (by intro h; cases h), hcut⟩
            clear hcut
            go_wp2
            go_roundg (bs.length - (t + 1))
            case rel => exact ⟨t + 1, T, _, by have := HM.out; omega, HV.out, HN2.out⟩
            case measure => have := HM.out; omega
          · rw [if_neg hc1] at hcut
            have hc1i : ¬ (c' : Int) = 1 := by omega
            have HV : Hid (∃ a' c'', Value.slice (some ⟨b, off + 1, none⟩) (M - 1) (c' - 1) = .slice a' (bs.length - (t + 1)) c'' ∧ bs.length - (t + 1) ≤ c'' ∧ c'' ≤ 9223372036854775807 ∧ (a' = none → c'' = 0) ∧ Row w a' (bs.drop (t + 1))) :=
              ⟨some ⟨b, off + 1, none⟩, c' - 1, by rw [show bs.length - (t + 1) = M - 1 by have := HM.out; omega], by have := HM.out; have := HA.out; omega, by have := HA.out; omega, (by intro h; cases h), hcut⟩
            clear hcut
            go_wp2
            go_roundg (bs.length - (t + 1))
            case rel => exact ⟨t + 1, T, _, by have := HM.out; omega, HV.out, HN2.out⟩
            case measure => have := HM.out; omega
        · obtain ⟨LF, hLF⟩ : ∃ LF, s1.left = LF := ⟨_, rfl⟩
          obtain ⟨SE, hSE⟩ : ∃ SE, s1.seen = SE := ⟨_, rfl⟩
          have HLS : Hid (s1.left = LF ∧ s1.seen = SE) := ⟨hLF, hSE⟩
          rw [hLF] at q0 h0
          rw [hSE] at q2
          have hLF2 : LF ≤ 255 := by have := HRL.out; omega
          have hSE2 : SE + M ≤ 4611686018427387904 := by have := HRL.out; omega
          clear hLF hSE
          have h0i : ¬ (LF : Int) = 0 := by omega
          go_upto_region 5 with fail
          go_cut [5] (fun v wx => wx = wr ∧ ∃ N : Nat, v = .int .i64 N ∧ 0 < N ∧ N ≤ LF ∧ N ≤ M)
          case first =>
            rcases (show (LF : Int) < (M : Int) ∨ M < LF ∨ LF = M by omega) with hlt | hlt | hlt
            · go_wp2
              go_meet
              exact ⟨rfl, LF, rfl, by omega, by omega, by omega⟩
            · have hlt2 : (M : Int) < (LF : Int) := by omega
              go_wp2
              go_meet
              exact ⟨rfl, M, rfl, by omega, by omega, by omega⟩
            · subst hlt
              go_wp2
              go_meet
              exact ⟨rfl, LF, rfl, by omega, by omega, by omega⟩
          case rest =>
            obtain ⟨rfl, N, rfl, hN0, hNl, hNM⟩ := hcut
            obtain ⟨W2, hW2⟩ : ∃ W2, (wc.setCell ⟨p, 0, none⟩ (.int .i64 ((LF : Int) - N))).setCell ⟨p, 2, none⟩ (.int .i64 ((SE : Int) + N)) = W2 := ⟨_, rfl⟩
            have hf2 : Fr wc W2 p none := by rw [← hW2]; exact (Fr.set p 0 _ none).trans (Fr.set p 2 _ none) (.inl rfl)
            have hbr2 : BR W2 p { s1 with left := s1.left - N, seen := s1.seen + N } g := by
              refine ⟨.slice ar s1.rest.length cr, ?_, HC.out.2.1.same fun k hk => hf2.block k (HC.out.2.1.lt hk) (fun e => HC.out.2.2.sep (by rw [hk, e])) (by simp)⟩
              have e := (HC.out.1.set0 ((LF : Int) - N)).set2 ((SE : Int) + N)
              rw [hW2] at e
              have e1 : (((s1.left - N : Nat)) : Int) = (LF : Int) - N := by have := HLS.out; omega
              have e2 : (((s1.seen + N : Nat)) : Int) = (SE : Int) + N := by have := HLS.out; omega
              show BC W2 p ((s1.left - N : Nat) : Int) s1.done ((s1.seen + N : Nat) : Int) _
              rw [e1, e2]; exact e
            have hj2 : J T W2 := HJ.out T wc W2 HR.out.j hf2.size fun k hk hkr => hf2.block k hkr (by have := HW.out; omega) (by simp)
            have hrow2 : Row W2 (some ⟨b, off, none⟩) ((bs.drop t).take N) := (HRW.out.take N).frame hf2 fun x hx hl => by simp at hx; subst hx; exact hbp
            have hy0 := HY.out T W2 (some ⟨b, off, none⟩) N c' ((bs.drop t).take N) hj2 (by rw [List.length_take, List.length_drop]; have := HM.out; omega) (by intro h; cases h) hrow2 (by have := HR.out.told; have := HM.out; omega)
            have HN : Hid (∀ w7, J (T ++ (bs.drop t).take N) w7 → Below w.heap.size W2 w7 → w7.heap[bb]? = W2.heap[bb]? → w7.heap[br]? = W2.heap[br]? → PsRel w p g s bs (.slice av m c) bb br J (t + N) (T ++ (bs.drop t).take N) { s1 with left := s1.left - N, seen := s1.seen + N } w7) := by
              intro w7 h1 h2 h3 h4
              have hbbp : bb ≠ p := by have := HW.out; omega
              have f7 : Fr w w7 p none := by
                have f := HR.out.fr.trans hf2 (.inl rfl)
                exact ⟨h2.os.trans f.os, h2.tape.trans f.tape, h2.output.trans f.output, Nat.le_trans f.size h2.size, fun k hk h1 h3 => (h2.block k hk).trans (f.block k hk h1 h3)⟩
              exact HR.out.part N (by have := HLS.out; omega) (by have := HM.out; omega) HD.out (hbr2.same (h2.block p HW.out.2.1) fun k hk => h2.block k (HW.out.2.2.1 k hk)) h1 f7 (h3.trans (hf2.block bb (lt_of_block HR.out.bb) hbbp (by simp))) (h4.trans (hf2.block br (lt_of_block HR.out.br) hbrp (by simp)))
            obtain ⟨fn, tmps, assign, body, hy, hR⟩ := hy0
            have HRd : Hid (RoundIn Fence.wide 3 Tryz.prog l fn tmps assign body W2 fun e W' => e = .returned (.bool true) ∧ J (T ++ (bs.drop t).take N) W' ∧ Below w.heap.size W2 W' ∧ W'.heap[bb]? = W2.heap[bb]? ∧ W'.heap[br]? = W2.heap[br]?) := hR
            clear hf2 hbr2 hj2 hrow2 hR
            have hNMi : (N : Int) ≤ (M : Int) := by omega
            have hNci : (N : Int) ≤ (c' : Int) := by have := HA.out; omega
            have hNc : N ≤ c' := by have := HA.out; omega
            have hcut := HA.out.2.1.cut N c' (by rw [List.length_drop]; have := HM.out; omega) (by rw [List.length_drop]; have := HM.out; have := HA.out; omega)
            rw [List.drop_drop] at hcut
            by_cases hcN : c' = N
            · rw [if_pos hcN] at hcut
              obtain rfl : M = c' := by have := HA.out; omega
              subst hcN
              have HV : Hid (∃ a' c', Value.slice (some ⟨b, off, none⟩) 0 0 = .slice a' (bs.length - (t + M)) c' ∧ bs.length - (t + M) ≤ c' ∧ c' ≤ 9223372036854775807 ∧ (a' = none → c' = 0) ∧ Row w a' (bs.drop (t + M))) :=
                ⟨some ⟨b, off, none⟩, 0, by rw [show bs.length - (t + M) = 0 by have := HM.out; omega], by have := HM.out; omega, by omega, (by intro h; cases h), hcut⟩
              clear hcut
              go_upto_region 10 with fail

              refine wp_region_yield ?_
              gi_wp2
              refine HRd.out.mono ?_
              rintro e w7 ⟨rfl, h1, h2, h3, h4⟩
              have HN2 : Hid (_) := HN.out w7 h1 h2 h3 h4
              clear h1 h2 h3 h4 HN HRd hy
              gi_wp2
              go_wp2
              go_roundg (bs.length - (t + M))
              case rel => exact ⟨t + M, _, _, by have := HM.out; omega, HV.out, HN2.out⟩
              case measure => have := HM.out; omega
            · rw [if_neg hcN] at hcut
              have hcNi : ¬ (c' : Int) = N := by omega
              have HV : Hid (∃ a' c'', Value.slice (some ⟨b, off + N, none⟩) (M - N) (c' - N) = .slice a' (bs.length - (t + N)) c'' ∧ bs.length - (t + N) ≤ c'' ∧ c'' ≤ 9223372036854775807 ∧ (a' = none → c'' = 0) ∧ Row w a' (bs.drop (t + N))) :=
                ⟨some ⟨b, off + N, none⟩, c' - N, by rw [show bs.length - (t + N) = M - N by have := HM.out; omega], by have := HM.out; have := HA.out; omega, by have := HA.out; omega, (by intro h; cases h), by rw [Option.map_some, Addr.add_lit] at hcut; exact hcut⟩
              clear hcut
              go_upto_region 10 with fail

              refine wp_region_yield ?_
              gi_wp2
              refine HRd.out.mono ?_
              rintro e w7 ⟨rfl, h1, h2, h3, h4⟩
              have HN2 : Hid (_) := HN.out w7 h1 h2 h3 h4
              clear h1 h2 h3 h4 HN HRd hy
              gi_wp2
              go_wp2
              go_roundg (bs.length - (t + N))
              case rel => exact ⟨t + N, _, _, by have := HM.out; omega, HV.out, HN2.out⟩
              case measure => have := HM.out; omega
end Go.Proofs.YtgffcdldljgiiaaGreat
