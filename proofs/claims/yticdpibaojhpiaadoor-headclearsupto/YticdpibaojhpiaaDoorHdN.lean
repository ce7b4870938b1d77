/- What covers nothing is read: the reference's ReadClear. -/
import Derived.Test.YticdpibaojhpiaaDoorHdL
import Derived.Test.YticdpibaojhpiaaDoorHdP
import Derived.Deep.LoopGhost
namespace Go.Proofs.YticdpibaojhpiaaDoor
open Go.RowKit
theorem isPr_46 {C D : Int} (h : isPr C D = true) (h3 : C ≠ 3) (h0 : ¬ (C = 0 ∨ C = 2)) : C = 4 ∨ C = 6 := by
  have : ∀ p ∈ prL, p.1 = 0 ∨ p.1 = 2 ∨ p.1 = 3 ∨ p.1 = 4 ∨ p.1 = 6 := by decide
  have := this _ (isPr_cases h)
  simp only at this
  omega
/-- The state of the reference's loop. -/
structure RfI (w wr : World) (W H C D : Int) (L : Bool) (l : List Int) (o : Value) (g : Option Nat) : Prop where
  q : Qh w W H C D L wr
  sl : Sl wr 3 o g (ivals l)
  gu : ∀ k, g = some k → w.heap.size < k
theorem RfI.next {w wr w7 : World} {W H C D : Int} {L : Bool} {l l' : List Int} {o v7 : Value} {g g7 : Option Nat} {z : Int} (h : RfI w wr W H C D L l o g) (hs7 : Sl w7 3 v7 g7 (ivals (l ++ [z]))) (hg7 : g7 = g ∨ ∃ k, g7 = some k ∧ wr.heap.size + 1 ≤ k)
    (hgr7 : (wr.alloc (.cells #[.int .i64 z] 3)).grownBy w7 g) (hl : l' = l ++ [z]) : RfI w w7 W H C D L l' v7 g7 := by
  have hqs := lt_of_block h.q.2
  have hba : Below w.heap.size w (wr.alloc (.cells #[.int .i64 z] 3)) := h.q.1.alloc h.q.1.size _
  refine ⟨⟨hba.grown hgr7 hba.size (fun k hk => by have := h.gu k hk; omega), ?_⟩, by rw [hl]; exact hs7, fun k hk => ?_⟩
  · exact (hgr7.block w.heap.size (by simp; omega) (fun e => by have := h.gu _ e.symm; omega)).trans ((Below.heap_alloc wr _ _ hqs).trans h.q.2)
  · rcases hg7 with e | ⟨j, e, hj⟩
    · exact h.gu k (by rw [← e, hk])
    · rw [e] at hk; cases hk; omega
set_option maxHeartbeats 6400000 in
theorem rrclear_any (W H C D : Int) (L : Bool) (t : Int) (a : Option Addr) (n cap : Nat) (b : List Int) (w : World) (hn : b.length = n) (hs : n ≤ 2000000) (hcap : n ≤ cap) (hcm : cap ≤ maxLen) (hb : Bytes b) (hr : Row w a b) :
    Calls Tryd.prog 25 #[HdV W H C D L, .int .i64 t, .slice a n cap] w fun e w' => RcPost w (rcA W H C D t b) (rcS W H C D b) (rcE W H C D t b) e w' := by
  have HB0 : Hid (Qh w W H C D L _) := Qh.box w W H C D L
  have CM := rmay_any W H C D L (w.alloc (.cells #[.int .i64 W, .int .i64 H, .int .i64 C, .int .i64 D, .bool L] 23))
  have HX : Hid (b.length = n ∧ Bytes b ∧ Row w a b) := ⟨hn, hb, hr⟩
  unfold maxLen at hcm
  by_cases hm : mayN W H C D
  · have hbd := isPr_bd hm.2.2.1
    rw [decide_eq_true hm] at CM
    by_cases h3 : C = 3
    · by_cases hal : alOk t b
      · have e1 : rcA W H C D t b = b := by unfold rcA; rw [if_pos ⟨hm, h3, hal⟩]
        have e2 : rcS W H C D b = [] := by unfold rcS; rw [if_neg (by omega)]
        have e3 : rcE W H C D t b = 0 := by unfold rcE; rw [if_pos hm, if_pos h3, if_pos hal]
        rw [e1, e2, e3]
        have h0 : ¬ n = 0 := fun e => hal.1 (List.length_eq_zero_iff.1 (by rw [hn, e]))
        have h1 : ¬ t < (n : Int) := by have := hal.2; omega
        have h2 : ((n : Int) == 0) = false := by simpa using h0
        clear e1 e2 e3 hm hal hn hb hr
        subst h3
        unfold HdV at *
        go_enter Tryd.func25, Tryd.ntmps25
        go_wp2_with fail
        refine CM.mono ?_
        clear CM
        rintro e w1 ⟨rfl, hb1⟩
        have HQ : Hid (Qh w W H 3 D L w1) := HB0.out.old hb1
        obtain ⟨c0, c1, c2, c3, c4⟩ := HQ.out.five
        clear hb1 HB0
        go_wp2
        go_loopw [9, 11, 39] (fun o _ c wr => ∃ (j : Nat) (g : Option Nat), j ≤ n ∧ c = .int .i64 j ∧ Hid (RfI w wr W H 3 D L (b.take j) o g)) (fun _ _ c _ => n - (intOf c).toNat)
        case atStart => exact ⟨0, none, Nat.zero_le _, rfl, ⟨HQ.out, Sl.nil _ _, by intro k hk; cases hk⟩⟩
        case round =>
          clear HQ c0 c1 c2 c3 c4
          obtain ⟨j, g, hj, rfl, HI⟩ := hrel
          obtain ⟨ao, co, hv, -, -, -⟩ := HI.out.sl.shape
          have hL : (b.take j).length = j := by rw [List.length_take, HX.out.1]; omega
          rw [ivals_len, hL] at hv
          have HL : Hid ((b.take j).length = j) := hL
          clear hL
          subst hv
          by_cases hlt : j < n
          · obtain ⟨bb, off, rfl, hc⟩ := (HX.out.2.2.old HI.out.q.1).atH j (by rw [HX.out.1]; exact hlt)
            have hzb := HX.out.2.1.at j
            have HU : Hid (b.take (j + 1) = b.take j ++ [b[j]?.getD 0]) := take_snoc b j (by rw [HX.out.1]; exact hlt)
            generalize b[j]?.getD 0 = z at *
            go_wp2_with (at_builtin; refine wpList_pushI rfl _ _ rfl wr z rfl (.slice ao j co) g (b.take j) rfl HI.out.sl rfl (by rw [HL.out]; omega) ?_)
            intro v7 w7 g7 hs7 hg7 hgr7
            have HF : Hid (RfI w w7 W H 3 D L (b.take (j + 1)) v7 g7) := HI.out.next hs7 hg7 hgr7 HU.out
            clear hs7 hg7 hgr7 HI
            go_wp2
            go_roundw
            case rel => exact ⟨j + 1, g7, by omega, by go_num, HF.out⟩
            case measure => simp [intOf]; omega
          · obtain rfl : j = n := by omega
            have HF : Hid (RcPost w b [] 0 (.returned (.tuple #[.slice ao j co, .slice none 0 0, .int .i64 0])) wr) := by
              have e : b.take j = b := List.take_of_length_le (by rw [HX.out.1]; exact Nat.le_refl _)
              have hs := HI.out.sl
              rw [e] at hs
              exact ⟨ao, co, none, 0, by rw [HX.out.1]; rfl, hs.irow rfl, .inl rfl, HI.out.q.1⟩
            go_wp2
            go_ret3
            exact HF.out
      · have e1 : rcA W H C D t b = [] := by unfold rcA; rw [if_neg (fun q => hal q.2.2)]
        have e2 : rcS W H C D b = [] := by unfold rcS; rw [if_neg (by omega)]
        have e3 : rcE W H C D t b = 12 := by unfold rcE; rw [if_pos hm, if_pos h3, if_neg hal]
        rw [e1, e2, e3]
        have hcs : n = 0 ∨ (¬ n = 0 ∧ t < (n : Int)) := by
          by_cases h0 : n = 0
          · exact .inl h0
          · refine .inr ⟨h0, ?_⟩
            by_cases hq : (n : Int) ≤ t
            · exact absurd ⟨fun e => h0 (by rw [← hn, e]; rfl), by rw [hn]; exact hq⟩ hal
            · omega
        clear e1 e2 e3 hm hal hn hb hr HX
        subst h3
        unfold HdV at *
        rcases hcs with rfl | ⟨h0, h1⟩
        · go_enter Tryd.func25, Tryd.ntmps25
          go_wp2_with fail
          refine CM.mono ?_
          clear CM
          rintro e w1 ⟨rfl, hb1⟩
          have HQ : Hid (Qh w W H 3 D L w1) := HB0.out.old hb1
          obtain ⟨c0, c1, c2, c3, c4⟩ := HQ.out.five
          clear hb1 HB0
          go_wp2
          go_ret3
          exact rcPost_nil HQ.out.1
        · have h2 : ((n : Int) == 0) = false := by simpa using h0
          go_enter Tryd.func25, Tryd.ntmps25
          go_wp2_with fail
          refine CM.mono ?_
          clear CM
          rintro e w1 ⟨rfl, hb1⟩
          have HQ : Hid (Qh w W H 3 D L w1) := HB0.out.old hb1
          obtain ⟨c0, c1, c2, c3, c4⟩ := HQ.out.five
          clear hb1 HB0
          go_wp2
          go_ret3
          exact rcPost_nil HQ.out.1
    · by_cases h0 : C = 0 ∨ C = 2
      · have HYN : Hid ((smOk C D b → rcA W H C D t b = [] ∧ rcS W H C D b = smL b ∧ rcE W H C D t b = 0) ∧ (¬ smOk C D b → rcA W H C D t b = [] ∧ rcS W H C D b = [] ∧ rcE W H C D t b = 12)) := by
          have e1 : rcA W H C D t b = [] := by unfold rcA; rw [if_neg (fun k => h3 k.2.1)]
          refine ⟨fun k => ⟨e1, ?_, ?_⟩, fun k => ⟨e1, ?_, ?_⟩⟩
          · unfold rcS; rw [if_pos ⟨hm, h0, k⟩]
          · unfold rcE; rw [if_pos hm, if_neg h3, if_pos h0, if_pos k]
          · unfold rcS; rw [if_neg (fun q => k q.2.2)]
          · unfold rcE; rw [if_pos hm, if_neg h3, if_pos h0, if_neg k]
        have hsp : 0 ≤ spN C ∧ spN C ≤ 4 := by
          have : ∀ c : Nat, c ≤ 6 → 0 ≤ spN (c : Int) ∧ spN (c : Int) ≤ 4 := by decide
          obtain ⟨k, rfl⟩ := Int.eq_ofNat_of_zero_le hbd.1
          exact this k (by omega)
        have HK : Hid ((smOk C D b ↔ ((n : Int) = 2 * spN C ∧ ∀ v ∈ smL b, v < 2 ^ D.toNat))) := by show _ ↔ _; unfold smOk; rw [hn]
        have HCS : Hid (∀ w1, Calls Tryd.prog 13 #[.int .i64 C] w1 fun e w' => e = .returned (.int .i64 (spN C)) ∧ w' = w1) := fun w1 => rsamples_any C w1
        have hD : 1 ≤ D ∧ D ≤ 16 := by omega
        generalize rcA W H C D t b = RA at *
        generalize rcS W H C D b = RS at *
        generalize rcE W H C D t b = RE at *
        generalize spN C = N at *
        obtain ⟨P, hP⟩ : ∃ P : Int, P = 2 ^ D.toNat := ⟨_, rfl⟩
        have HPd : Hid (P = 2 ^ D.toNat) := hP
        have hsh : wrap64 (2 ^ D.toNat) = P := by rw [hP]; exact shl_D hD
        clear hP hm hn hb hr
        unfold HdV at *
        by_cases hl : (n : Int) = 2 * N
        · obtain ⟨M, hM⟩ : ∃ M, n = 2 * M := ⟨N.toNat, by omega⟩
          subst hM
          have hN : N = (M : Int) := by omega
          subst hN
          have HM : Hid (b.length = 2 * M ∧ b.length / 2 = M) := ⟨HX.out.1, by rw [HX.out.1]; omega⟩
          have HHl : Hid (((2 * M : Nat) : Int) = 2 * (M : Int)) := hl
          have hMs : M ≤ 8 := by omega
          clear hl
          have hk4 : (C == 4) = false := by simp; omega
          have hk6 : (C == 6) = false := by simp; omega
          have hk3 : (C == 3) = false := by simpa using h3
          go_enter Tryd.func25, Tryd.ntmps25
          go_wp2_with fail
          refine CM.mono ?_
          clear CM
          rintro e w1 ⟨rfl, hb1⟩
          have HQ : Hid (Qh w W H C D L w1) := HB0.out.old hb1
          obtain ⟨c0, c1, c2, c3, c4⟩ := HQ.out.five
          clear hb1 HB0
          have CS := HCS.out w1
          go_wp2_with fail
          refine CS.mono ?_
          clear CS
          rintro e w2 ⟨rfl, rfl⟩
          go_wp2_with fail
          go_loopg [9, 12, 13] M (fun fu o i _ wr => ∃ (t : Nat) (g : Option Nat), fu + t = M ∧ i = .int .i64 ((2 * t : Nat) : Int) ∧ Hid (RfI w wr W H C D L ((smL b).take t) o g) ∧ Hid (∀ v ∈ (smL b).take t, v < 2 ^ D.toNat))
          case atStart => exact ⟨0, none, by omega, rfl, ⟨HQ.out, Sl.nil _ _, by intro k hk; cases hk⟩, (by intro v hv; simp at hv)⟩
          case round =>
            clear HQ c0 c1 c2 c3 c4
            obtain ⟨t, g, hfu, rfl, HI, HV⟩ := hrel
            obtain ⟨ao, co, hv, -, -, -⟩ := HI.out.sl.shape
            have hst : ((smL b).take t).length = t := by rw [List.length_take, smL_len, HM.out.2]; omega
            rw [ivals_len, hst] at hv
            have HLn : Hid (((smL b).take t).length = t) := hst
            clear hst
            subst hv
            obtain ⟨c0, c1, c2, c3, c4⟩ := HI.out.q.five
            by_cases hlt : t < M
            · have hbs := sm_bd HX.out.2.1 t
              obtain ⟨bb, off, rfl, -⟩ := (HX.out.2.2.old HI.out.q.1).atH (2 * t) (by rw [HX.out.1]; omega)
              have HT4 : Hid (t < b.length / 2) := by show _ < _; rw [HM.out.2]; exact hlt
              have CB : Hid (∀ cc, Calls Tryd.prog 33 #[.slice (some ⟨bb, off + 2 * t, none⟩) 2 cc] wr fun e w' => e = .returned (.int .i64 (bigN ((b.drop (2 * t)).take 2))) ∧ w' = wr) := fun cc => by
                refine rnum_any _ 2 cc ((b.drop (2 * t)).take 2) wr (by rw [List.length_take, List.length_drop, HM.out.1]; omega) (by omega) ((HX.out.2.1.drop _).take _) ?_
                rcases (HX.out.2.2.old HI.out.q.1) with e | ⟨b1, o1, e1, hc⟩
                · have := HM.out.1; rw [e] at this; simp at this; omega
                · simp only [Option.some.injEq, Addr.mk.injEq] at e1
                  obtain ⟨rfl, rfl, -⟩ := e1
                  refine .inr ⟨bb, off + 2 * t, rfl, fun i hi => ?_⟩
                  rw [List.length_take, List.length_drop] at hi
                  rw [Nat.add_assoc, hc (2 * t + i) (by omega), List.getElem?_take, if_pos (by omega), List.getElem?_drop]
              generalize hZ : bigN ((b.drop (2 * t)).take 2) = Z at *
              have HZ : Hid (bigN ((b.drop (2 * t)).take 2) = Z) := hZ
              clear hZ
              have hi1 : ((2 * t : Nat) : Int) < ((2 * M : Nat) : Int) := by omega
              have hi2 : ((2 * t : Nat) : Int) + 2 ≤ (cap : Int) := by omega
              have hi3 : ¬ cap = 2 * t := by omega
              have CB2 := CB.out (cap - 2 * t)
              go_wp2_with fail
              refine CB2.mono ?_
              clear CB CB2
              rintro e w4 ⟨rfl, rfl⟩
              have HPt : Hid (∀ k : Nat, k = t → k < M) := fun k hk => by omega
              by_cases hZP : Z < P
              · have hZQ : ¬ P ≤ Z := by omega
                go_wp2_with (at_builtin; refine wpList_pushI rfl _ _ rfl w4 Z rfl (.slice ao t co) g ((smL b).take t) rfl HI.out.sl rfl (by rw [HLn.out]; omega) ?_)
                intro v7 w7 g7 hs7 hg7 hgr7
                have HF : Hid (RfI w w7 W H C D L ((smL b).take (t + 1)) v7 g7) := HI.out.next hs7 hg7 hgr7 (by rw [smL_snoc b t HT4.out, HZ.out])
                have HV2 : Hid (∀ v ∈ (smL b).take (t + 1), v < 2 ^ D.toNat) := fun v hv => by
                  rw [smL_snoc b t HT4.out, HZ.out] at hv
                  rcases List.mem_append.1 hv with h | h
                  · exact HV.out v h
                  · simp only [List.mem_singleton] at h
                    rw [h, ← HPd.out]; exact hZP
                clear hs7 hg7 hgr7 HI HV
                go_wp2
                go_roundg (M - (t + 1))
                case rel => exact ⟨t + 1, g7, by omega, by go_num, HF.out, HV2.out⟩
                case measure => omega
              · have hZQ : P ≤ Z := by omega
                have HF : Hid (RcPost w RA RS RE (.returned (.tuple #[.slice none 0 0, .slice none 0 0, .int .i64 12])) w4) := by
                  have hk : ¬ smOk C D b := fun h => by
                    have h1 := h.2 Z (by
                      have h2 : Z ∈ (smL b).take (t + 1) := by rw [smL_snoc b t HT4.out, HZ.out]; simp
                      exact List.mem_of_mem_take h2)
                    rw [← HPd.out] at h1
                    exact hZP h1
                  obtain ⟨q1, q2, q3⟩ := HYN.out.2 hk
                  rw [q1, q2, q3]
                  exact rcPost_nil HI.out.q.1
                go_wp2
                go_ret3
                exact HF.out
            · obtain rfl : t = M := by omega
              have HF : Hid (RcPost w RA RS RE (.returned (.tuple #[.slice none 0 0, .slice ao t co, .int .i64 0])) wr) := by
                have hall : (smL b).take t = smL b := List.take_of_length_le (by rw [smL_len, HM.out.2]; exact Nat.le_refl _)
                have hk : smOk C D b := HK.out.2 ⟨HHl.out, fun v hv => HV.out v (by rw [hall]; exact hv)⟩
                obtain ⟨q1, q2, q3⟩ := HYN.out.1 hk
                rw [q1, q2, q3]
                have hs := HI.out.sl
                have hln := HLn.out
                rw [hall] at hs hln
                exact ⟨none, 0, ao, co, by rw [hln]; rfl, .inl rfl, hs.irow rfl, HI.out.q.1⟩
              go_wp2
              go_ret3
              exact HF.out
        · have HF : Hid (∀ wx, Below w.heap.size w wx → RcPost w RA RS RE (.returned (.tuple #[.slice none 0 0, .slice none 0 0, .int .i64 12])) wx) := fun wx hx => by
            have hk : ¬ smOk C D b := fun h => hl (HK.out.1 h).1
            obtain ⟨q1, q2, q3⟩ := HYN.out.2 hk
            rw [q1, q2, q3]
            exact rcPost_nil hx
          have hlb : ((n : Int) != 2 * N) = true := by simpa using hl
          have hlc : ((n : Int) == 2 * N) = false := by simpa using hl
          have hk4 : (C == 4) = false := by simp; omega
          have hk6 : (C == 6) = false := by simp; omega
          have hk3 : (C == 3) = false := by simpa using h3
          go_enter Tryd.func25, Tryd.ntmps25
          go_wp2_with fail
          refine CM.mono ?_
          clear CM
          rintro e w1 ⟨rfl, hb1⟩
          have HQ : Hid (Qh w W H C D L w1) := HB0.out.old hb1
          obtain ⟨c0, c1, c2, c3, c4⟩ := HQ.out.five
          clear hb1 HB0
          have CS := HCS.out w1
          go_wp2_with fail
          refine CS.mono ?_
          clear CS
          rintro e w2 ⟨rfl, rfl⟩
          go_wp2
          go_ret3
          exact HF.out _ HQ.out.1
      · have e1 : rcA W H C D t b = [] := by unfold rcA; rw [if_neg (fun k => h3 k.2.1)]
        have e2 : rcS W H C D b = [] := by unfold rcS; rw [if_neg (fun k => h0 k.2.1)]
        have e3 : rcE W H C D t b = 12 := by unfold rcE; rw [if_pos hm, if_neg h3, if_neg h0]
        rw [e1, e2, e3]
        have h46 := isPr_46 hm.2.2.1 h3 h0
        clear e1 e2 e3 hm h3 h0 hbd HX hn hb hr
        unfold HdV at *
        rcases h46 with rfl | rfl
        all_goals
          go_enter Tryd.func25, Tryd.ntmps25
          go_wp2_with fail
          refine CM.mono ?_
          clear CM
          rintro e w1 ⟨rfl, hb1⟩
          have HQ : Hid (Qh w W H _ D L w1) := HB0.out.old hb1
          obtain ⟨c0, c1, c2, c3, c4⟩ := HQ.out.five
          clear hb1 HB0
          go_wp2
          go_ret3
          exact rcPost_nil HQ.out.1
  · rw [decide_eq_false hm] at CM
    have e1 : rcA W H C D t b = [] := by unfold rcA; rw [if_neg (fun k => hm k.1)]
    have e2 : rcS W H C D b = [] := by unfold rcS; rw [if_neg (fun k => hm k.1)]
    have e3 : rcE W H C D t b = 11 := by unfold rcE; rw [if_neg hm]
    rw [e1, e2, e3]
    clear e1 e2 e3 hm hn hs hb hr HX
    unfold HdV at *
    go_enter Tryd.func25, Tryd.ntmps25
    go_wp2_with fail
    refine CM.mono ?_
    clear CM
    rintro e w1 ⟨rfl, hb1⟩
    have HQ : Hid (Qh w W H C D L w1) := HB0.out.old hb1
    clear hb1 HB0
    go_wp2
    go_ret3
    exact rcPost_nil HQ.out.1
end Go.Proofs.YticdpibaojhpiaaDoor
