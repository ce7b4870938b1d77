/- The receiver: a text that is cut into items, which come again and again, is told whole. -/
import Derived.Test.YtmfciheenemapaaRqP
import Derived.Deep.LoopGhost
import Derived.Deep.DeepCutAuto
namespace Go.Proofs.Ytmfciheenemapaa
open Go.RowKit
structure ItL (w : World) (tb off cap : Nat) (Tx : List Int) (K j p : Nat) (v : Value) (g : Option Nat) (wr : World) : Prop where
  pj : p = j * K
  sl : Sl wr 32 v g (pvl (itQ tb off cap Tx K j))
  fr : ∀ k, g = some k → w.heap.size ≤ k
  be : Below w.heap.size w wr
  lo : j = 0 ∨ (j - 1) * K < Tx.length
theorem itQ_succ (tb off cap : Nat) (Tx : List Int) (K j : Nat) : pvl (itQ tb off cap Tx K (j + 1)) = pvl (itQ tb off cap Tx K j) ++ [.slice (some ⟨tb, off + j * K, none⟩) (zAt Tx K j).length (cap - j * K)] := by
  unfold itQ pvl
  rw [List.range_succ, List.map_append, List.map_append]
  rfl
theorem itQ_len (tb off cap : Nat) (Tx : List Int) (K j : Nat) : (pvl (itQ tb off cap Tx K j)).length = j := by simp [itQ, pvl]
theorem ItL.few {w wr : World} {tb off cap K j p : Nat} {Tx : List Int} {v : Value} {g : Option Nat} (h : ItL w tb off cap Tx K j p v g wr) (hK : 1 ≤ K) : j ≤ Tx.length := by
  rcases h.lo with e | e
  · omega
  · have : j - 1 ≤ (j - 1) * K := Nat.le_mul_of_pos_right _ hK
    omega
theorem ItL.push {w wr w' : World} {tb off cap K j p : Nat} {Tx : List Int} {v v' : Value} {g g' : Option Nat} (h : ItL w tb off cap Tx K j p v g wr) (hp : p < Tx.length)
    (hs : Sl w' 32 v' g' (pvl (itQ tb off cap Tx K j) ++ [.slice (some ⟨tb, off + p, none⟩) (zAt Tx K j).length (cap - p)])) (hg : g' = g ∨ ∃ k, g' = some k ∧ wr.heap.size ≤ k) (hgr : wr.grownBy w' g) : ItL w tb off cap Tx K (j + 1) (p + K) v' g' w' := by
  have e := h.pj
  refine ⟨by rw [e, Nat.add_mul, Nat.one_mul], by rw [itQ_succ, ← e]; exact hs, fun k hk => ?_, h.be.grown hgr h.be.size h.fr, .inr (by rw [Nat.add_sub_cancel, ← e]; exact hp)⟩
  rcases hg with e2 | ⟨k', e2, hk'⟩
  · rw [e2] at hk; exact h.fr k hk
  · rw [e2] at hk; cases hk; exact Nat.le_trans h.be.size hk'
set_option maxRecDepth 100000 in
set_option maxHeartbeats 64000000 in
theorem whole_walk (ta : Option Addr) (L cap : Nat) (size win : Int) (oa : Option Addr) (ol ocap : Nat) (w : World) (hT : BArg w ta L cap) (hs : (Lit.int .u8 size).wf = true) (hw : (Lit.int .u8 win).wf = true) (hO : BArg w oa ol ocap) : Calls Try.prog 5 #[.slice ta L cap, .int .u8 size, .int .u8 win, .slice oa ol ocap] w fun e w' => e = .returned (.bool true) ∧ Below w.heap.size w w' := by
  have hs2 : 0 ≤ size ∧ size ≤ 255 := by simpa [Lit.wf, IntKind.min, IntKind.max, IntKind.bits, IntKind.signed] using hs
  have hw2 : 0 ≤ win ∧ win ≤ 255 := by simpa [Lit.wf, IntKind.min, IntKind.max, IntKind.bits, IntKind.signed] using hw
  clear hs hw
  obtain ⟨i0, hi, hz0, hz1, hz2⟩ := info_parts Try.infoBs
  have ht : win.tmod 64 = win % 64 := Int.tmod_eq_emod_of_nonneg hw2.1
  have ht9 : size.tmod 9 = size % 9 := Int.tmod_eq_emod_of_nonneg hs2.1
  obtain ⟨W, hW⟩ : ∃ W, 1 + win % 64 = W := ⟨_, rfl⟩
  have hWb : 1 ≤ W ∧ W ≤ 64 := by omega
  obtain ⟨K, hK⟩ : ∃ K : Nat, 1 + size % 9 = (K : Int) := ⟨(1 + size % 9).toNat, by omega⟩
  have hKb : 1 ≤ K ∧ K ≤ 9 := by omega
  obtain ⟨Tx, hT1⟩ := hT
  obtain ⟨Ox, hO1⟩ := hO
  have HT : Hid _ := hT1
  have HOx : Hid _ := hO1
  have C0 : Hid _ := rfixed_any w
  clear hT1 hO1
  go_enter Try.func5, Try.ntmps5
  go_upto_region 3 with (go_at_call 7; refine Calls.mono C0.out ?_; rintro e w1 ⟨rfl, b1⟩)
  have HB1 : Hid (Below w.heap.size w w1) := b1
  clear b1 C0
  by_cases hL : 300 < L
  · have hL' : (300 : Int) < (L : Int) := by omega
    go_wp2
    go_ret
    exact ⟨rfl, HB1.out⟩
  have hL' : ¬ (300 : Int) < (L : Int) := by omega
  obtain ⟨tb, off, htb⟩ : ∃ tb off, Tx ≠ [] → ta = some ⟨tb, off, none⟩ := by
    rcases HT.out.2.2.2.2.2 with e | ⟨tb, off, e, _⟩
    · exact ⟨0, 0, fun h => absurd e h⟩
    · exact ⟨tb, off, fun _ => e⟩
  have HTb : Hid (Tx ≠ [] → ta = some ⟨tb, off, none⟩) := htb
  clear htb
  have hcp : L ≤ cap := HT.out.2.2.1
  have hcp2 : cap ≤ 140737488351232 := HT.out.2.2.2.1
  have HI : Hid (ItL w tb off cap Tx K 0 0 (.slice none 0 0) none w1) := ⟨by simp, Sl.nil _ _, (fun k hk => by cases hk), HB1.out, .inl rfl⟩
  go_upto_region 8 with fail
  go_loopw [10, 11] (fun vv pv wr => ∃ (j p : Nat) (g : Option Nat) (v' : Value), pv = .int .i64 (p : Int) ∧ v' = vv ∧ p ≤ 310 ∧ Hid (ItL w tb off cap Tx K j p v' g wr)) (fun _ pv _ => L + 10 - (intOf pv).toNat)
  case atStart => exact ⟨0, 0, none, _, rfl, rfl, by omega, HI.out⟩
  case round =>
    clear HI
    obtain ⟨j, p, g, v, rfl, rfl, hp3, HI⟩ := hrel
    by_cases hlt : p < L
    · have hta : ta = some ⟨tb, off, none⟩ := HTb.out (by intro e; have := HT.out.2.1; rw [e] at this; simp at this; omega)
      have hlt' : (p : Int) < (L : Int) := by omega
      have hj := HI.out.few hKb.1
      have hjl : j ≤ 300 := by have := HT.out.2.1; omega
      have hql := itQ_len tb off cap Tx K j
      have hzl : (zAt Tx K j).length = min K (L - p) := by rw [zAt_len, ← HI.out.pj, HT.out.2.1]
      subst hta
      by_cases hE : p + K ≤ L
      · have e1 : min (L : Int) ((p : Int) + (K : Int)) = (p : Int) + (K : Int) := by omega
        have hE' : (p : Int) + (K : Int) ≤ (L : Int) := by omega
        have hE2 : (p : Int) + (K : Int) ≤ (cap : Int) := by omega
        have hsl : ∀ o : Obj, Sl (wr.alloc o) 32 v g (pvl (itQ tb off cap Tx K j)) := fun o => HI.out.sl.same fun k hk => (below_allocR wr _).block k (HI.out.sl.lt hk)
        have HSL : Hid _ := hsl
        clear hsl
        go_upto_region 9 with (first | (at_builtin; go_must (refine wpList_append_sl rfl _ _ 35 rfl 32 i0 (.slice none 0 0) 24 Try.underlying35 hi hz0 hz1 hz2 rfl _ g (pvl (itQ tb off cap Tx K j)) rfl (HSL.out _) ⟨wr.heap.size, 0, none⟩ 1 1 [.slice (some ⟨tb, off + p, none⟩) K (cap - p)] rfl rfl (cell_newR wr _ _) (by intro u hu; simp at hu; subst hu; rfl) (by omega) (by unfold maxLen; omega) ?_); intro v3 w3 g3 hs3 hg3 hgr3))
        have HS : Hid (ItL w tb off cap Tx K (j + 1) (p + K) v3 g3 w3) := HI.out.push (by rw [HT.out.2.1]; exact hlt) (by rw [hzl, show min K (L - p) = K by omega]; exact hs3) (by
          rcases hg3 with e | ⟨k, e, hk⟩
          · exact .inl e
          · exact .inr ⟨k, e, Nat.le_trans (below_allocR wr _).size hk⟩) (grow_trans (below_allocR wr _) hgr3)
        clear hs3 hg3 hgr3 HSL HI hzl hql
        go_wp2
        go_roundw
        case rel => exact ⟨j + 1, p + K, g3, v3, by go_num, rfl, by omega, HS⟩
        case measure => simp [intOf]; omega
      · have e1 : min (L : Int) ((p : Int) + (K : Int)) = (L : Int) := by omega
        have hE' : (p : Int) ≤ (L : Int) := by omega
        have hE2 : (L : Int) ≤ (cap : Int) := by omega
        have hsl : ∀ o : Obj, Sl (wr.alloc o) 32 v g (pvl (itQ tb off cap Tx K j)) := fun o => HI.out.sl.same fun k hk => (below_allocR wr _).block k (HI.out.sl.lt hk)
        have HSL : Hid _ := hsl
        clear hsl
        go_upto_region 9 with (first | (at_builtin; go_must (refine wpList_append_sl rfl _ _ 35 rfl 32 i0 (.slice none 0 0) 24 Try.underlying35 hi hz0 hz1 hz2 rfl _ g (pvl (itQ tb off cap Tx K j)) rfl (HSL.out _) ⟨wr.heap.size, 0, none⟩ 1 1 [.slice (some ⟨tb, off + p, none⟩) (L - p) (cap - p)] rfl rfl (cell_newR wr _ _) (by intro u hu; simp at hu; subst hu; rfl) (by omega) (by unfold maxLen; omega) ?_); intro v3 w3 g3 hs3 hg3 hgr3))
        have HS : Hid (ItL w tb off cap Tx K (j + 1) (p + K) v3 g3 w3) := HI.out.push (by rw [HT.out.2.1]; exact hlt) (by rw [hzl, show min K (L - p) = L - p by omega]; exact hs3) (by
          rcases hg3 with e | ⟨k, e, hk⟩
          · exact .inl e
          · exact .inr ⟨k, e, Nat.le_trans (below_allocR wr _).size hk⟩) (grow_trans (below_allocR wr _) hgr3)
        clear hs3 hg3 hgr3 HSL HI hzl hql
        go_wp2
        go_roundw
        case rel => exact ⟨j + 1, p + K, g3, v3, by go_num, rfl, by omega, HS⟩
        case measure => simp [intOf]; omega
    · have hjK : L ≤ j * K := by rw [← HI.out.pj]; omega
      have hj := HI.out.few hKb.1
      have hjl : j ≤ 300 := by have := HT.out.2.1; omega
      obtain ⟨va, vc, hv, -⟩ := HI.out.sl.shape
      rw [itQ_len] at hv
      subst hv
      have C1 : Hid _ := rnew_yes (j : Int) W wr ⟨by omega, by omega, hWb.1, hWb.2⟩
      have HJK : Hid (L ≤ j * K) := hjK
      have HLO : Hid (0 < j → (j - 1) * K < L) := fun h0 => by have h1 := HT.out.2.1; rcases HI.out.lo with e | e <;> omega
      have HL0 : Hid (0 < j → 0 < L) := fun h0 => by have h1 := HT.out.2.1; rcases HI.out.lo with e | e <;> omega
      clear hjK
      go_upto_region 12 with (go_at_call 8; refine Calls.mono C1.out ?_; rintro e w2 ⟨b, m, rfl, r2, b2, f1, f2⟩)
      have HW : Hid (WhI w b m tb off cap Tx K j W (.slice va j vc) g ((0 : Nat)) [] (.slice none 0 0) none w2) := by
        refine ⟨r2, trivial, (fun p hp => by cases hp), (fun p hp => by cases hp), by simpa [vals] using Sl.nil w2 5, HI.out.sl.same fun k hk => b2.block k (HI.out.sl.lt hk), HI.out.be.trans (b2.mono HI.out.be.size), ⟨Nat.le_trans HI.out.be.size f1, Nat.le_trans HI.out.be.size f2⟩, fun k hk => ?_, (fun k hk => by cases hk)⟩
        have := HI.out.sl.lt hk
        exact ⟨by omega, by omega⟩
      clear r2 b2 f1 f2 C1 HI HB1 hs2 hw2 ht ht9 hlt hp3 hj hL
      clear hi hz0 hz1 hz2
      go_upto_region 15 with fail
      go_wp2
      go_loopw [14, 15, 16, 17, 18, 20] (fun tv iv _ _ _ _ wr => ∃ (i nx : Nat) (H : List (Int × Pt)) (gt : Option Nat) (tv' : Value), iv = .int .i64 (i : Int) ∧ tv' = tv ∧ i ≤ 2 * nx ∧ nx ≤ j ∧ Hid (WhI w b m tb off cap Tx K j W (.slice va j vc) g nx H tv' gt wr)) (fun _ iv _ _ _ _ _ => 2 * j + 2 - (intOf iv).toNat)
      case atStart => exact ⟨0, 0, [], none, _, rfl, rfl, by omega, Nat.zero_le _, HW.out⟩
      case round =>
        clear HW
        obtain ⟨i, nx, H, gt, tv, rfl, rfl, hi2, hnx, HW⟩ := hrel
        have D3 : Hid _ := rdone_any HW.out.rc
        have hi20 : (i : Int) < 20000 := by omega
        have HWd : Hid (WhI w b m tb off cap Tx K j W (.slice va j vc) g nx H tv gt wr.drew) := HW.out.old (below_drewR wr)
        by_cases hd : nx = j
        · subst hd
          have D3' := D3.out
          rw [show ((nx : Int) == (nx : Int)) = true by simp] at D3'
          have D4 : Hid _ := rdone_any HWd.out.rc
          have D4' := D4.out
          rw [show ((nx : Int) == (nx : Int)) = true by simp] at D4'
          have D3 : Hid _ := D3'
          have D4 : Hid _ := D4'
          have hbe := HWd.out.be
          have HBE : Hid _ := hbe
          obtain ⟨ua, uc, hu, -⟩ := HWd.out.ts.shape
          have hts := HWd.out.ts
          rw [List.take_of_length_le (by rw [HT.out.2.1]; exact HJK.out)] at hts hu
          rw [vals_len, HT.out.2.1] at hu
          rw [hu] at hts
          have cu := conv_row (w := wr.drew.drew) (c := uc) HT.out.2.1 ((hts.row rfl).old (below_drewR _))
          have ct := conv_row (w := wr.drew.drew) (c := cap) HT.out.2.1 (HT.out.2.2.2.2.2.old (HWd.out.be.trans ((below_drewR _).mono HWd.out.be.size)))
          generalize strOfNums Tx = s at *
          subst hu
          clear hts D3' D4' HW HWd hbe
          by_cases hj0 : nx = 0
          · subst hj0
            go_wp2_with (first
              | (go_at_call 21; refine Calls.mono D3.out ?_; rintro e w7 ⟨rfl, rfl⟩))
            go_ret
            exact ⟨rfl, HBE.out⟩
          · have hj0' : ((nx : Int) == 0) = false := by simp; omega
            go_wp2_with (first
              | (go_at_call 21; refine Calls.mono D3.out ?_; clear D3; rintro e w7 ⟨rfl, rfl⟩)
              | (go_at_call 21; refine Calls.mono D4.out ?_; rintro e w7 ⟨rfl, rfl⟩))
            go_ret
            exact ⟨rfl, HBE.out.trans ((below_drewR _).mono HBE.out.size)⟩
        · have D3' := D3.out
          rw [show ((nx : Int) == (j : Int)) = false by simp; omega] at D3'
          have D3 : Hid _ := D3'
          clear D3'
          have hnj : nx < j := by omega
          obtain ⟨I2, hI2⟩ : ∃ I2 : Nat, I2 = i / 2 := ⟨_, rfl⟩
          have hA0 : I2 < j := by omega
          have HI2 : Hid (I2 = i / 2 ∧ i ≤ 2 * nx ∧ nx < j) := ⟨hI2, hi2, hnj⟩
          have HQ1 : Hid ((i : Int).tdiv 2 = (I2 : Int)) := by show _ = _; rw [Int.tdiv_eq_ediv_of_nonneg (by omega)]; omega
          have HQ2 : Hid ((I2 : Int).tmod (j : Int) = (I2 : Int)) := by show _ = _; rw [Int.tmod_eq_emod_of_nonneg (by omega)]; exact Int.emod_eq_of_lt (by omega) (by omega)
          have q3 : ((j : Int) == 0) = false := by simp; omega
          have q3' : ¬ (j : Int) = 0 := by omega
          clear hI2 hi2
          have q1 := HQ1.out
          have q2 := HQ2.out
          go_upto_region 19 with (first | (go_at_call 21; refine Calls.mono D3.out ?_; clear D3; rintro e w7 ⟨rfl, rfl⟩))
          clear q1 q2 HW
          by_cases hol : ol = 0
          · have h0 : ¬ 0 < ol := by omega
            have hA : I2 < j := hA0
            clear hol
            go_upto_region 21 with fail
            obtain ⟨A, rfl⟩ : ∃ A, A = I2 := ⟨_, rfl⟩
            have HAe : Hid (i % 2 = 0 → A = A) := fun _ => rfl
            clear h0
            clear q3 q3'
            obtain ⟨ib, ioff, rfl, hic⟩ : ∃ ib off', va = some ⟨ib, off', none⟩ ∧ wr.drew.cell? ⟨ib, off' + A, none⟩ = some (.slice (some ⟨tb, off + A * K, none⟩) (zAt Tx K A).length (cap - A * K)) := by
              rcases HWd.out.is with ⟨e, _, _⟩ | ⟨ib, off', cap', cur, e, eg, hh, x1, x2, x3, x4⟩
              · simp only [Value.slice.injEq] at e; omega
              · simp only [Value.slice.injEq] at e
                refine ⟨ib, off', e.1, ?_⟩
                have := x4 A (by rw [itQ_len]; exact hA)
                simp only [World.cell?, hh]
                rw [this]
                simp [itQ, pvl, hA, itP, ptV]
            have htb : ta = some ⟨tb, off, none⟩ := HTb.out (by intro e; have h1 := HT.out.2.1; rw [e] at h1; simp at h1; have := HL0.out (by omega); omega)
            have HRt : Hid (PtOk wr.drew (itP tb off cap Tx K A)) := itP_ok (by rw [← htb]; exact HT.out.2.2.2.2.2.old HWd.out.be) HT.out.1 (by rw [HT.out.2.1]; exact hcp) (by unfold maxLen; omega) (by have := HT.out.2.1; omega) (by
              have h1 : A * K ≤ (j - 1) * K := Nat.mul_le_mul_right K (by omega)
              have h2 := HLO.out (by omega)
              have := HT.out.2.1
              omega)
            clear htb
            have hwA : (Lit.int .i64 (A : Int)).wf = true := wfR (A : Int) (by omega)
            have hAj' : (A : Int) < (j : Int) := by omega
            cases hmc : mcB (j : Int) W (nx : Int) H (A : Int)
            · have hodd : i + 1 ≤ 2 * nx := by
                have h1 := HI2.out
                by_cases hev : i % 2 = 0
                · have h2 := HAe.out hev
                  by_cases he : A = nx
                  · exfalso
                    have : mcB (j : Int) W (nx : Int) H (A : Int) = true := by
                      unfold mcB
                      rw [he, HWd.out.up.no (by omega), decide_eq_true (by omega), decide_eq_true (by omega), decide_eq_true (by omega)]
                      rfl
                    rw [this] at hmc
                    cases hmc
                  · omega
                · omega
              have C5 : Hid _ := take_no HWd.out.rc (A : Int) hwA (.slice (some ⟨tb, off + A * K, none⟩) (zAt Tx K A).length (cap - A * K)) hmc
              have HWn : Hid (∀ u, Below wr.drew.heap.size wr.drew u → WhI w b m tb off cap Tx K j W (.slice (some ⟨ib, ioff, none⟩) j vc) g nx H tv gt u) := fun u hu => HWd.out.old hu
              generalize (zAt Tx K A).length = zl at *
              generalize A * K = AK at *
              clear HWd HRt hmc
              go_upto_region 22 with (first | (go_at_call 11; refine Calls.mono C5.out ?_; rintro e w8 ⟨rfl, b8⟩))
              have HW8 : Hid (WhI w b m tb off cap Tx K j W (.slice (some ⟨ib, ioff, none⟩) j vc) g nx H tv gt w8) := HWn.out w8 b8
              clear HWn b8 C5 hic
              go_wp2
              go_loopw [14, 20, 107] (fun tv' _ xv wq => ∃ t : Nat, t ≤ 0 ∧ xv = .int .i64 (t : Int) ∧ tv = tv' ∧ Hid (WhI w b m tb off cap Tx K j W (.slice (some ⟨ib, ioff, none⟩) j vc) g nx H tv gt wq)) (fun _ _ xv _ => 0 - (intOf xv).toNat)
              case atStart => exact ⟨0, Nat.le_refl _, rfl, rfl, HW8.out⟩
              case round =>
                clear HW8
                obtain ⟨t, ht0, rfl, rfl, HW9⟩ := hrel
                obtain rfl : t = 0 := by omega
                go_wp2
                go_roundw
                case rel => exact ⟨i + 1, nx, H, gt, _, by go_num, rfl, hodd, hnx, HW9.out⟩
                case measure => first | (show 2 * j + 2 - ((i : Int) + 1).toNat < 2 * j + 2 - ((i : Int)).toNat; have := HI2.out; omega) | (have := HI2.out; simp [intOf]; omega)
            · have C5 : Hid _ := take_yes HWd.out.rc (A : Int) hwA (a := some ⟨tb, off + A * K, none⟩) (N := (zAt Tx K A).length) (c := cap - A * K) (zs := zAt Tx K A) rfl (by intro h; cases h) (by rw [zAt_len]; omega) HRt.out.1 HRt.out.2.2.2.2 hmc
              have HWn : Hid (∀ v u, TkY wr.drew b m (j : Int) W (nx : Int) H (A : Int) (zAt Tx K A) (.returned (.tuple #[v, .bool true])) u → ∃ P nx' H', WhM w b m tb off cap Tx K j W (.slice (some ⟨ib, ioff, none⟩) j vc) g nx nx' H' P v 0 tv gt u ∧ (A = nx → nx < nx')) := fun v u hu => HWd.out.take hmc hu
              have HAn : Hid (nx ≤ A) := by have := (mcB_ex hmc).2.1; show nx ≤ A; omega
              have HZ : Hid (∀ j : Nat, (zAt Tx K j).length ≤ 9) := fun j => by rw [zAt_len]; omega
              obtain ⟨zs, hzs⟩ : ∃ zs, zAt Tx K A = zs := ⟨_, rfl⟩
              rw [hzs] at hic C5 HWn
              generalize zs.length = zl at *
              generalize A * K = AK at *
              clear HWd HRt hmc hzs
              go_upto_region 22 with (first | (go_at_call 11; refine Calls.mono C5.out ?_; rintro e w8 hT8; obtain ⟨v8, hv8⟩ : ∃ v, e = .returned (.tuple #[v, .bool true]) := (by obtain ⟨q, q1, q2, q3, v, g, e1, q4⟩ := hT8; exact ⟨v, e1⟩); subst hv8))
              obtain ⟨P, nx', H', hM8, hnn⟩ := HWn.out v8 w8 hT8
              have HM8 : Hid _ := hM8
              have HNN : Hid (A = nx → nx < nx') := hnn
              clear hT8 hM8 hnn HWn C5 hic
              have hnx' : nx' ≤ j := by obtain ⟨-, -, -, -, -, e⟩ := HM8.out.rc.nb; omega
              have hPl : P.length ≤ 300 := by have := HM8.out.eq; omega
              have hpe : nx' = nx + P.length := HM8.out.eq
              obtain ⟨a8, c8, rfl⟩ : ∃ a c, v8 = .slice a P.length c := by
                obtain ⟨g8, s8, -⟩ := HM8.out.sl
                obtain ⟨a, c, hv, -⟩ := s8.shape
                exact ⟨a, c, by rw [hv]; unfold pvl; rw [List.length_map]⟩
              go_wp2
              go_loopw [14, 20, 107] (fun tv' _ xv wq => ∃ (t : Nat) (gt' : Option Nat) (tv9 : Value), t ≤ P.length ∧ xv = .int .i64 (t : Int) ∧ tv9 = tv' ∧ Hid (WhM w b m tb off cap Tx K j W (.slice (some ⟨ib, ioff, none⟩) j vc) g nx nx' H' P (.slice a8 P.length c8) t tv9 gt' wq)) (fun _ _ xv _ => P.length - (intOf xv).toNat)
              case atStart => exact ⟨0, gt, _, Nat.zero_le _, rfl, rfl, HM8.out⟩
              case round =>
                clear HM8
                obtain ⟨t, gt', tv9, ht0, rfl, rfl, HM9⟩ := hrel
                by_cases htl : t < P.length
                · obtain ⟨q, hq⟩ : ∃ q, P[t]? = some q := ⟨_, List.getElem?_eq_getElem htl⟩
                  obtain ⟨qok, -⟩ := HM9.out.pk q (List.mem_of_getElem? hq)
                  have hqz := HM9.out.tl t q hq
                  have hql9 : q.z.length ≤ 9 := by rw [hqz]; exact HZ.out _
                  obtain ⟨pb, poff, rfl, hpc⟩ : ∃ pb off', a8 = some ⟨pb, off', none⟩ ∧ wr.cell? ⟨pb, off' + t, none⟩ = some (ptV q) := by
                    obtain ⟨g8, s8, -⟩ := HM9.out.sl
                    rcases s8 with ⟨e, _, _⟩ | ⟨pb, off', cap', cur, e, eg, hh, x1, x2, x3, x4⟩
                    · simp only [Value.slice.injEq] at e; omega
                    · simp only [Value.slice.injEq] at e
                      refine ⟨pb, off', e.1, ?_⟩
                      have := x4 t (by unfold pvl; rw [List.length_map]; exact htl)
                      simp only [World.cell?, hh]
                      rw [this]
                      unfold pvl
                      rw [List.getElem?_map, hq]
                      rfl
                  have HST : Hid (∀ v' w' g', Sl w' 5 v' g' (vals (Tx.take ((nx + t) * K) ++ q.z)) → (g' = gt' ∨ ∃ k, g' = some k ∧ wr.heap.size ≤ k) → wr.grownBy w' gt' → WhM w b m tb off cap Tx K j W (.slice (some ⟨ib, ioff, none⟩) j vc) g nx nx' H' P (.slice (some ⟨pb, poff, none⟩) P.length c8) (t + 1) v' g' w') := fun v' w' g' h1 h2 h3 => HM9.out.step hq h1 h2 h3
                  have HTS : Hid (Sl wr 5 tv9 gt' (vals (Tx.take ((nx + t) * K)))) := HM9.out.ts
                  have HTL : Hid ((Tx.take ((nx + t) * K)).length ≤ 300) := by have := HT.out.2.1; show _ ≤ _; rw [List.length_take]; omega
                  obtain ⟨Y, hY⟩ : ∃ Y, Tx.take ((nx + t) * K) = Y := ⟨_, rfl⟩
                  rw [hY] at HST HTS HTL
                  obtain ⟨qa, qc, qz⟩ := q
                  unfold ptV at hpc
                  simp only at hpc hql9 HST
                  have HQ : Hid (Row wr qa qz ∧ (qa = none → qc = 0)) := ⟨qok.2.2.2.2, qok.2.2.2.1⟩
                  clear HM9 hq qok hqz hY
                  go_wp2_with (first | (at_builtin; go_must (refine wpList_more rfl _ _ rfl tv9 gt' Y rfl HTS.out qa qz.length qc qz rfl HQ.out.2 rfl HQ.out.1 (by have := HTL.out; omega) ?_); intro v' w' g' s1 s2 s3))
                  have HS9 : Hid _ := HST.out v' w' g' s1 s2 s3
                  clear s1 s2 s3 HST HTS HTL HQ
                  go_wp2
                  go_roundw
                  case rel => exact ⟨t + 1, g', v', by omega, by go_num, rfl, HS9.out⟩
                  case measure => simp [intOf]; omega
                · have htP : t = P.length := by omega
                  have hodd : i + 1 ≤ 2 * nx' := by
                    have h1 := HI2.out
                    have h3 := HNN.out
                    have h4 := HAn.out
                    by_cases hev : i % 2 = 0
                    · have h2 := HAe.out hev
                      have := h3 (by omega)
                      omega
                    · omega
                  have HW9 : Hid (WhI w b m tb off cap Tx K j W (.slice (some ⟨ib, ioff, none⟩) j vc) g nx' H' tv9 gt' wr) := HM9.out.fin htP
                  clear HM9
                  go_wp2
                  go_roundw
                  case rel => exact ⟨i + 1, nx', H', gt', _, by go_num, rfl, hodd, hnx', HW9.out⟩
                  case measure => first | (show 2 * j + 2 - ((i : Int) + 1).toNat < 2 * j + 2 - ((i : Int)).toNat; have := HI2.out; omega) | (have := HI2.out; simp [intOf]; omega)
          · have h0 : 0 < ol := by omega
            by_cases hev : i % 2 = 0
            · have Q4 : Hid (((i : Int) % 2 == 1) = false) := by show _ = _; simp; omega
              have hA : I2 < j := hA0
              have q4 := Q4.out
              clear hol hev
              go_upto_region 21 with fail
              obtain ⟨A, rfl⟩ : ∃ A, A = I2 := ⟨_, rfl⟩
              have HAe : Hid (i % 2 = 0 → A = A) := fun _ => rfl
              clear h0 q4 Q4
              clear q3 q3'
              obtain ⟨ib, ioff, rfl, hic⟩ : ∃ ib off', va = some ⟨ib, off', none⟩ ∧ wr.drew.cell? ⟨ib, off' + A, none⟩ = some (.slice (some ⟨tb, off + A * K, none⟩) (zAt Tx K A).length (cap - A * K)) := by
                rcases HWd.out.is with ⟨e, _, _⟩ | ⟨ib, off', cap', cur, e, eg, hh, x1, x2, x3, x4⟩
                · simp only [Value.slice.injEq] at e; omega
                · simp only [Value.slice.injEq] at e
                  refine ⟨ib, off', e.1, ?_⟩
                  have := x4 A (by rw [itQ_len]; exact hA)
                  simp only [World.cell?, hh]
                  rw [this]
                  simp [itQ, pvl, hA, itP, ptV]
              have htb : ta = some ⟨tb, off, none⟩ := HTb.out (by intro e; have h1 := HT.out.2.1; rw [e] at h1; simp at h1; have := HL0.out (by omega); omega)
              have HRt : Hid (PtOk wr.drew (itP tb off cap Tx K A)) := itP_ok (by rw [← htb]; exact HT.out.2.2.2.2.2.old HWd.out.be) HT.out.1 (by rw [HT.out.2.1]; exact hcp) (by unfold maxLen; omega) (by have := HT.out.2.1; omega) (by
                have h1 : A * K ≤ (j - 1) * K := Nat.mul_le_mul_right K (by omega)
                have h2 := HLO.out (by omega)
                have := HT.out.2.1
                omega)
              clear htb
              have hwA : (Lit.int .i64 (A : Int)).wf = true := wfR (A : Int) (by omega)
              have hAj' : (A : Int) < (j : Int) := by omega
              cases hmc : mcB (j : Int) W (nx : Int) H (A : Int)
              · have hodd : i + 1 ≤ 2 * nx := by
                  have h1 := HI2.out
                  by_cases hev : i % 2 = 0
                  · have h2 := HAe.out hev
                    by_cases he : A = nx
                    · exfalso
                      have : mcB (j : Int) W (nx : Int) H (A : Int) = true := by
                        unfold mcB
                        rw [he, HWd.out.up.no (by omega), decide_eq_true (by omega), decide_eq_true (by omega), decide_eq_true (by omega)]
                        rfl
                      rw [this] at hmc
                      cases hmc
                    · omega
                  · omega
                have C5 : Hid _ := take_no HWd.out.rc (A : Int) hwA (.slice (some ⟨tb, off + A * K, none⟩) (zAt Tx K A).length (cap - A * K)) hmc
                have HWn : Hid (∀ u, Below wr.drew.heap.size wr.drew u → WhI w b m tb off cap Tx K j W (.slice (some ⟨ib, ioff, none⟩) j vc) g nx H tv gt u) := fun u hu => HWd.out.old hu
                generalize (zAt Tx K A).length = zl at *
                generalize A * K = AK at *
                clear HWd HRt hmc
                go_upto_region 22 with (first | (go_at_call 11; refine Calls.mono C5.out ?_; rintro e w8 ⟨rfl, b8⟩))
                have HW8 : Hid (WhI w b m tb off cap Tx K j W (.slice (some ⟨ib, ioff, none⟩) j vc) g nx H tv gt w8) := HWn.out w8 b8
                clear HWn b8 C5 hic
                go_wp2
                go_loopw [14, 20, 107] (fun tv' _ xv wq => ∃ t : Nat, t ≤ 0 ∧ xv = .int .i64 (t : Int) ∧ tv = tv' ∧ Hid (WhI w b m tb off cap Tx K j W (.slice (some ⟨ib, ioff, none⟩) j vc) g nx H tv gt wq)) (fun _ _ xv _ => 0 - (intOf xv).toNat)
                case atStart => exact ⟨0, Nat.le_refl _, rfl, rfl, HW8.out⟩
                case round =>
                  clear HW8
                  obtain ⟨t, ht0, rfl, rfl, HW9⟩ := hrel
                  obtain rfl : t = 0 := by omega
                  go_wp2
                  go_roundw
                  case rel => exact ⟨i + 1, nx, H, gt, _, by go_num, rfl, hodd, hnx, HW9.out⟩
                  case measure => first | (show 2 * j + 2 - ((i : Int) + 1).toNat < 2 * j + 2 - ((i : Int)).toNat; have := HI2.out; omega) | (have := HI2.out; simp [intOf]; omega)
              · have C5 : Hid _ := take_yes HWd.out.rc (A : Int) hwA (a := some ⟨tb, off + A * K, none⟩) (N := (zAt Tx K A).length) (c := cap - A * K) (zs := zAt Tx K A) rfl (by intro h; cases h) (by rw [zAt_len]; omega) HRt.out.1 HRt.out.2.2.2.2 hmc
                have HWn : Hid (∀ v u, TkY wr.drew b m (j : Int) W (nx : Int) H (A : Int) (zAt Tx K A) (.returned (.tuple #[v, .bool true])) u → ∃ P nx' H', WhM w b m tb off cap Tx K j W (.slice (some ⟨ib, ioff, none⟩) j vc) g nx nx' H' P v 0 tv gt u ∧ (A = nx → nx < nx')) := fun v u hu => HWd.out.take hmc hu
                have HAn : Hid (nx ≤ A) := by have := (mcB_ex hmc).2.1; show nx ≤ A; omega
                have HZ : Hid (∀ j : Nat, (zAt Tx K j).length ≤ 9) := fun j => by rw [zAt_len]; omega
                obtain ⟨zs, hzs⟩ : ∃ zs, zAt Tx K A = zs := ⟨_, rfl⟩
                rw [hzs] at hic C5 HWn
                generalize zs.length = zl at *
                generalize A * K = AK at *
                clear HWd HRt hmc hzs
                go_upto_region 22 with (first | (go_at_call 11; refine Calls.mono C5.out ?_; rintro e w8 hT8; obtain ⟨v8, hv8⟩ : ∃ v, e = .returned (.tuple #[v, .bool true]) := (by obtain ⟨q, q1, q2, q3, v, g, e1, q4⟩ := hT8; exact ⟨v, e1⟩); subst hv8))
                obtain ⟨P, nx', H', hM8, hnn⟩ := HWn.out v8 w8 hT8
                have HM8 : Hid _ := hM8
                have HNN : Hid (A = nx → nx < nx') := hnn
                clear hT8 hM8 hnn HWn C5 hic
                have hnx' : nx' ≤ j := by obtain ⟨-, -, -, -, -, e⟩ := HM8.out.rc.nb; omega
                have hPl : P.length ≤ 300 := by have := HM8.out.eq; omega
                have hpe : nx' = nx + P.length := HM8.out.eq
                obtain ⟨a8, c8, rfl⟩ : ∃ a c, v8 = .slice a P.length c := by
                  obtain ⟨g8, s8, -⟩ := HM8.out.sl
                  obtain ⟨a, c, hv, -⟩ := s8.shape
                  exact ⟨a, c, by rw [hv]; unfold pvl; rw [List.length_map]⟩
                go_wp2
                go_loopw [14, 20, 107] (fun tv' _ xv wq => ∃ (t : Nat) (gt' : Option Nat) (tv9 : Value), t ≤ P.length ∧ xv = .int .i64 (t : Int) ∧ tv9 = tv' ∧ Hid (WhM w b m tb off cap Tx K j W (.slice (some ⟨ib, ioff, none⟩) j vc) g nx nx' H' P (.slice a8 P.length c8) t tv9 gt' wq)) (fun _ _ xv _ => P.length - (intOf xv).toNat)
                case atStart => exact ⟨0, gt, _, Nat.zero_le _, rfl, rfl, HM8.out⟩
                case round =>
                  clear HM8
                  obtain ⟨t, gt', tv9, ht0, rfl, rfl, HM9⟩ := hrel
                  by_cases htl : t < P.length
                  · obtain ⟨q, hq⟩ : ∃ q, P[t]? = some q := ⟨_, List.getElem?_eq_getElem htl⟩
                    obtain ⟨qok, -⟩ := HM9.out.pk q (List.mem_of_getElem? hq)
                    have hqz := HM9.out.tl t q hq
                    have hql9 : q.z.length ≤ 9 := by rw [hqz]; exact HZ.out _
                    obtain ⟨pb, poff, rfl, hpc⟩ : ∃ pb off', a8 = some ⟨pb, off', none⟩ ∧ wr.cell? ⟨pb, off' + t, none⟩ = some (ptV q) := by
                      obtain ⟨g8, s8, -⟩ := HM9.out.sl
                      rcases s8 with ⟨e, _, _⟩ | ⟨pb, off', cap', cur, e, eg, hh, x1, x2, x3, x4⟩
                      · simp only [Value.slice.injEq] at e; omega
                      · simp only [Value.slice.injEq] at e
                        refine ⟨pb, off', e.1, ?_⟩
                        have := x4 t (by unfold pvl; rw [List.length_map]; exact htl)
                        simp only [World.cell?, hh]
                        rw [this]
                        unfold pvl
                        rw [List.getElem?_map, hq]
                        rfl
                    have HST : Hid (∀ v' w' g', Sl w' 5 v' g' (vals (Tx.take ((nx + t) * K) ++ q.z)) → (g' = gt' ∨ ∃ k, g' = some k ∧ wr.heap.size ≤ k) → wr.grownBy w' gt' → WhM w b m tb off cap Tx K j W (.slice (some ⟨ib, ioff, none⟩) j vc) g nx nx' H' P (.slice (some ⟨pb, poff, none⟩) P.length c8) (t + 1) v' g' w') := fun v' w' g' h1 h2 h3 => HM9.out.step hq h1 h2 h3
                    have HTS : Hid (Sl wr 5 tv9 gt' (vals (Tx.take ((nx + t) * K)))) := HM9.out.ts
                    have HTL : Hid ((Tx.take ((nx + t) * K)).length ≤ 300) := by have := HT.out.2.1; show _ ≤ _; rw [List.length_take]; omega
                    obtain ⟨Y, hY⟩ : ∃ Y, Tx.take ((nx + t) * K) = Y := ⟨_, rfl⟩
                    rw [hY] at HST HTS HTL
                    obtain ⟨qa, qc, qz⟩ := q
                    unfold ptV at hpc
                    simp only at hpc hql9 HST
                    have HQ : Hid (Row wr qa qz ∧ (qa = none → qc = 0)) := ⟨qok.2.2.2.2, qok.2.2.2.1⟩
                    clear HM9 hq qok hqz hY
                    go_wp2_with (first | (at_builtin; go_must (refine wpList_more rfl _ _ rfl tv9 gt' Y rfl HTS.out qa qz.length qc qz rfl HQ.out.2 rfl HQ.out.1 (by have := HTL.out; omega) ?_); intro v' w' g' s1 s2 s3))
                    have HS9 : Hid _ := HST.out v' w' g' s1 s2 s3
                    clear s1 s2 s3 HST HTS HTL HQ
                    go_wp2
                    go_roundw
                    case rel => exact ⟨t + 1, g', v', by omega, by go_num, rfl, HS9.out⟩
                    case measure => simp [intOf]; omega
                  · have htP : t = P.length := by omega
                    have hodd : i + 1 ≤ 2 * nx' := by
                      have h1 := HI2.out
                      have h3 := HNN.out
                      have h4 := HAn.out
                      by_cases hev : i % 2 = 0
                      · have h2 := HAe.out hev
                        have := h3 (by omega)
                        omega
                      · omega
                    have HW9 : Hid (WhI w b m tb off cap Tx K j W (.slice (some ⟨ib, ioff, none⟩) j vc) g nx' H' tv9 gt' wr) := HM9.out.fin htP
                    clear HM9
                    go_wp2
                    go_roundw
                    case rel => exact ⟨i + 1, nx', H', gt', _, by go_num, rfl, hodd, hnx', HW9.out⟩
                    case measure => first | (show 2 * j + 2 - ((i : Int) + 1).toNat < 2 * j + 2 - ((i : Int)).toNat; have := HI2.out; omega) | (have := HI2.out; simp [intOf]; omega)
            · have Q4 : Hid (((i : Int) % 2 == 1) = true) := by show _ = _; simp; omega
              obtain ⟨X, hX⟩ : ∃ X : Nat, X = I2 % ol := ⟨_, rfl⟩
              have hXl : X < ol := by rw [hX]; exact Nat.mod_lt _ (by omega)
              have Q5 : Hid ((I2 : Int).tmod (ol : Int) = (X : Int)) := by show _ = _; rw [Int.tmod_eq_emod_of_nonneg (by omega), hX]; simp
              clear hX
              have q6 : ((ol : Int) == 0) = false := by simp; omega
              have q6' : ¬ (ol : Int) = 0 := by omega
              obtain ⟨ob, ooff, rfl, hoc⟩ : ∃ ob off, oa = some ⟨ob, off, none⟩ ∧ wr.drew.cell? ⟨ob, off + X, none⟩ = some (.int .u8 (Ox[X]?.getD 0)) := by
                rcases HOx.out.2.2.2.2.2.old HWd.out.be with e | ⟨ob, off, e, hc⟩
                · have := HOx.out.2.1; rw [e] at this; simp at this; omega
                · exact ⟨ob, off, e, hc X (by rw [HOx.out.2.1]; exact hXl)⟩
              have hob := HOx.out.1.at X
              generalize Ox[X]?.getD 0 = o at *
              have hjp : (0 : Int) < (j : Int) := by omega
              obtain ⟨A, hA9⟩ : ∃ A : Nat, (A : Int) = o % (j : Int) := ⟨(o % (j : Int)).toNat, Int.toNat_of_nonneg (Int.emod_nonneg _ (by omega))⟩
              have hA : A < j := by have h9 := Int.emod_lt_of_pos o hjp; rw [← hA9] at h9; clear hA9; omega
              have Q7 : Hid (o.tmod (j : Int) = (A : Int)) := by show _ = _; rw [Int.tmod_eq_emod_of_nonneg hob.1, hA9]
              clear hA9
              have hXl' : (X : Int) < (ol : Int) := by omega
              have HAe : Hid (i % 2 = 0 → A = I2) := fun h => absurd h hev
              clear hol
              have q1 := HQ1.out
              have q4 := Q4.out
              have q5 := Q5.out
              have q7 := Q7.out
              go_upto_region 21 with fail
              clear h0 q1 q4 q5 q6 q6' q7 hoc hev Q4 Q5 Q7
              clear q3 q3'
              obtain ⟨ib, ioff, rfl, hic⟩ : ∃ ib off', va = some ⟨ib, off', none⟩ ∧ wr.drew.cell? ⟨ib, off' + A, none⟩ = some (.slice (some ⟨tb, off + A * K, none⟩) (zAt Tx K A).length (cap - A * K)) := by
                rcases HWd.out.is with ⟨e, _, _⟩ | ⟨ib, off', cap', cur, e, eg, hh, x1, x2, x3, x4⟩
                · simp only [Value.slice.injEq] at e; omega
                · simp only [Value.slice.injEq] at e
                  refine ⟨ib, off', e.1, ?_⟩
                  have := x4 A (by rw [itQ_len]; exact hA)
                  simp only [World.cell?, hh]
                  rw [this]
                  simp [itQ, pvl, hA, itP, ptV]
              have htb : ta = some ⟨tb, off, none⟩ := HTb.out (by intro e; have h1 := HT.out.2.1; rw [e] at h1; simp at h1; have := HL0.out (by omega); omega)
              have HRt : Hid (PtOk wr.drew (itP tb off cap Tx K A)) := itP_ok (by rw [← htb]; exact HT.out.2.2.2.2.2.old HWd.out.be) HT.out.1 (by rw [HT.out.2.1]; exact hcp) (by unfold maxLen; omega) (by have := HT.out.2.1; omega) (by
                have h1 : A * K ≤ (j - 1) * K := Nat.mul_le_mul_right K (by omega)
                have h2 := HLO.out (by omega)
                have := HT.out.2.1
                omega)
              clear htb
              have hwA : (Lit.int .i64 (A : Int)).wf = true := wfR (A : Int) (by omega)
              have hAj' : (A : Int) < (j : Int) := by omega
              cases hmc : mcB (j : Int) W (nx : Int) H (A : Int)
              · have hodd : i + 1 ≤ 2 * nx := by
                  have h1 := HI2.out
                  by_cases hev : i % 2 = 0
                  · have h2 := HAe.out hev
                    by_cases he : A = nx
                    · exfalso
                      have : mcB (j : Int) W (nx : Int) H (A : Int) = true := by
                        unfold mcB
                        rw [he, HWd.out.up.no (by omega), decide_eq_true (by omega), decide_eq_true (by omega), decide_eq_true (by omega)]
                        rfl
                      rw [this] at hmc
                      cases hmc
                    · omega
                  · omega
                have C5 : Hid _ := take_no HWd.out.rc (A : Int) hwA (.slice (some ⟨tb, off + A * K, none⟩) (zAt Tx K A).length (cap - A * K)) hmc
                have HWn : Hid (∀ u, Below wr.drew.heap.size wr.drew u → WhI w b m tb off cap Tx K j W (.slice (some ⟨ib, ioff, none⟩) j vc) g nx H tv gt u) := fun u hu => HWd.out.old hu
                generalize (zAt Tx K A).length = zl at *
                generalize A * K = AK at *
                clear HWd HRt hmc
                go_upto_region 22 with (first | (go_at_call 11; refine Calls.mono C5.out ?_; rintro e w8 ⟨rfl, b8⟩))
                have HW8 : Hid (WhI w b m tb off cap Tx K j W (.slice (some ⟨ib, ioff, none⟩) j vc) g nx H tv gt w8) := HWn.out w8 b8
                clear HWn b8 C5 hic
                go_wp2
                go_loopw [14, 20, 107] (fun tv' _ xv wq => ∃ t : Nat, t ≤ 0 ∧ xv = .int .i64 (t : Int) ∧ tv = tv' ∧ Hid (WhI w b m tb off cap Tx K j W (.slice (some ⟨ib, ioff, none⟩) j vc) g nx H tv gt wq)) (fun _ _ xv _ => 0 - (intOf xv).toNat)
                case atStart => exact ⟨0, Nat.le_refl _, rfl, rfl, HW8.out⟩
                case round =>
                  clear HW8
                  obtain ⟨t, ht0, rfl, rfl, HW9⟩ := hrel
                  obtain rfl : t = 0 := by omega
                  go_wp2
                  go_roundw
                  case rel => exact ⟨i + 1, nx, H, gt, _, by go_num, rfl, hodd, hnx, HW9.out⟩
                  case measure => first | (show 2 * j + 2 - ((i : Int) + 1).toNat < 2 * j + 2 - ((i : Int)).toNat; have := HI2.out; omega) | (have := HI2.out; simp [intOf]; omega)
              · have C5 : Hid _ := take_yes HWd.out.rc (A : Int) hwA (a := some ⟨tb, off + A * K, none⟩) (N := (zAt Tx K A).length) (c := cap - A * K) (zs := zAt Tx K A) rfl (by intro h; cases h) (by rw [zAt_len]; omega) HRt.out.1 HRt.out.2.2.2.2 hmc
                have HWn : Hid (∀ v u, TkY wr.drew b m (j : Int) W (nx : Int) H (A : Int) (zAt Tx K A) (.returned (.tuple #[v, .bool true])) u → ∃ P nx' H', WhM w b m tb off cap Tx K j W (.slice (some ⟨ib, ioff, none⟩) j vc) g nx nx' H' P v 0 tv gt u ∧ (A = nx → nx < nx')) := fun v u hu => HWd.out.take hmc hu
                have HAn : Hid (nx ≤ A) := by have := (mcB_ex hmc).2.1; show nx ≤ A; omega
                have HZ : Hid (∀ j : Nat, (zAt Tx K j).length ≤ 9) := fun j => by rw [zAt_len]; omega
                obtain ⟨zs, hzs⟩ : ∃ zs, zAt Tx K A = zs := ⟨_, rfl⟩
                rw [hzs] at hic C5 HWn
                generalize zs.length = zl at *
                generalize A * K = AK at *
                clear HWd HRt hmc hzs
                go_upto_region 22 with (first | (go_at_call 11; refine Calls.mono C5.out ?_; rintro e w8 hT8; obtain ⟨v8, hv8⟩ : ∃ v, e = .returned (.tuple #[v, .bool true]) := (by obtain ⟨q, q1, q2, q3, v, g, e1, q4⟩ := hT8; exact ⟨v, e1⟩); subst hv8))
                obtain ⟨P, nx', H', hM8, hnn⟩ := HWn.out v8 w8 hT8
                have HM8 : Hid _ := hM8
                have HNN : Hid (A = nx → nx < nx') := hnn
                clear hT8 hM8 hnn HWn C5 hic
                have hnx' : nx' ≤ j := by obtain ⟨-, -, -, -, -, e⟩ := HM8.out.rc.nb; omega
                have hPl : P.length ≤ 300 := by have := HM8.out.eq; omega
                have hpe : nx' = nx + P.length := HM8.out.eq
                obtain ⟨a8, c8, rfl⟩ : ∃ a c, v8 = .slice a P.length c := by
                  obtain ⟨g8, s8, -⟩ := HM8.out.sl
                  obtain ⟨a, c, hv, -⟩ := s8.shape
                  exact ⟨a, c, by rw [hv]; unfold pvl; rw [List.length_map]⟩
                go_wp2
                go_loopw [14, 20, 107] (fun tv' _ xv wq => ∃ (t : Nat) (gt' : Option Nat) (tv9 : Value), t ≤ P.length ∧ xv = .int .i64 (t : Int) ∧ tv9 = tv' ∧ Hid (WhM w b m tb off cap Tx K j W (.slice (some ⟨ib, ioff, none⟩) j vc) g nx nx' H' P (.slice a8 P.length c8) t tv9 gt' wq)) (fun _ _ xv _ => P.length - (intOf xv).toNat)
                case atStart => exact ⟨0, gt, _, Nat.zero_le _, rfl, rfl, HM8.out⟩
                case round =>
                  clear HM8
                  obtain ⟨t, gt', tv9, ht0, rfl, rfl, HM9⟩ := hrel
                  by_cases htl : t < P.length
                  · obtain ⟨q, hq⟩ : ∃ q, P[t]? = some q := ⟨_, List.getElem?_eq_getElem htl⟩
                    obtain ⟨qok, -⟩ := HM9.out.pk q (List.mem_of_getElem? hq)
                    have hqz := HM9.out.tl t q hq
                    have hql9 : q.z.length ≤ 9 := by rw [hqz]; exact HZ.out _
                    obtain ⟨pb, poff, rfl, hpc⟩ : ∃ pb off', a8 = some ⟨pb, off', none⟩ ∧ wr.cell? ⟨pb, off' + t, none⟩ = some (ptV q) := by
                      obtain ⟨g8, s8, -⟩ := HM9.out.sl
                      rcases s8 with ⟨e, _, _⟩ | ⟨pb, off', cap', cur, e, eg, hh, x1, x2, x3, x4⟩
                      · simp only [Value.slice.injEq] at e; omega
                      · simp only [Value.slice.injEq] at e
                        refine ⟨pb, off', e.1, ?_⟩
                        have := x4 t (by unfold pvl; rw [List.length_map]; exact htl)
                        simp only [World.cell?, hh]
                        rw [this]
                        unfold pvl
                        rw [List.getElem?_map, hq]
                        rfl
                    have HST : Hid (∀ v' w' g', Sl w' 5 v' g' (vals (Tx.take ((nx + t) * K) ++ q.z)) → (g' = gt' ∨ ∃ k, g' = some k ∧ wr.heap.size ≤ k) → wr.grownBy w' gt' → WhM w b m tb off cap Tx K j W (.slice (some ⟨ib, ioff, none⟩) j vc) g nx nx' H' P (.slice (some ⟨pb, poff, none⟩) P.length c8) (t + 1) v' g' w') := fun v' w' g' h1 h2 h3 => HM9.out.step hq h1 h2 h3
                    have HTS : Hid (Sl wr 5 tv9 gt' (vals (Tx.take ((nx + t) * K)))) := HM9.out.ts
                    have HTL : Hid ((Tx.take ((nx + t) * K)).length ≤ 300) := by have := HT.out.2.1; show _ ≤ _; rw [List.length_take]; omega
                    obtain ⟨Y, hY⟩ : ∃ Y, Tx.take ((nx + t) * K) = Y := ⟨_, rfl⟩
                    rw [hY] at HST HTS HTL
                    obtain ⟨qa, qc, qz⟩ := q
                    unfold ptV at hpc
                    simp only at hpc hql9 HST
                    have HQ : Hid (Row wr qa qz ∧ (qa = none → qc = 0)) := ⟨qok.2.2.2.2, qok.2.2.2.1⟩
                    clear HM9 hq qok hqz hY
                    go_wp2_with (first | (at_builtin; go_must (refine wpList_more rfl _ _ rfl tv9 gt' Y rfl HTS.out qa qz.length qc qz rfl HQ.out.2 rfl HQ.out.1 (by have := HTL.out; omega) ?_); intro v' w' g' s1 s2 s3))
                    have HS9 : Hid _ := HST.out v' w' g' s1 s2 s3
                    clear s1 s2 s3 HST HTS HTL HQ
                    go_wp2
                    go_roundw
                    case rel => exact ⟨t + 1, g', v', by omega, by go_num, rfl, HS9.out⟩
                    case measure => simp [intOf]; omega
                  · have htP : t = P.length := by omega
                    have hodd : i + 1 ≤ 2 * nx' := by
                      have h1 := HI2.out
                      have h3 := HNN.out
                      have h4 := HAn.out
                      by_cases hev : i % 2 = 0
                      · have h2 := HAe.out hev
                        have := h3 (by omega)
                        omega
                      · omega
                    have HW9 : Hid (WhI w b m tb off cap Tx K j W (.slice (some ⟨ib, ioff, none⟩) j vc) g nx' H' tv9 gt' wr) := HM9.out.fin htP
                    clear HM9
                    go_wp2
                    go_roundw
                    case rel => exact ⟨i + 1, nx', H', gt', _, by go_num, rfl, hodd, hnx', HW9.out⟩
                    case measure => first | (show 2 * j + 2 - ((i : Int) + 1).toNat < 2 * j + 2 - ((i : Int)).toNat; have := HI2.out; omega) | (have := HI2.out; simp [intOf]; omega)
end Go.Proofs.Ytmfciheenemapaa
