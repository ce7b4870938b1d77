import Derived.Test.YtaenojkgdlpclaaWritesB
namespace Go.Proofs.Ytaenojkgdlpclaa
open Go.RowKit

theorem irow_one (w : World) (z : Int) : IRow (w.alloc (.cells #[.int .i64 z] 3)) (some ⟨w.heap.size, 0, none⟩) [z] := by
  refine .inr ⟨_, 0, rfl, fun i hi => ?_⟩
  rw [World.cell?_alloc_at _ _ _ _ rfl]
  match i, hi with
  | 0, _ => rfl
theorem LW.set {w wr : World} {x : Nat} {g gl : Option Nat} {zs : List Int} {c : Nat} {v : Value} {L : List Int} {b i : Nat} {u : Value} (p : LW w wr x g zs c v gl L) (h0 : w.heap.size ≤ b) (h1 : b ≠ x) (h2 : some b ≠ g) (h3 : some b ≠ gl) : LW w (wr.setCell ⟨b, i, none⟩ u) x g zs c v gl L :=
  ⟨p.wz.same (Below.heap_setCell wr _ u x (fun e => h1 e.symm)) fun k hk => Below.heap_setCell wr _ u k (fun e => h2 (by rw [hk, e])), p.sl.same fun k hk => Below.heap_setCell wr _ u k (fun e => h3 (by rw [hk, e])), p.x0, p.g0, p.l0, p.bel.setCell h0 u⟩
/-- The last loop's relation: whatever the bytes that were told have become. -/
def WLoop (w : World) (x : Nat) (g : Option Nat) (zs : List Int) (c : Nat) (v : Value) (gl : Option Nat) (L : List Int) (a5 : Option Addr) (n c5 : Nat) (g5 : Option Nat) (wq : World) : Prop :=
  ∃ Y : List Int, Y.length = n ∧ Bytes Y ∧ Sl wq 5 (.slice a5 n c5) g5 (vals Y) ∧ LW w wq x g zs c v gl L
def lenOfV : Value → Nat
  | .slice _ n _ => n
  | _ => 0
set_option maxHeartbeats 3200000 in
theorem writes_walk (a : Option Addr) (len cap : Nat) (F : Nat → Int × Int × Bool) (w : World) (h : PArg w a len cap F) :
    Calls Try.prog 4 #[.slice a len cap] w fun e w' => e = .returned (.bool true) ∧ Below w.heap.size w w' := by
  obtain ⟨hl, hm, hF⟩ := h
  unfold maxLen at hm
  have HF : Hid (0 < len → ∃ b off, a = some ⟨b, off, none⟩ ∧ ∀ i, i < len → w.cell? ⟨b, off + i * 3, none⟩ = some (.int .i64 (F i).1) ∧ w.cell? ⟨b, off + i * 3 + 1, none⟩ = some (.int .i64 (F i).2.1) ∧ w.cell? ⟨b, off + i * 3 + 2, none⟩ = some (.bool (F i).2.2)) := hF
  clear hF
  by_cases c0 : 500 < (len : Int)
  · go_enter Try.func4, Try.ntmps4
    go_wp2_with (go_at_call 8; refine (fixed_any _).mono ?_; rintro e w1 ⟨rfl, hbel⟩)
    go_ret
    exact ⟨rfl, hbel⟩
  have d0 : len ≤ 500 := by omega
  go_enter Try.func4, Try.ntmps4
  go_wp2_with fail
  refine (fixed_any _).mono ?_
  rintro e w1 ⟨rfl, hb1⟩
  go_wp2_with fail
  refine (newW_any _).mono ?_
  rintro e w2 ⟨x, rfl, hx, hwr, hb2⟩
  have HW : Hid (PRel w x F 0 (.slice none 0 0) w2) := ⟨none, [], none, [], ⟨hwr, Sl.nil _ _, Nat.le_trans hb1.size hx, (by intro k hk; cases hk), (by intro k hk; cases hk), hb1.trans (hb2.mono hb1.size)⟩, bitz_nil, Bit.nil, rfl, rfl⟩
  clear hwr hb1 hb2 hx
  go_wp2
  go_loopw [4, 6, 17] (fun v _ t wr => ∃ i : Nat, i ≤ len ∧ t = .int .i64 i ∧ PRel w x F i v wr) (fun _ _ t _ => len - (intOf t).toNat)
  case atStart => exact ⟨0, Nat.zero_le _, rfl, HW.out⟩
  case round =>
    clear HW
    obtain ⟨i, hi, rfl, g, zs, gl, L, P, hz, hbL, hlL, hnL⟩ := hrel
    have hcnt := pss_count F i
    have HL : Hid (Bit L ∧ L.length = (pss F i).2 ∧ binN L = (pss F i).1) := ⟨hbL, hlL, hnL⟩
    have HZ : Hid (Bitz zs (pss F i).1 (pss F i).2) := hz
    have hzl : zs.length ≤ 3000 := by have := hz.2.1; omega
    have hLl : L.length ≤ 20000 := by omega
    clear hbL hlL hnL hz
    obtain ⟨al, cl, hvl, hl1, hl2, hl3⟩ := P.sl.shape
    rw [ivals_len] at hvl hl1
    subst hvl
    by_cases hlt : i < len
    · obtain ⟨b, off, hab, hc⟩ := HF.out (by omega)
      have hbw : b < w.heap.size := cell_lt (hc i hlt).1
      have q0 : wr.cell? ⟨b, off + i * 3, none⟩ = some (.int .i64 (F i).1) := (P.bel.cell (p := ⟨b, _, none⟩) hbw).trans (hc i hlt).1
      have q1 : wr.cell? ⟨b, off + i * 3 + 1, none⟩ = some (.int .i64 (F i).2.1) := (P.bel.cell (p := ⟨b, _, none⟩) hbw).trans (hc i hlt).2.1
      have q2 : wr.cell? ⟨b, off + i * 3 + 2, none⟩ = some (.bool (F i).2.2) := (P.bel.cell (p := ⟨b, _, none⟩) hbw).trans (hc i hlt).2.2
      subst hab
      clear hc
      have HPS : Hid (pss F (i + 1) = pst (pss F i) (F i)) := rfl
      generalize hFi : F i = f at *
      clear hFi
      obtain ⟨fv, fn, fa⟩ := f
      simp only at q0 q1 q2
      have P1 := P.old ((Below.refl wr.heap.size wr).alloc (Nat.le_refl _) (.cells #[.int .i64 fv, .int .i64 fn, .bool fa] 45))
      have hbxs := heap_alloc_new wr (.cells #[.int .i64 fv, .int .i64 fn, .bool fa] 45)
      cases fa with
      | true =>
        have HST : Hid (pss F (i + 1) = ((pss F i).1, 8 * (((pss F i).2 + 7) / 8))) := by
          show _ = _
          rw [HPS.out]; simp [pst]
        clear HPS hbxs P
        go_wp2_with fail
        refine (alignW_any x g zs _ _ P1.wz (by omega)).mono ?_
        rintro e w5 ⟨rfl, g5, hw5, hg5, hf5⟩
        rw [(bitz_align HZ.out).2] at hw5
        have P5 := P1.wr hw5 hf5 hg5
        obtain ⟨A, hA⟩ : ∃ A, A = 8 * (((pss F i).2 + 7) / 8) := ⟨_, rfl⟩
        rw [← hA] at P5
        have HA : Hid (A = 8 * (((pss F i).2 + 7) / 8)) := hA
        have hAb : A ≤ 20008 := by omega
        have HP5 : Hid (LW w w5 x g5 zs A (.slice al L.length cl) gl L) := P5
        clear P1 hw5 hg5 hf5 P5 hA
        go_wp2
        go_loopw [4] (fun v wq => ∃ (t : Nat) (gl' : Option Nat), L.length + t ≤ A ∧ LW w wq x g5 zs A v gl' (L ++ List.replicate t 0)) (fun v _ => A - lenOfV v)
        case atStart => exact ⟨0, gl, by have := HL.out.2.1; have := HA.out; omega, by simpa using HP5.out⟩
        case round =>
          clear HP5
          obtain ⟨t, gl', ht, P6⟩ := hrel
          obtain ⟨a6, c6, hv6, h61, h62, h63⟩ := P6.sl.shape
          have hln : (L ++ List.replicate t 0).length = L.length + t := by simp
          rw [ivals_len, hln] at hv6 h61
          subst hv6
          have HLN : Hid ((L ++ List.replicate t 0).length = L.length + t) := hln
          have HRS : Hid (L ++ List.replicate t 0 ++ [0] = L ++ List.replicate (t + 1) 0) := by
            show _ = _
            rw [List.append_assoc, ← List.replicate_succ']
          clear hln
          by_cases h8 : (L.length + t) % 8 = 0
          · obtain rfl : A = L.length + t := by have := HL.out.2.1; have := HA.out; omega
            have h8' : ((L.length : Int) + (t : Int)) % 8 = 0 := by omega
            have h8b : (((L.length : Int) + (t : Int)) % 8 != 0) = false := by simp [h8']
            clear h8'
            go_wp2_with fail
            refine (lenW_any x g5 zs _ _ P6.wz).mono ?_
            rintro e w7 ⟨rfl, rfl⟩
            have HRR : Hid (PRel w x F (i + 1) (.slice a6 (L.length + t) c6) w7) := by
              refine ⟨g5, zs, gl', L ++ List.replicate t 0, ?_, ?_, HL.out.1.append (bit_zeros t), ?_, ?_⟩
              · rw [HST.out, ← HA.out]; exact P6
              · rw [HST.out]; exact (bitz_align HZ.out).1
              · rw [HST.out, ← HA.out]; exact HLN.out
              · rw [HST.out, binN_append, binN_zeros, Int.mul_zero, Int.add_zero]; exact HL.out.2.2
            clear P6
            go_wp2
            go_roundw
            case rel => exact ⟨i + 1, by omega, by go_num, HRR.out⟩
            case measure => simp [intOf]; omega
          · have h8b : (((L.length : Int) + (t : Int)) % 8 != 0) = true := by rw [bne_iff_ne]; omega
            have HAL : Hid (L.length + t < A) := by
              show _ < _
              have := HL.out.2.1; have := HA.out; omega
            have PA := P6.old ((Below.refl wr.heap.size wr).alloc (Nat.le_refl _) (.cells #[.int .i64 0] 3))
            have HPA : Hid (LW w (wr.alloc (.cells #[.int .i64 0] 3)) x g5 zs A (.slice a6 (L.length + t) c6) gl' (L ++ List.replicate t 0)) := PA
            clear P6 PA h8
            go_wp2_with (at_builtin; refine wpList_append_ints rfl _ _ rfl _ gl' (L ++ List.replicate t 0) rfl HPA.out.sl (some ⟨wr.heap.size, 0, none⟩) 1 1 [0] rfl rfl (by intro h; cases h) (irow_one wr 0) (by rw [HLN.out]; omega) ?_)
            intro v7 w7 g7 hs7 hg7 hgr7
            have P7 := HPA.out.app hs7 hgr7 (by simpa using hg7)
            have P7' : LW w w7 x g5 zs A v7 g7 (L ++ List.replicate (t + 1) 0) := by rw [← HRS.out, List.append_assoc]; simpa using P7
            have HP7 : Hid (LW w w7 x g5 zs A v7 g7 (L ++ List.replicate (t + 1) 0)) := P7'
            obtain ⟨a7, c7, hv7, _⟩ := P7'.sl.shape
            have hln7 : (L ++ List.replicate (t + 1) 0).length = L.length + (t + 1) := by simp
            rw [ivals_len, hln7] at hv7
            have HV7 : Hid (v7 = .slice a7 (L.length + (t + 1)) c7) := hv7
            clear hs7 hg7 hgr7 P7 P7' hln7 hv7
            go_wp2
            go_roundw
            case rel => exact ⟨t + 1, g7, by have : L.length + t < A := HAL.out; omega, HP7.out⟩
            case measure => rw [HV7.out]; simp only [lenOfV]; have : L.length + t < A := HAL.out; omega
      | false =>
        have HST : Hid (pss F (i + 1) = ((pss F i).1 + fv % 2 ^ clamp fn * 2 ^ (pss F i).2, (pss F i).2 + clamp fn)) := by
          show _ = _
          rw [HPS.out]; simp [pst]
        have hcl := clamp_le fn
        have hbx0 : wr.heap.size ≠ x := by have := P.wz.lt; omega
        have HGX : Hid (∀ k, g = some k → k < wr.heap.size) := fun k hk => P.wz.glt hk
        clear HPS P
        go_wp2_with fail
        refine (put_all x g zs (pss F i).1 (pss F i).2 fv fn _ P1.wz HZ.out (by omega)).mono ?_
        rintro e w5 ⟨zs5, hz5, rfl, g5, hw5, hg5, hf5⟩
        have P5 := P1.wr hw5 hf5 hg5
        have hbx5 : w5.heap[wr.heap.size]? = some (.cells #[.int .i64 fv, .int .i64 fn, .bool false] 45 (0, 0)) := (hf5.block wr.heap.size (by simp) hbx0 (fun e => by have := HGX.out _ e.symm; omega)).trans hbxs
        have hb0 : w5.cell? ⟨wr.heap.size, 0, none⟩ = some (.int .i64 fv) := by simp [World.cell?, hbx5]
        have hb1 : w5.cell? ⟨wr.heap.size, 1, none⟩ = some (.int .i64 fn) := by simp [World.cell?, hbx5]
        have HZ5 : Hid (Bitz zs5 ((pss F i).1 + fv % 2 ^ clamp fn * 2 ^ (pss F i).2) ((pss F i).2 + clamp fn)) := hz5
        clear P1 hw5 hg5 hf5 hz5 hbx5 hbxs
        go_wp2_with fail
        refine (low_any fv fn _).mono ?_
        rintro e w6 ⟨a6, c6, g6, rfl, hs6, hg6, hb6⟩
        have P6 := P5.old hb6
        have HLL : Hid ((lowL fv (clamp fn)).length = clamp fn ∧ Bit (lowL fv (clamp fn)) ∧ binN (lowL fv (clamp fn)) = fv % 2 ^ clamp fn) := ⟨lowL_len _ _, lowL_bit _ _, binN_lowL _ _⟩
        rw [lowL_len] at hs6
        rw [lowL_len]
        obtain ⟨a6', c6', hv6, h61, h62, h63⟩ := hs6.shape
        simp only [Value.slice.injEq] at hv6
        obtain ⟨rfl, hq6, rfl⟩ := hv6
        clear hq6
        have HI6 : Hid (IRow w6 a6 (lowL fv (clamp fn))) := hs6.irow rfl
        have HN6 : Hid (a6 = none → c6 = 0) := h63
        clear P5 hs6 hg6 hb6 h61 h62 h63 hb0 hb1
        generalize lowL fv (clamp fn) = q at *
        go_wp2_with (at_builtin; refine wpList_append_ints rfl _ _ rfl _ gl L rfl P6.sl a6 (clamp fn) c6 q rfl HLL.out.1 HN6.out HI6.out (by omega) ?_)
        intro v7 w7 g7 hs7 hg7 hgr7
        have P7 := P6.app hs7 hgr7 hg7
        obtain ⟨a7, c7, hv7, _⟩ := P7.sl.shape
        have hln7 : (L ++ q).length = (pss F i).2 + clamp fn := by rw [List.length_append, HL.out.2.1, HLL.out.1]
        rw [ivals_len, hln7] at hv7
        rw [hv7]
        rw [hv7] at P7
        clear hs7 hg7 hgr7 P6 hv7
        have HLN7 : Hid ((L ++ q).length = (pss F i).2 + clamp fn) := hln7
        clear hln7
        go_wp2_with fail
        refine (lenW_any x g5 zs5 _ _ P7.wz).mono ?_
        rintro e w8 ⟨rfl, rfl⟩
        have HRR : Hid (PRel w x F (i + 1) (.slice a7 ((pss F i).2 + clamp fn) c7) w8) := by
          refine ⟨g5, zs5, g7, L ++ q, ?_, ?_, HL.out.1.append HLL.out.2.1, ?_, ?_⟩
          · rw [HST.out]; exact P7
          · rw [HST.out]; exact HZ5.out
          · rw [HST.out]; exact HLN7.out
          · rw [HST.out, binN_append, HL.out.2.1, HL.out.2.2, HLL.out.2.2, Int.mul_comm]
        clear P7
        go_wp2
        go_roundw
        case rel => exact ⟨i + 1, by omega, by go_num, HRR.out⟩
        case measure => simp [intOf]; omega
    · obtain rfl : i = len := by omega
      have HEQ : Hid (chunkL L ((L.length + 7) / 8) = zs) := by
        show _ = _
        rw [HL.out.2.1]; exact same_bytes HZ.out HL.out.1 HL.out.2.1 HL.out.2.2
      have HIR : Hid (IRow wr al L) := P.sl.irow rfl
      clear HF
      go_wp2_with fail
      refine (outW_sl x g zs _ _ P.wz (by omega)).mono ?_
      rintro e w5 ⟨a5, c5, g5, rfl, hs5, hg5, hb5⟩
      have HG7 : Hid (∀ k, g5 = some k → w.heap.size ≤ k ∧ k ≠ x ∧ some k ≠ g ∧ some k ≠ gl) := by
        intro k hk
        have h1 := hg5 k hk
        have h2 := P.wz.lt
        have h3 := P.bel.size
        exact ⟨by omega, by omega, fun e => by have := P.wz.glt e.symm; omega, fun e => by have := P.sl.lt e.symm; omega⟩
      have P5 := P.old hb5
      go_wp2_with fail
      refine (refBytes_any al _ cl L _ rfl hl1 hl2 (by omega) HL.out.1 (P5.sl.irow rfl)).mono ?_
      rintro e w6 ⟨a6, c6, rfl, _, _, _, r6, b6⟩
      rw [HEQ.out] at r6
      rw [HEQ.out]
      have hs6 := hs5.same (w' := w6) fun k hk => b6.block k (hs5.lt hk)
      have P6 := P5.old b6
      clear P P5
      go_wp2_with fail
      refine (same_any a5 a6 _ c5 c6 zs _ rfl (hs6.row rfl) r6).mono ?_
      rintro e w7 ⟨rfl, rfl⟩
      have HBZ : Hid (Bytes zs) := HZ.out.1
      have HIN : Hid (WLoop w x g zs (pss F i).2 (.slice al L.length cl) gl L a5 zs.length c5 g5 w7) := ⟨zs, rfl, HBZ.out, hs6, P6⟩
      clear P6 hs6 hs5 hg5 hb5 r6 b6
      go_wp2
      go_loopw [8, 60] (fun _ t wq => ∃ k : Nat, k ≤ zs.length ∧ t = .int .i64 k ∧ WLoop w x g zs (pss F i).2 (.slice al L.length cl) gl L a5 zs.length c5 g5 wq) (fun _ t _ => zs.length - (intOf t).toNat)
      case atStart => exact ⟨0, Nat.zero_le _, rfl, HIN.out⟩
      case round =>
        clear HIN
        obtain ⟨k, hk, rfl, Y, hY, hYb, hsY, PY⟩ := hrel
        by_cases hlt2 : k < zs.length
        · obtain ⟨b, off, hab⟩ : ∃ b off, a5 = some ⟨b, off, none⟩ := by
            rcases hsY with ⟨h, _, hx⟩ | ⟨b, off, cap, cur, h, _⟩
            · have hy0 : Y.length = 0 := by
                have := congrArg List.length hx
                rw [vals_len] at this; exact this
              omega
            · simp only [Value.slice.injEq] at h; exact ⟨b, off, h.1⟩
          subst hab
          have hgb : g5 = some b := by
            rcases hsY with ⟨h, _⟩ | ⟨b', off', cq, cur, h, h', _⟩
            · cases h
            · simp only [Value.slice.injEq, Option.some.injEq, Addr.mk.injEq] at h; rw [h', h.1.1]
          have hck : wr.cell? ⟨b, off + k, none⟩ = some (.int .u8 (Y[k]?.getD 0)) := by rw [hsY.cell k (by rw [vals_len]; omega), vals_at _ _ (by omega)]
          have hfk : wr.frozen? ⟨b, off + k, none⟩ = false := hsY.frozen _
          have hyb := hYb.at k
          have HST : Hid (∀ z : Int, 0 ≤ z → z < 256 → WLoop w x g zs (pss F i).2 (.slice al L.length cl) gl L (some ⟨b, off, none⟩) zs.length c5 g5 (wr.setCell ⟨b, off + k, none⟩ (.int .u8 z))) := by
            intro z h0 h1
            have hq := HG7.out b hgb
            refine ⟨Y.set k z, by rw [List.length_set]; exact hY, ?_, hsY.stored k (by omega) z, PY.set hq.1 hq.2.1 hq.2.2.1 hq.2.2.2⟩
            intro y hy
            rcases List.mem_or_eq_of_mem_set hy with h | h
            · exact hYb y h
            · rw [h]; omega
          clear hsY PY hY hYb hgb
          generalize Y[k]?.getD 0 = y at *
          go_wp2
          go_roundw
          case rel => exact ⟨k + 1, by omega, by go_num, HST.out _ (by omega) (by omega)⟩
          case measure => simp [intOf]; omega
        · clear hsY
          go_wp2_with fail
          refine (outW_any x g zs _ _ PY.wz (by omega)).mono ?_
          rintro e w8 ⟨a8, c8, rfl, _, _, _, r8, b8⟩
          have P8 := PY.old b8
          go_wp2_with fail
          refine (refBytes_any al _ cl L _ rfl hl1 hl2 (by omega) HL.out.1 (P8.sl.irow rfl)).mono ?_
          rintro e w9 ⟨a9, c9, rfl, _, _, _, r9, b9⟩
          rw [HEQ.out] at r9
          rw [HEQ.out]
          have r89 := r8.old b9
          have P9 := P8.old b9
          go_wp2_with fail
          refine (same_any a8 a9 _ c8 c9 zs _ rfl r89 r9).mono ?_
          rintro e w10 ⟨rfl, rfl⟩
          have HBL : Hid (Below w.heap.size w w10) := P9.bel
          clear P8 P9 PY r8 r9 r89 b8 b9
          go_wp2
          go_ret
          exact ⟨rfl, HBL.out⟩
end Go.Proofs.Ytaenojkgdlpclaa
