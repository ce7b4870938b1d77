import Derived.Test.YtmmgkfeedhnlbaaCrF
namespace Go.Proofs.Ytmmgkfeedhnlbaa
open Go.RowKit
set_option maxHeartbeats 1600000 in
theorem parts_law (a : Option Addr) (len cap : Nat) (F : Nat → Pt) (w : World) (h : PtArg w a len cap F) :
    Calls Try.prog 4 #[.slice a len cap] w fun e w' => e = .returned (.bool true) ∧ Below w.heap.size w w' := by
  obtain ⟨hl, hm, hF⟩ := h
  unfold maxLen at hm
  have HF : Hid (0 < len → ∃ b off, a = some ⟨b, off, none⟩ ∧ ∀ i, i < len → w.cell? ⟨b, off + i, none⟩ = some (.slice (F i).a (F i).z.length (F i).c) ∧ PtOk w (F i)) := hF
  clear hF
  go_enter Try.func4, Try.ntmps4
  go_wp2_with fail
  refine (fixed_any _).mono ?_
  rintro e w1 ⟨rfl, hb1⟩
  go_wp2
  go_loopw [3, 4, 5, 6, 11] (fun o s _ _ t wr => ∃ k : Nat, ∃ g, ∃ zs : List Int, k ≤ len ∧ t = .int .i64 k ∧ zs = catF F k ∧ Bytes zs ∧ zs.length ≤ 12000 ∧ s = .int .u32 ((crcM (BitVec.ofNat 32 0) zs).toNat : Int) ∧ Sl wr 5 o g (vals zs) ∧ (∀ q, g = some q → w.heap.size ≤ q) ∧ Below w.heap.size w wr) (fun _ _ _ _ t _ => len - (intOf t).toNat)
  case atStart => exact ⟨0, none, [], Nat.zero_le _, rfl, rfl, Bytes.nil, by simp, by rw [crcM_nil]; rfl, Sl.nil _ _, (by intro k hk; cases hk), hb1⟩
  case round =>
    obtain ⟨k, g, zs, hk, rfl, hcat, hz, hzl, rfl, hsl, hg, hbel⟩ := hrel
    have HCT : Hid (zs = catF F k) := hcat
    clear hcat
    obtain ⟨a', c', hv, hc1, hc2, hc3⟩ := hsl.shape
    rw [vals_len] at hv hc1
    subst hv
    have HS : Hid (Sl wr 5 (.slice a' zs.length c') g (vals zs)) := hsl
    have HZ : Hid (Bytes zs) := hz
    clear hsl hz
    by_cases hlt : k < len
    · obtain ⟨b, off, rfl, hc⟩ := HF.out (by omega)
      obtain ⟨hck, hq1, hq2, hq3, hq4, hq5⟩ := hc k hlt
      have hck' : wr.cell? ⟨b, off + k, none⟩ = some (.slice (F k).a (F k).z.length (F k).c) := (hbel.cell (p := ⟨b, _, none⟩) (cell_lt hck)).trans hck
      have HQ : Hid (Row wr (F k).a (F k).z) := hq5.old hbel
      have HQ0 : Hid (Row w (F k).a (F k).z) := hq5
      have HQB : Hid (Bytes (F k).z) := hq1
      clear hc hck hq5 hq1
      have HCT2 : Hid (zs ++ (F k).z = catF F (k + 1)) := by show _ = _; rw [HCT.out]; rfl
      generalize F k = f at *
      obtain ⟨fa, fc, fz⟩ := f
      simp only at hck' hq2 hq3 hq4 HQ HQ0 HQB HCT2
      by_cases c1 : 3000 < (fz.length : Int)
      · go_wp2
        go_ret
        exact ⟨rfl, hbel⟩
      by_cases c2 : 200 < (k : Int)
      · go_wp2
        go_ret
        exact ⟨rfl, hbel⟩
      by_cases c3 : 6000 < (zs.length : Int)
      · go_wp2
        go_ret
        exact ⟨rfl, hbel⟩
      go_wp2_with (at_builtin; refine wpList_more rfl _ _ rfl _ g zs rfl HS.out fa fz.length fc fz rfl hq4 rfl HQ.out (by omega) ?_)
      intro v' w2 g' h1 h2 h3
      have HV : Hid (Sl w2 5 v' g' (vals (zs ++ fz))) := h1
      have hg' : ∀ q, g' = some q → w.heap.size ≤ q := by
        intro q hq
        rcases h2 with e | ⟨y, e, hy⟩
        · exact hg q (by rw [← e]; exact hq)
        · rw [e] at hq; cases hq; have := hbel.size; omega
      have HB2 : Hid (Below w.heap.size w w2) := hbel.grown h3 hbel.size hg
      have HR2 : Hid (Row w2 fa fz) := HQ0.out.old HB2.out
      have HA : Hid (crcM (BitVec.ofNat 32 0) (zs ++ fz) = crcM (crcM (BitVec.ofNat 32 0) zs) fz) := crcM_append _ zs fz
      have HLL : Hid (zs.length + fz.length ≤ 12000) := (by omega : zs.length + fz.length ≤ 12000)
      clear h1 h2 h3 hg hbel HS HQ hck' c1 c2 c3
      go_wp2_with fail
      refine (more_any _ fa fz.length fc fz _ rfl (by omega) HQB.out HR2.out).mono ?_
      rintro e w3 ⟨rfl, rfl⟩
      go_wp2
      go_roundw
      case rel => exact ⟨k + 1, g', zs ++ fz, by omega, by go_num, HCT2.out, HZ.out.append HQB.out, by rw [List.length_append]; exact HLL.out, by rw [HA.out], HV.out, hg', HB2.out⟩
      case measure => simp [intOf]; omega
    · obtain rfl : k = len := by omega
      unfold maxLen at hc2
      have HP : Hid (PtArg wr a k cap F) := by
        refine ⟨hl, by unfold maxLen; omega, fun h0 => ?_⟩
        obtain ⟨b, off, rfl, hc⟩ := HF.out h0
        refine ⟨b, off, rfl, fun i hi => ⟨(hbel.cell (p := ⟨b, _, none⟩) (cell_lt (hc i hi).1)).trans (hc i hi).1, ?_⟩⟩
        obtain ⟨_, q1, q2, q3, q4, q5⟩ := hc i hi
        exact ⟨q1, q2, q3, q4, q5.old hbel⟩
      have HK : Hid (BOk wr a' zs.length c' zs) := ⟨rfl, HZ.out, hc1, by omega, hc3, HS.out.row rfl⟩
      have O1 := of_any a k cap F wr HP.out
      rw [← HCT.out] at O1
      go_wp2_with fail
      refine O1.mono ?_
      rintro e w3 ⟨rfl, rfl⟩
      go_wp2_with fail
      refine (of_one _ _ (by simp) a' zs.length c' zs HK.out).mono ?_
      rintro e w3 ⟨rfl, rfl⟩
      go_wp2
      go_ret
      exact ⟨rfl, hbel.alloc hbel.size _⟩
end Go.Proofs.Ytmmgkfeedhnlbaa
