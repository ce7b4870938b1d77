import Derived.Test.YtmlondjkjdlcjaaAdF
import Derived.Test.YtmlondjkjdlcjaaPtA
namespace Go.Proofs.Ytmlondjkjdlcjaa
open Go.RowKit
theorem isN_adl (n : Int) (l : List Int) : isN (adlM n l) = true := by
  have h := amore_in (halves_in n) l
  unfold In at h
  have h1 : adlM n l % 65536 < 65521 := by unfold adlM whole; omega
  have h2 : adlM n l / 65536 < 65521 := by unfold adlM whole; omega
  simp [isN, h1, h2]
theorem is_adl (n : Int) (l : List Int) (w : World) : Calls Try.prog 14 #[.int .u32 (adlM n l)] w fun e w' => e = .returned (.bool true) ∧ w' = w := by
  have := is_any (adlM n l) w (u32_adl _ _)
  rwa [isN_adl] at this
set_option maxHeartbeats 1600000 in
theorem parts_law (a : Option Addr) (len cap : Nat) (F : Nat → Pt) (w : World) (h : PtArg w a len cap F) :
    Calls Try.prog 4 #[.slice a len cap] w fun e w' => e = .returned (.bool true) ∧ Below w.heap.size w w' := by
  obtain ⟨hl, hm, hF⟩ := h
  unfold maxLen at hm
  have HF : Hid (0 < len → ∃ b off, a = some ⟨b, off, none⟩ ∧ ∀ i, i < len → w.cell? ⟨b, off + i, none⟩ = some (.slice (F i).a (F i).z.length (F i).c) ∧ PtOk w (F i)) := hF
  clear hF
  go_enter Try.func4, Try.ntmps4
  go_wp2_with fail
  refine (fixed_any _).mono ?_
  rintro e w1 ⟨rfl, hb1⟩
  go_wp2
  go_loopw [3, 4, 5, 6, 11] (fun o s _ _ t wr => ∃ k : Nat, ∃ g, ∃ zs : List Int, k ≤ len ∧ t = .int .i64 k ∧ Bytes zs ∧ zs.length ≤ 40000 ∧ s = .int .u32 (adlM 1 zs) ∧ Sl wr 5 o g (vals zs) ∧ (∀ q, g = some q → w.heap.size ≤ q) ∧ Below w.heap.size w wr) (fun _ _ _ _ t _ => len - (intOf t).toNat)
  case atStart => exact ⟨0, none, [], Nat.zero_le _, rfl, Bytes.nil, by simp, rfl, Sl.nil _ _, (by intro k hk; cases hk), hb1⟩
  case round =>
    obtain ⟨k, g, zs, hk, rfl, hz, hzl, rfl, hsl, hg, hbel⟩ := hrel
    obtain ⟨a', c', hv, hc1, hc2, hc3⟩ := hsl.shape
    rw [vals_len] at hv hc1
    subst hv
    have HS : Hid (Sl wr 5 (.slice a' zs.length c') g (vals zs)) := hsl
    have HZ : Hid (Bytes zs) := hz
    clear hsl hz
    by_cases hlt : k < len
    · obtain ⟨b, off, rfl, hc⟩ := HF.out (by omega)
      obtain ⟨hck, hq1, hq2, hq3, hq4, hq5⟩ := hc k hlt
      have hck' : wr.cell? ⟨b, off + k, none⟩ = some (.slice (F k).a (F k).z.length (F k).c) := (hbel.cell (p := ⟨b, _, none⟩) (cell_lt hck)).trans hck
      have HQ : Hid (Row wr (F k).a (F k).z) := hq5.old hbel
      have HQ0 : Hid (Row w (F k).a (F k).z) := hq5
      have HQB : Hid (Bytes (F k).z) := hq1
      clear hc hck hq5 hq1
      generalize F k = f at *
      obtain ⟨fa, fc, fz⟩ := f
      simp only at hck' hq2 hq3 hq4 HQ HQ0 HQB
      by_cases c1 : 20000 < (fz.length : Int)
      · go_wp2
        go_ret
        exact ⟨rfl, hbel⟩
      by_cases c2 : 200 < (k : Int)
      · go_wp2
        go_ret
        exact ⟨rfl, hbel⟩
      by_cases c3 : 20000 < (zs.length : Int)
      · go_wp2
        go_ret
        exact ⟨rfl, hbel⟩
      go_wp2_with (at_builtin; refine wpList_more rfl _ _ rfl _ g zs rfl HS.out fa fz.length fc fz rfl hq4 rfl HQ.out (by omega) ?_)
      intro v' w2 g' h1 h2 h3
      have HV : Hid (Sl w2 5 v' g' (vals (zs ++ fz))) := h1
      have hg' : ∀ q, g' = some q → w.heap.size ≤ q := by
        intro q hq
        rcases h2 with e | ⟨y, e, hy⟩
        · exact hg q (by rw [← e]; exact hq)
        · rw [e] at hq; cases hq; have := hbel.size; omega
      have HB2 : Hid (Below w.heap.size w w2) := hbel.grown h3 hbel.size hg
      have HR2 : Hid (Row w2 fa fz) := HQ0.out.old HB2.out
      have HA : Hid (adlM 1 (zs ++ fz) = adlM (adlM 1 zs) fz) := adlM_append 1 zs fz
      have HLL : Hid (zs.length + fz.length ≤ 40000) := (by omega : zs.length + fz.length ≤ 40000)
      clear h1 h2 h3 hg hbel HS HQ hck' c1 c2 c3
      go_wp2_with fail
      refine (more_any _ fa fz.length fc fz _ (u32_adl _ _) rfl (by omega) HQB.out HR2.out).mono ?_
      rintro e w3 ⟨rfl, rfl⟩
      go_wp2
      go_roundw
      case rel => exact ⟨k + 1, g', zs ++ fz, by omega, by go_num, HZ.out.append HQB.out, by rw [List.length_append]; exact HLL.out, by rw [HA.out], HV.out, hg', HB2.out⟩
      case measure => simp [intOf]; omega
    · go_wp2_with fail
      refine (of_any a' zs.length c' zs _ rfl (by omega) HZ.out (HS.out.row rfl)).mono ?_
      rintro e w3 ⟨rfl, rfl⟩
      go_wp2_with fail
      refine (is_adl 1 zs _).mono ?_
      rintro e w3 ⟨rfl, rfl⟩
      go_wp2
      go_ret
      exact ⟨rfl, hbel⟩
end Go.Proofs.Ytmlondjkjdlcjaa
