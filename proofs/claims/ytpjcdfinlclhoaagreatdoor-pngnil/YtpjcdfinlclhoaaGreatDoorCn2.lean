/- A chunk reader's word, gathered. -/
import Derived.Test.YtpjcdfinlclhoaaGreatDoorCn1
namespace Go.Proofs.YtpjcdfinlclhoaaGreatDoor
open Go.RowKit
section
variable {w : World} {p : Nat} {now er sz sum : Int} {X : List Int} {kd : ByteArray} {vd : Value} {bg en : Bool}
set_option maxHeartbeats 3200000 in
set_option maxRecDepth 20000 in
theorem gather_any (B s : Nat) (hs : s < 4) (hX : X.length = 4) (bs : List Int) (av : Option Addr) (m c : Nat) (hm : bs.length = m) (hrs : Rst B w p bs av c) (h : CC w p now er (s : Int) X kd sz vd bg en sum) :
    Calls Tryz.prog 51 #[.pointer (some ⟨p, 0, none⟩), .slice av m c] w fun e w' => GtPost B w p now er s X kd sz vd bg en sum bs e w' := by
  obtain ⟨hmc, hcm, hc0, hrow, -⟩ := id hrs
  rw [hm] at hmc
  obtain ⟨k0, k1, k2, k7, k8, k9, k10, k11, k12, fz⟩ := h.cells
  obtain ⟨N, hN⟩ : ∃ N, min (4 - s) m = N := ⟨_, rfl⟩
  have HH : Hid (CC w p now er (s : Int) X kd sz vd bg en sum) := h
  have HX : Hid (X.length = 4 ∧ bs.length = m ∧ Row w av bs) := ⟨hX, hm, hrow⟩
  have HP : Hid (∀ (w7 w8 : World) (a' : Option Addr) (c' : Nat), CC w7 p now er (s : Int) (wover X s (bs.take N)) kd sz vd bg en sum → Fr w w7 p none → w8 = (w7.setCell ⟨p, 2, none⟩ (.int .i64 ((s : Int) + N))).drew → a' = (if c = N then av else Option.map (fun x => x.add N) av) → c' = c - N → ∀ b : Bool, b = decide (s + N = 4) → GtPost B w p now er s X kd sz vd bg en sum bs (.returned (.tuple #[.bool b, .slice a' (m - N) c'])) w8) := by
    rintro w7 w8 a' c' h7 f7 rfl rfl rfl b rfl
    have h8 : CC (w7.setCell ⟨p, 2, none⟩ (.int .i64 ((s : Int) + N))).drew p now er ((s : Int) + N) (wover X s (bs.take N)) kd sz vd bg en sum := (h7.set2 _).same rfl
    have f8 : Fr w (w7.setCell ⟨p, 2, none⟩ (.int .i64 ((s : Int) + N))).drew p none := by
      have f := f7.snoc 2 (.int .i64 ((s : Int) + N))
      exact ⟨f.os, f.tape, f.output, f.size, f.block⟩
    unfold GtPost
    rw [hm, hN]
    exact ⟨_, c - N, rfl, (hrs.cut N (by omega)).frame f8 (by intro k hk; cases hk), by rw [Int.natCast_add]; exact h8, f8⟩
  clear h hX hm hrow hrs
  have hNs : (N : Int) ≤ 4 - s := by omega
  have hNm : N ≤ m := by omega
  have hNc : N ≤ c := by omega
  have hs4 : (s : Int) ≤ 4 := by omega
  have hs4' : ¬ 4 = s := by omega
  have HDC : Hid (((s : Int) + N == 4) = decide (s + N = 4)) := by
    show _ = _
    rw [Bool.eq_iff_iff]; simp; omega
  by_cases hcN : c = N
  · rw [if_pos hcN, show c - N = 0 by omega, show m - N = 0 by omega] at HP
    obtain rfl : N = c := hcN.symm
    go_enter Tryz.func51, Tryz.ntmps51
    go_wp2
    go_region_law (first
      | (refine step_word rfl _ _ rfl (HH.out.same rfl) HX.out.1 s (by omega) av _ m _ bs rfl rfl HX.out.2.1 (HX.out.2.2.same fun _ _ _ => rfl) ?_; intro w7 h7 f7; rw [hN]; rw [hN] at h7; obtain ⟨q0, q1, q2, q7, q8, q9, q10, q11, q12, qf⟩ := h7.cells)
      | fail)
    all_goals
      have HQ : Hid _ := HP.out w7 _ _ _ h7 ⟨f7.os, f7.tape, f7.output, f7.size, f7.block⟩ rfl rfl rfl
      have q2' : (w7.setCell ⟨p, 2, none⟩ (.int .i64 ((s : Int) + N))).cell? ⟨p, 2, none⟩ = some (.int .i64 ((s : Int) + N)) := (h7.set2 _).cells.2.2.1
      clear h7 f7 HP
      go_wp2
      go_region
      go_wp2
      go_ret2
      exact HQ.out _ HDC.out
  · rw [if_neg hcN] at HP
    go_enter Tryz.func51, Tryz.ntmps51
    go_wp2
    go_region_law (first
      | (refine step_word rfl _ _ rfl (HH.out.same rfl) HX.out.1 s (by omega) av _ m _ bs rfl rfl HX.out.2.1 (HX.out.2.2.same fun _ _ _ => rfl) ?_; intro w7 h7 f7; rw [hN]; rw [hN] at h7; obtain ⟨q0, q1, q2, q7, q8, q9, q10, q11, q12, qf⟩ := h7.cells)
      | fail)
    all_goals
      have HQ : Hid _ := HP.out w7 _ _ _ h7 ⟨f7.os, f7.tape, f7.output, f7.size, f7.block⟩ rfl rfl rfl
      have q2' : (w7.setCell ⟨p, 2, none⟩ (.int .i64 ((s : Int) + N))).cell? ⟨p, 2, none⟩ = some (.int .i64 ((s : Int) + N)) := (h7.set2 _).cells.2.2.1
      clear h7 f7 HP
      go_wp2
      go_region
      go_wp2
      go_ret2
      exact HQ.out _ HDC.out
end
end Go.Proofs.YtpjcdfinlclhoaaGreatDoor
