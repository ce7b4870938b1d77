/- A table of colours is read: the reference's ReadTints, of kind 3. -/
import Derived.Test.YticdpibaojhpiaaDoorHdRs
namespace Go.Proofs.YticdpibaojhpiaaDoor
open Go.RowKit
set_option maxHeartbeats 3200000 in
theorem rrtints_y2 (W H C D : Int) (L : Bool) (a : Option Addr) (m cap : Nat) (b : List Int) (w : World) (hn : b.length = 3 * m) (hb : Bytes b) (hr : Row w a b) (hm : mayN W H C D) (ho : tnOk C D m) (hms : m ≤ 65536) (h3 : C = 3) :
    Calls Tryd.prog 20 #[HdV W H C D L, .slice a (3 * m) cap] w fun e w' => TtPost w m b 0 e w' := by
  have HB0 : Hid (Qh w W H C D L _) := Qh.box w W H C D L
  have CM := rmay_any W H C D L (w.alloc (.cells #[.int .i64 W, .int .i64 H, .int .i64 C, .int .i64 D, .bool L] 23))
  rw [decide_eq_true hm] at CM
  have hbd := isPr_bd hm.2.2.1
  have hck := (ref_tt hm).1 ho
  have HX : Hid (b.length = 3 * m ∧ Bytes b ∧ Row w a b) := ⟨hn, hb, hr⟩
  have hrem : ((3 * m : Nat) : Int).tmod 3 = 0 := by rw [Int.tmod_eq_emod_of_nonneg (by omega)]; omega
  have hdiv : ((3 * m : Nat) : Int).tdiv 3 = (m : Int) := by rw [Int.tdiv_eq_ediv_of_nonneg (by omega)]; omega
  obtain ⟨B, hB⟩ : ∃ B, B = w.heap.size := ⟨_, rfl⟩
  have HB : Hid (B = w.heap.size) := hB
  obtain ⟨P, hP⟩ : ∃ P : Int, P = 2 ^ D.toNat := ⟨_, rfl⟩
  have hsh : wrap64 (2 ^ D.toNat) = P := by rw [hP]; exact shl_D (by omega)
  rw [← hP] at hck
  have k0 : (C == 0) = false := by simp; omega
  have k4 : (C == 4) = false := by simp; omega
  have k1 : ¬ (m : Int) < 1 := by omega
  have k2 : ¬ 256 < (m : Int) := by omega
  have d1 : decide ((m : Int) < 1) = false := decide_eq_false k1
  have d2 : decide (256 < (m : Int)) = false := decide_eq_false k2
  have h5 : ¬ P < (m : Int) := fun h => hck (.inr (.inr (.inr (.inr ⟨h3, h⟩))))
  clear hn hb hr hm ho hB hP hck
  unfold HdV at *
  have d5 : decide (P < (m : Int)) = false := decide_eq_false h5
  subst h3
  go_enter Tryd.func20, Tryd.ntmps20
  go_wp2_with fail
  refine CM.mono ?_
  clear CM
  rintro e w1 ⟨rfl, hb1⟩
  have HQ1 : Hid (Qh w W H 3 D L w1) := HB0.out.old hb1
  obtain ⟨c0, c1, c2, c3, c4⟩ := HQ1.out.five
  clear hb1 HB0
  go_wp2
  simp only [hsh]
  go_loopw [7, 8] (fun o c wr => ∃ j : Nat, j ≤ m ∧ c = .int .i64 j ∧ wr.ownsRow B 59 3 o j (vals (b.take (3 * j))) ∧ Below B w wr) (fun _ c _ => m - (intOf c).toNat)
  case atStart => exact ⟨0, Nat.zero_le _, rfl, World.ownsRow_nil _ _ _ _, by rw [HB.out]; exact HQ1.out.1⟩
  case round =>
    clear HQ1 c0 c1 c2 c3 c4
    obtain ⟨j, hj, rfl, hown, hbel⟩ := hrel
    obtain ⟨ao, co, hv⟩ := own_shape hown
    subst hv
    by_cases hlt : j < m
    · have hrw : Row wr a b := HX.out.2.2.old (by rw [← HB.out]; exact hbel)
      obtain ⟨bb, off, rfl, hc0⟩ := hrw.atH (3 * j) (by rw [HX.out.1]; omega)
      obtain ⟨b', o', e', hc1⟩ := hrw.atH (3 * j + 1) (by rw [HX.out.1]; omega)
      simp only [Option.some.injEq, Addr.mk.injEq] at e'
      obtain ⟨rfl, rfl, -⟩ := e'
      obtain ⟨b', o', e', hc2⟩ := hrw.atH (3 * j + 2) (by rw [HX.out.1]; omega)
      simp only [Option.some.injEq, Addr.mk.injEq] at e'
      obtain ⟨rfl, rfl, -⟩ := e'
      have HU : Hid (b.take (3 * (j + 1)) = b.take (3 * j) ++ [b[3 * j]?.getD 0, b[3 * j + 1]?.getD 0, b[3 * j + 2]?.getD 0]) := take_3 HX.out.1 hlt
      generalize b[3 * j]?.getD 0 = x at *
      generalize b[3 * j + 1]?.getD 0 = y at *
      generalize b[3 * j + 2]?.getD 0 = z at *
      have HO : Hid (wr.ownsRow B 59 3 (.slice ao j co) j (vals (b.take (3 * j))) ∧ Below B w wr) := ⟨hown, hbel⟩
      have HBs : Hid (B ≤ wr.heap.size) := by show _ ≤ _; rw [HB.out]; exact hbel.size
      clear hown hbel hrw
      obtain ⟨J3, hJ3⟩ : ∃ J3, J3 = 3 * j := ⟨_, rfl⟩
      rw [← hJ3] at hc0 hc1 hc2
      have hJi : 3 * (j : Int) = (J3 : Int) := by omega
      have hJb : J3 + 2 < 3 * m := by omega
      have hJa : J3 + 1 < 3 * m := by omega
      have hJz : J3 < 3 * m := by omega
      have hKa : (J3 : Int) + 1 < 3 * (m : Int) := by omega
      have hKb : (J3 : Int) + 2 < 3 * (m : Int) := by omega
      have hKz : (J3 : Int) < 3 * (m : Int) := by omega
      have hW0 : IntKind.i64.wrap (J3 : Int) = (J3 : Int) := by rw [IntKind.wrap_i64]; omega
      have hWa : IntKind.i64.wrap ((J3 : Int) + 1) = (J3 : Int) + 1 := by rw [IntKind.wrap_i64]; omega
      have hWb : IntKind.i64.wrap ((J3 : Int) + 2) = (J3 : Int) + 2 := by rw [IntKind.wrap_i64]; omega
      have hTa : ((J3 : Int) + 1).toNat = J3 + 1 := by omega
      have hTb : ((J3 : Int) + 2).toNat = J3 + 2 := by omega
      have hNa : (0 : Int) ≤ (J3 : Int) + 1 := by omega
      have hNb : (0 : Int) ≤ (J3 : Int) + 2 := by omega
      have HJ3 : Hid (J3 = 3 * j) := hJ3
      clear hJ3
      have HOd : Hid (∀ o, ((wr.drewN 1).alloc o).ownsRow B 59 3 (.slice ao j co) j (vals (b.take (3 * j)))) := fun o => World.ownsRow.alloc (w := wr.drewN 1) HO.out.1 o
      have HNw : Hid (∀ j u, ([.int .u8 x, .int .u8 y, .int .u8 z] : List Value)[j]? = some u → ((wr.drewN 1).alloc (.cells #[.int .u8 x, .int .u8 y, .int .u8 z] 59)).cell? ((⟨wr.heap.size, 0, none⟩ : Addr).add j) = some u) := fun j u hu => by
        have e : ((wr.drewN 1).alloc (.cells #[.int .u8 x, .int .u8 y, .int .u8 z] 59)).cell? ⟨wr.heap.size, j, none⟩ = #[Value.int .u8 x, .int .u8 y, .int .u8 z][j]? := World.cell?_alloc_mark (w := wr.drewN 1) ..
        rw [Addr.add_lit, Nat.zero_add, e]
        simpa using hu
      go_wp2
      go_region_law (first
        | (refine step_tint rfl _ _ rfl B (.slice ao j co) j (vals (b.take (3 * j))) rfl (HOd.out _) ⟨wr.heap.size, 0, none⟩ [.int .u8 x, .int .u8 y, .int .u8 z] rfl rfl HNw.out (by intro u hu; simp at hu; rcases hu with rfl | rfl | rfl <;> rfl) (by omega) (by have := HBs.out; simp; omega) ?_; intro v7 w7 hown7 hgr7)
        | fail)
      all_goals
        have HF : Hid (w7.ownsRow B 59 3 v7 (j + 1) (vals (b.take (3 * (j + 1)))) ∧ Below B w w7) := tint_next HO.out.1 HO.out.2 HBs.out HU.out hown7 hgr7
        obtain ⟨a7, c7, hv7⟩ := own_shape hown7
        subst hv7
        clear hown7 hgr7 HO HOd HNw
        go_wp2
        go_roundw
        case rel => exact ⟨j + 1, by omega, by go_num, HF.out.1, HF.out.2⟩
        case measure => simp [intOf]; omega
    · obtain rfl : j = m := by omega
      have HF : Hid (TtPost w j b 0 (.returned (.tuple #[.slice ao j co, .int .i64 0])) wr) := by
        have e : b.take (3 * j) = b := List.take_of_length_le (by rw [HX.out.1]; exact Nat.le_refl _)
        rw [e] at hown
        exact ⟨ao, co, rfl, own_rowT hown, by rw [← HB.out]; exact hbel⟩
      clear hown hbel
      go_wp2
      go_ret2
      exact HF.out
end Go.Proofs.YticdpibaojhpiaaDoor
