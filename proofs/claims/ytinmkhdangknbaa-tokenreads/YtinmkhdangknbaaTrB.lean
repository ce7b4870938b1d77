/- What Turned answers. -/
import Derived.Test.YtinmkhdangknbaaCrF
import Derived.Test.YtinmkhdangknbaaCrB
import Derived.Test.YtinmkhdangknbaaRfB
namespace Go.Proofs.Ytinmkhdangknbaa
open Go.RowKit

theorem bits_xor01 (x y : Int) (h0 : 0 ≤ x) (h1 : x ≤ 1) (h2 : 0 ≤ y) (h3 : y ≤ 1) : bits .xor .i64 x y = (x + y) % 2 := by
  have hx : x = 0 ∨ x = 1 := by omega
  have hy : y = 0 ∨ y = 1 := by omega
  rcases hx with rfl | rfl <;> rcases hy with rfl | rfl <;> decide
/-- The bits of a word. -/
def wbit (x : BitVec 32) (k : Nat) : Int := if x.getLsbD k then 1 else 0
theorem wbit_01 (x : BitVec 32) (k : Nat) : 0 ≤ wbit x k ∧ wbit x k ≤ 1 := by unfold wbit; split <;> omega
theorem wbit_prog (x : BitVec 32) (k : Nat) : bits .and .u32 ((x.toNat : Int) / 2 ^ k) 1 = wbit x k := by
  unfold wbit
  cases h : x.getLsbD k with
  | true => exact bit_one x k h
  | false => exact bit_nil x k h
theorem Sl.ival {w : World} {v : Value} {g : Option Nat} {l : List Int} (h : Sl w 3 v g (ivals l)) (i : Nat) (hi : i < l.length) : ∃ b off c, v = .slice (some ⟨b, off, none⟩) l.length c ∧ w.cell? ⟨b, off + i, none⟩ = some (.int .i64 (l[i]?.getD 0)) ∧ (∀ j, w.frozen? ⟨b, j, none⟩ = false) ∧ g = some b := by
  have h2 := h
  rcases h2 with ⟨_, _, h0⟩ | ⟨b, off, cap, cur, hv, hg, _⟩
  · exfalso; have := congrArg List.length h0; rw [ivals_len, List.length_nil] at this; omega
  · subst hv
    rw [ivals_len] at h ⊢
    have hc := h.cell i (by rw [ivals_len]; exact hi)
    rw [ivals_at l i hi] at hc
    exact ⟨b, off, cap, rfl, hc, fun j => h.frozen j, hg⟩
theorem ivals_set (l : List Int) (k : Nat) (v : Int) : ivals (l.set k v) = (ivals l).set k (.int .i64 v) := by simp [ivals]
set_option maxHeartbeats 1600000 in
theorem turned_any (a : Option Addr) (n c : Nat) (t : Nat) (x : BitVec 32) (zs : List Int) (w : World) (hn : zs.length = n) (hs : n ≤ 6000) (ht : t ≤ 100000) (hb : Bytes zs) (hr : Row w a zs) :
    Calls Try.prog 17 #[.slice a n c, .int .i64 (t : Int), .int .u32 (x.toNat : Int)] w fun e w' => NewBytes w (turnB zs t (wbit x)) e w' := by
  have hx : (x.toNat : Int) ≤ 4294967295 := by have := x.isLt; omega
  have HN : Hid (zs.length = n) := hn
  have B := bits_any a n c zs w hn hs hb hr
  have HLL : Hid ((bitsL zs).length = 8 * n) := by show _ = _; rw [bitsL_len, hn]
  have HBT : Hid (Bit (bitsL zs)) := bitsL_bit zs
  have HU : Hid (turnB zs t (wbit x) = chunkL (turnL (bitsL zs) t (wbit x) 32) n) := by show _ = _; rw [← hn]; rfl
  generalize bitsL zs = L at *
  clear hn hb hr
  go_enter Try.func17, Try.ntmps17
  go_wp2_with fail
  refine B.mono ?_
  clear B
  rintro e w1 ⟨a1, c1, g1, rfl, hsl1, hg1, hb1⟩
  obtain ⟨m, hm⟩ : ∃ m, m = L.length := ⟨_, rfl⟩
  have HML : Hid (m = 8 * n) := by show _ = _; rw [hm, HLL.out]
  have hm8 : m ≤ 48000 := by have := HML.out; omega
  rw [← hm] at hsl1 ⊢
  have HM : Hid (m = L.length) := hm
  have HS1 : Hid (Sl w1 3 (.slice a1 m c1) g1 (ivals L)) := hsl1
  clear hm hsl1
  go_wp2
  go_loopw [8, 9] (fun i _ wr => ∃ k : Nat, k ≤ 32 ∧ i = .int .i64 k ∧ Sl wr 3 (.slice a1 m c1) g1 (ivals (turnL L t (wbit x) k)) ∧ Below w.heap.size w wr) (fun i _ _ => 32 - (intOf i).toNat)
  case atStart => exact ⟨0, Nat.zero_le _, rfl, HS1.out, hb1⟩
  case round =>
    clear HS1 hb1
    obtain ⟨k, hk, rfl, hsl, hbel⟩ := hrel
    have HTL : Hid ((turnL L t (wbit x) k).length = m) := by show _ = _; rw [turnL_len, HM.out]
    by_cases hlt : k < 32
    · by_cases hin : t + k < m
      · obtain ⟨b, off, c2, hv, hcell, hfr, hgb⟩ := hsl.ival (t + k) (by rw [HTL.out]; exact hin)
        simp only [Value.slice.injEq] at hv
        obtain ⟨rfl, hv2, rfl⟩ := hv
        clear hv2
        rw [turnL_out L t (wbit x) k (t + k) (.inr (Nat.le_refl _))] at hcell
        have h01 := HBT.out.at (t + k)
        have hw01 := wbit_01 x k
        have hwb := wbit_prog x k
        have hx01 := bits_xor01 (L[t + k]?.getD 0) (wbit x k) h01.1 h01.2 hw01.1 hw01.2
        have HS : Hid (Sl (wr.setCell ⟨b, off + (t + k), none⟩ (.int .i64 ((L[t + k]?.getD 0 + wbit x k) % 2))) 3 (.slice (some ⟨b, off, none⟩) m c1) g1 (ivals (turnL L t (wbit x) (k + 1)))) := by
          rw [turnL, if_pos (by rw [← HM.out]; exact hin), ivals_set]
          exact hsl.setAt (t + k) _
        have HB : Hid (Below w.heap.size w (wr.setCell ⟨b, off + (t + k), none⟩ (.int .i64 ((L[t + k]?.getD 0 + wbit x k) % 2)))) := hbel.setCell (hg1 b hgb) _
        clear hsl hbel
        generalize L[t + k]?.getD 0 = z at *
        generalize wbit x k = y at *
        have hfk := hfr (off + (t + k))
        go_wp2
        go_roundw
        case rel => exact ⟨k + 1, by omega, by go_num, HS.out, HB.out⟩
        case measure => simp [intOf]; omega
      · have hin' : (m : Int) ≤ (t : Int) + (k : Int) := by omega
        have HT2 : Hid (turnL L t (wbit x) (k + 1) = turnL L t (wbit x) k) := by show _ = _; rw [turnL, if_neg (by rw [← HM.out]; exact hin)]
        go_wp2
        go_roundw
        case rel => exact ⟨k + 1, by omega, by go_num, by rw [HT2.out]; exact hsl, hbel⟩
        case measure => simp [intOf]; omega
    · obtain rfl : k = 32 := by omega
      obtain ⟨a2, c2, hv, hc1, hc2, hc3⟩ := hsl.shape
      simp only [Value.slice.injEq] at hv
      obtain ⟨rfl, hv2, rfl⟩ := hv
      rw [ivals_len, HTL.out] at hc1
      have R := refBytes_any a1 m c1 (turnL L t (wbit x) 32) wr HTL.out hc1 hc2 (by omega) (turnL_bit HBT.out t _ 32) (hsl.irow rfl)
      rw [show (m + 7) / 8 = n by have := HML.out; omega, ← HU.out] at R
      clear hv2 hc1 hc2 hc3 HTL
      go_wp2_with fail
      refine R.mono ?_
      clear R
      rintro e w2 ⟨a3, c3, rfl, k1, k2, k3, k4, k5⟩
      go_wp2
      go_ret
      unfold NewBytes
      exact ⟨a3, c3, rfl, k1, k2, k3, k4, hbel.trans (k5.mono hbel.size)⟩
end Go.Proofs.Ytinmkhdangknbaa
