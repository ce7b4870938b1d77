import Derived.Test.YtmlondjkjdlcjaaAdF
import Derived.Test.YtmlondjkjdlcjaaAdT
namespace Go.Proofs.Ytmlondjkjdlcjaa
open Go.RowKit

set_option maxHeartbeats 800000 in
theorem turned_law (a : Option Addr) (len cap : Nat) (t v : Int) (w : World) (ha : BArg w a len cap) (wt : (Lit.int .u16 t).wf = true) (wv : (Lit.int .u8 v).wf = true) :
    Calls Try.prog 7 #[.slice a len cap, .int .u16 t, .int .u8 v] w fun e w' => e = .returned (.bool true) ∧ Below w.heap.size w w' := by
  obtain ⟨A, hA, hAn, hn, hc, hc0, hAr⟩ := ha
  have ht := bounds_u16 wt
  have hv := bounds_u8 wv
  have HA : Hid (Bytes A) := hA
  have HN : Hid (A.length = len) := hAn
  have HR : Hid (Row w a A) := hAr
  clear hA hAn hAr wt wv
  by_cases h0 : len = 0
  · subst h0
    go_enter Try.func7, Try.ntmps7
    go_wp2_with (go_at_call 9; refine (fixed_any _).mono ?_; rintro e w1 ⟨rfl, hbel⟩)
    go_ret
    exact ⟨rfl, hbel⟩
  obtain ⟨k, hk⟩ : ∃ k : Nat, (k : Int) = t % (len : Int) := ⟨(t % len).toNat, by have := Int.emod_nonneg t (b := (len : Int)) (by omega); omega⟩
  have hkl : k < len := by have := Int.emod_lt_of_pos t (b := (len : Int)) (by omega); omega
  have HK : Hid (t % (len : Int) = (k : Int)) := hk.symm
  clear hk
  have hl1 : ¬ (len : Int) = 0 := by omega
  go_enter Try.func7, Try.ntmps7
  go_wp2_with fail
  refine (fixed_any _).mono ?_
  rintro e w1 ⟨rfl, hb1⟩
  go_wp2_with (at_builtin; refine wpList_copy rfl _ _ rfl a len cap A rfl rfl hc0 HN.out (HR.out.old hb1) (by omega) ?_)
  intro a' c' w2 g hsl hg hb2
  have HB : Hid (Below w.heap.size w w2) := hb1.trans (hb2.mono hb1.size)
  have HT : Hid (Row w2 a A) := (HR.out.old hb1).old hb2
  obtain ⟨b, off, rfl⟩ : ∃ b off, a' = some ⟨b, off, none⟩ := by
    rcases hsl with ⟨h, _, h2⟩ | ⟨b, off, cap', cur, h, _⟩
    · exfalso; have := congrArg List.length h2; rw [vals_len] at this; have := HN.out; simp at *; omega
    · simp at h; exact ⟨b, off, h.1⟩
  have hcell := hsl.cell k (by rw [vals_len]; have := HN.out; omega)
  rw [vals_at A k (by have := HN.out; omega)] at hcell
  have hfr := hsl.frozen (off + k)
  have hkk := HK.out
  have HS : Hid (Sl (w2.setCell ⟨b, off + k, none⟩ (.int .u8 v)) 5 (.slice (some ⟨b, off, none⟩) len c') g (vals (A.set k v))) := by rw [vals_set]; exact hsl.setAt k _
  have hbw : w.heap.size ≤ b := by
    rcases hsl with ⟨h, _⟩ | ⟨b', off', cap', cur, h, hg2, _⟩
    · cases h
    · simp at h
      obtain ⟨⟨rfl, rfl⟩, _⟩ := h
      have := hg b hg2
      have := hb1.size
      omega
  have hbw1 : w1.heap.size ≤ b := by
    rcases hsl with ⟨h, _⟩ | ⟨b', off', cap', cur, h, hg2, _⟩
    · cases h
    · simp at h
      obtain ⟨⟨rfl, rfl⟩, _⟩ := h
      exact hg b hg2
  have HB3 : Hid (Below w.heap.size w (w2.setCell ⟨b, off + k, none⟩ (.int .u8 v))) := HB.out.setCell hbw _
  have HT3 : Hid (Row (w2.setCell ⟨b, off + k, none⟩ (.int .u8 v)) a A) := (HR.out.old hb1).old (hb2.setCell hbw1 _)
  have HC : Hid (Bytes (A.set k v)) := HA.out.set k v hv.1 (by omega)
  have HCN : Hid ((A.set k v).length = len) := (by have := HN.out; simpa using this : (A.set k v).length = len)
  clear hsl hg hb1 hb2 HB HT HR hbw hbw1
  by_cases hz : A[k]?.getD 0 = v
  · have hse := set_same A k v hz
    rw [hse] at HS
    clear hz hse HC HCN
    go_wp2_with fail
    clear hcell hfr hkk
    generalize w2.setCell ⟨b, off + k, none⟩ (.int .u8 v) = w3 at *
    refine (same_any a _ len cap c' A _ HN.out HT3.out (HS.out.row rfl)).mono ?_
    rintro e w4 ⟨rfl, rfl⟩
    go_wp2_with fail
    refine (of_any a len cap A _ HN.out (by omega) HA.out HT3.out).mono ?_
    rintro e w3 ⟨rfl, rfl⟩
    go_wp2_with fail
    refine (of_any _ len c' A _ HN.out (by omega) HA.out (HS.out.row rfl)).mono ?_
    rintro e w3 ⟨rfl, rfl⟩
    go_wp2
    go_ret
    exact ⟨rfl, HB3.out⟩
  · have hne := turned_ne A HA.out k (by have := HN.out; omega) v hv.1 (by omega) hz
    have hne' : A ≠ A.set k v := fun e => hne (by rw [← e])
    clear hz
    go_wp2_with fail
    clear hcell hfr hkk
    generalize w2.setCell ⟨b, off + k, none⟩ (.int .u8 v) = w3 at *
    refine (unlike_any a _ len cap c' A (A.set k v) _ HN.out HCN.out HA.out HC.out HT3.out (HS.out.row rfl) hne').mono ?_
    rintro e w4 ⟨rfl, rfl⟩
    have OA := of_any a len cap A w4 HN.out (by omega) HA.out HT3.out
    have OB := of_any _ len c' (A.set k v) w4 HCN.out (by omega) HC.out (HS.out.row rfl)
    generalize adlM 1 A = x at *
    generalize adlM 1 (A.set k v) = y at *
    clear hne'
    go_wp2_with fail
    refine OA.mono ?_
    rintro e w3 ⟨rfl, rfl⟩
    go_wp2_with fail
    refine OB.mono ?_
    rintro e w3 ⟨rfl, rfl⟩
    go_wp2
    go_ret
    exact ⟨ret_bool (by simpa using hne), HB3.out⟩
end Go.Proofs.Ytmlondjkjdlcjaa
