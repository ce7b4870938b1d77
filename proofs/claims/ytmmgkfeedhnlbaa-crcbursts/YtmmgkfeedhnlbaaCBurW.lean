import Derived.Test.YtmmgkfeedhnlbaaTrB
import Derived.Test.YtmmgkfeedhnlbaaCJoinsW
namespace Go.Proofs.Ytmmgkfeedhnlbaa
open Go.RowKit
set_option maxHeartbeats 800000 in
theorem bursts_law (a : Option Addr) (len cap : Nat) (t v : Int) (w : World) (ha : BArg w a len cap) (wt : (Lit.int .u16 t).wf = true) (wv : (Lit.int .u32 v).wf = true) :
    Calls Try.prog 7 #[.slice a len cap, .int .u16 t, .int .u32 v] w fun e w' => e = .returned (.bool true) ∧ Below w.heap.size w w' := by
  obtain ⟨x, rfl⟩ := word_of wv
  obtain ⟨A, hA, hAn, hn, hc, hc0, hAr⟩ := ha
  have ht := bounds_u16 wt
  have HA : Hid (Bytes A) := hA
  have HN : Hid (A.length = len) := hAn
  have HR : Hid (Row w a A) := hAr
  clear hA hAn hAr wt wv
  by_cases h0 : len = 0
  · subst h0
    go_enter Try.func7, Try.ntmps7
    go_wp2_with (go_at_call 9; refine (fixed_any _).mono ?_; rintro e w1 ⟨rfl, hbel⟩)
    go_ret
    exact ⟨rfl, hbel⟩
  have hl1 : ¬ (len : Int) = 0 := by omega
  by_cases hbig : 2000 < (len : Int)
  · go_enter Try.func7, Try.ntmps7
    go_wp2_with (go_at_call 9; refine (fixed_any _).mono ?_; rintro e w1 ⟨rfl, hbel⟩)
    go_ret
    exact ⟨rfl, hbel⟩
  have hd1 : ((len : Int) == 0) = false := by simpa using hl1
  have hd2 : decide (2000 < (len : Int)) = false := by simpa using hbig
  obtain ⟨k, hk⟩ : ∃ k : Nat, (k : Int) = t % (8 * (len : Int)) := ⟨(t % (8 * (len : Int))).toNat, by have := Int.emod_nonneg t (b := 8 * (len : Int)) (by omega); omega⟩
  have hkl : k < 8 * len := by have := Int.emod_lt_of_pos t (b := 8 * (len : Int)) (by omega); omega
  have hkk : t % (8 * (len : Int)) = (k : Int) := hk.symm
  clear hk
  have hl8 : ¬ 8 * (len : Int) = 0 := by omega
  go_enter Try.func7, Try.ntmps7
  go_wp2_with fail
  refine (fixed_any _).mono ?_
  rintro e w1 ⟨rfl, hb1⟩
  go_wp2_with fail
  refine (turned_any a len cap k x A _ HN.out (by omega) (by omega) HA.out (HR.out.old hb1)).mono ?_
  rintro e w2 ⟨a3, c3, rfl, k1, k2, k3, k4, k5⟩
  rw [turnB_len, HN.out] at k1 ⊢
  unfold maxLen at k2
  have hB : Below w.heap.size w w2 := hb1.trans (k5.mono hb1.size)
  have HT : Hid (Row w2 a A) := HR.out.old hB
  have HC : Hid (Row w2 a3 (turnB A k (wbit x))) := k4
  have HCB : Hid (Bytes (turnB A k (wbit x))) := turnB_bytes _ _ _
  have HCN : Hid ((turnB A k (wbit x)).length = len) := by show _ = _; rw [turnB_len, HN.out]
  have HK1 : Hid (BOk w2 a len cap A) := ⟨HN.out, HA.out, hn, by omega, hc0, HT.out⟩
  have HK2 : Hid (BOk w2 a3 len c3 (turnB A k (wbit x))) := ⟨HCN.out, HCB.out, k1, by omega, k3, HC.out⟩
  have hne : A ≠ turnB A k (wbit x) → crcM (BitVec.ofNat 32 0) A ≠ crcM (BitVec.ofNat 32 0) (turnB A k (wbit x)) := turned_ne A HA.out k (wbit x)
  have HB3 : Hid (Below w.heap.size w ((w2.alloc (.cells #[.slice a len cap] 23)).alloc (.cells #[.slice a3 len c3] 23))) := (hB.alloc hB.size _).alloc (by have := hB.size; simp; omega) _
  clear hb1 k4 k5 hB HR hkk
  generalize turnB A k (wbit x) = C at *
  by_cases heq : A = C
  · subst heq
    clear hne HCB HCN
    go_wp2_with fail
    refine (same_any a a3 len cap c3 A _ HN.out HT.out HC.out).mono ?_
    rintro e w4 ⟨rfl, rfl⟩
    go_wp2_with fail
    refine (of_one _ _ (by simp) a len cap A HK1.out).mono ?_
    rintro e w3 ⟨rfl, rfl⟩
    go_wp2_with fail
    refine (of_one _ _ (by simp) a3 len c3 A (HK2.out.alloc _)).mono ?_
    rintro e w3 ⟨rfl, rfl⟩
    go_wp2
    go_ret
    exact ⟨rfl, HB3.out⟩
  · have hne2 := hne heq
    clear hne
    have O1 := fun (w' : World) (s : Nat) (hs : s = w'.heap.size) (h : BOk w' a len cap A) => of_one w' s hs a len cap A h
    have O2 := fun (w' : World) (s : Nat) (hs : s = w'.heap.size) (h : BOk w' a3 len c3 C) => of_one w' s hs a3 len c3 C h
    have S := unlike_any a a3 len cap c3 A C w2 HN.out HCN.out HA.out HCB.out HT.out HC.out heq
    have hp : ¬ ((crcM (BitVec.ofNat 32 0) A).toNat : Int) = ((crcM (BitVec.ofNat 32 0) C).toNat : Int) := fun h => hne2 (BitVec.eq_of_toNat_eq (by omega))
    generalize crcM (BitVec.ofNat 32 0) A = p at *
    generalize crcM (BitVec.ofNat 32 0) C = q at *
    clear hne2 heq
    go_wp2_with fail
    refine S.mono ?_
    rintro e w4 ⟨rfl, rfl⟩
    clear S
    go_wp2_with fail
    refine (O1 _ _ (by simp) HK1.out).mono ?_
    rintro e w3 ⟨rfl, rfl⟩
    go_wp2_with fail
    refine (O2 _ _ (by simp) (HK2.out.alloc _)).mono ?_
    rintro e w3 ⟨rfl, rfl⟩
    go_wp2
    go_ret
    exact ⟨ret_bool (by simpa using hp), HB3.out⟩
end Go.Proofs.Ytmmgkfeedhnlbaa
