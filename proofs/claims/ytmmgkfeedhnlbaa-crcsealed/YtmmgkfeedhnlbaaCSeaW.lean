import Derived.Test.YtmmgkfeedhnlbaaTrB
import Derived.Test.YtmmgkfeedhnlbaaCrS
import Derived.Test.YtmmgkfeedhnlbaaCJoinsW
import Derived.Deep.RegionHeld3
namespace Go.Proofs.Ytmmgkfeedhnlbaa
open Go.RowKit
theorem of_at (W : World) (s : Nat) (a : Option Addr) (n c : Nat) (A : List Int) (hc : W.cell? ⟨s, 0, none⟩ = some (.slice a n c)) (h : BOk W a n c A) :
    Calls Try.prog 12 #[.slice (some ⟨s, 0, none⟩) 1 1] W fun e w' => e = .returned (.int .u32 ((crcM (BitVec.ofNat 32 0) A).toNat : Int)) ∧ w' = W := by
  refine of_any _ 1 1 (fun _ => ⟨a, c, A⟩) _ ⟨Nat.le_refl _, by unfold maxLen; omega, fun _ => ⟨_, 0, rfl, fun i hi => ⟨?_, h.pt⟩⟩⟩
  obtain rfl : i = 0 := by omega
  show W.cell? ⟨s, 0, none⟩ = some (.slice a A.length c)
  rw [hc, h.1]
set_option maxHeartbeats 1600000 in
theorem sealed_law (a : Option Addr) (len cap : Nat) (t v : Int) (w : World) (ha : BArg w a len cap) (wt : (Lit.int .u16 t).wf = true) (wv : (Lit.int .u32 v).wf = true) :
    Calls Try.prog 8 #[.slice a len cap, .int .u16 t, .int .u32 v] w fun e w' => e = .returned (.bool true) ∧ Below w.heap.size w w' := by
  obtain ⟨x, rfl⟩ := word_of wv
  obtain ⟨A, hA, hAn, hn, hc, hc0, hAr⟩ := ha
  have ht := bounds_u16 wt
  have HA : Hid (Bytes A) := hA
  have HN : Hid (A.length = len) := hAn
  have HR : Hid (Row w a A) := hAr
  clear hA hAn hAr wt wv
  by_cases hbig : 2000 < (len : Int)
  · go_enter Try.func8, Try.ntmps8
    go_wp2_with (go_at_call 9; refine (fixed_any _).mono ?_; rintro e w1 ⟨rfl, hbel⟩)
    go_ret
    exact ⟨rfl, hbel⟩
  go_enter Try.func8, Try.ntmps8
  go_wp2_with fail
  refine (fixed_any _).mono ?_
  rintro e w1 ⟨rfl, hb1⟩
  have HK1 : Hid (BOk w1 a len cap A) := ⟨HN.out, HA.out, hn, by omega, hc0, HR.out.old hb1⟩
  go_wp2_with fail
  refine (of_one _ _ (by simp) a len cap A HK1.out).mono ?_
  obtain ⟨s, hs⟩ : ∃ s, crcM (BitVec.ofNat 32 0) A = s := ⟨_, rfl⟩
  rw [hs]
  have HSS : Hid (crcM (BitVec.ofNat 32 0) A = s) := hs
  clear hs HK1
  rintro e w2 ⟨rfl, hw2⟩
  have hb2 : Below w.heap.size w w2 := by rw [hw2]; exact hb1.alloc hb1.size _
  clear hw2 hb1
  have hsb : (s.toNat : Int) ≤ 4294967295 := by have := s.isLt; omega
  go_wp2_with (at_builtin; refine wpList_copy rfl _ _ rfl a len cap A rfl rfl hc0 HN.out (HR.out.old hb2) (by omega) ?_)
  intro a' c' w3 g hsl hg hb3
  have hB3 : Below w.heap.size w w3 := hb2.trans (hb3.mono hb2.size)
  have hg3 : ∀ q, g = some q → w.heap.size ≤ q := fun q hq => Nat.le_trans hb2.size (hg q hq)
  clear hb2 hb3 hg
  have HS3 : Hid (Sl w3 5 (.slice a' len c') g (vals A)) := hsl
  clear hsl
  have hs3 := hB3.size
  have HRL : Hid (∀ w : World, Row (w.alloc (.cells #[.int .u8 ((s.toNat : Int) % 256), .int .u8 ((s.toNat : Int) / 256 % 256), .int .u8 ((s.toNat : Int) / 65536 % 256), .int .u8 ((s.toNat : Int) / 16777216)] 5)) (some ⟨w.heap.size, 0, none⟩) (leB s)) := fun w => row_arr rfl (leB s) _ _ rfl
  go_wp2_with (at_builtin; refine wpList_more rfl _ _ rfl _ g A rfl (HS3.out.same fun q hq => Below.heap_alloc w3 _ q (HS3.out.lt hq)) (some ⟨w3.heap.size, 0, none⟩) 4 4 (leB s) rfl (by intro h; cases h) rfl (HRL.out w3) (by have := HN.out; omega) ?_)
  intro v' w4 g' h1 h2 h3
  obtain ⟨a4, c4, hv, hc1, hc2, hc3⟩ := h1.shape
  rw [vals_len, List.length_append, HN.out, show (leB s).length = 4 from rfl] at hv hc1
  subst hv
  unfold maxLen at hc2
  have hB4 : Below w.heap.size w w4 := (hB3.alloc hB3.size _).grown h3 (by simp; omega) hg3
  obtain ⟨m, hm⟩ : ∃ m, m = len + 4 := ⟨_, rfl⟩
  rw [← hm] at h1 hc1 ⊢
  have HR4 : Hid (Row w4 a4 (A ++ leB s)) := h1.row rfl
  have HM : Hid (m = len + 4) := hm
  have hm1 : len + 4 ≤ m := by omega
  have hm2 : m ≤ 2004 := by omega
  clear h1 h2 h3 hg3 hB3 HS3 hs3 HRL hm
  obtain ⟨k, hk⟩ : ∃ k : Nat, (k : Int) = t % (8 * (m : Int)) := ⟨(t % (8 * (m : Int))).toNat, by have := Int.emod_nonneg t (b := 8 * (m : Int)) (by omega); omega⟩
  have hkl : k < 8 * m := by have := Int.emod_lt_of_pos t (b := 8 * (m : Int)) (by omega); omega
  have hkk : t % (8 * (m : Int)) = (k : Int) := hk.symm
  clear hk
  have hl8 : ¬ 8 * (m : Int) = 0 := by omega
  have HTB : Hid (Bytes (A ++ leB s)) := HA.out.append (leB_bytes s)
  have HTL : Hid ((A ++ leB s).length = m) := by show _ = _; rw [List.length_append, HN.out, HM.out]; rfl
  go_wp2_with fail
  refine (turned_any a4 m c4 k x (A ++ leB s) _ HTL.out (by omega) (by omega) HTB.out HR4.out).mono ?_
  rintro e w5 ⟨a5, c5, rfl, k1, k2, k3, k4, k5⟩
  rw [turnB_len, HTL.out] at k1 ⊢
  unfold maxLen at k2
  have hB5 : Below w.heap.size w w5 := hB4.trans (k5.mono hB4.size)
  have HR5 : Hid (Row w5 a4 (A ++ leB s)) := HR4.out.old k5
  have HCR : Hid (Row w5 a5 (turnB (A ++ leB s) k (wbit x))) := k4
  have HCB : Hid (Bytes (turnB (A ++ leB s) k (wbit x))) := turnB_bytes _ _ _
  have HCN : Hid ((turnB (A ++ leB s) k (wbit x)).length = m) := by show _ = _; rw [turnB_len, HTL.out]
  have hne : A ++ leB s ≠ turnB (A ++ leB s) k (wbit x) → _ := sealed_ne A (leB s) HA.out (leB_bytes s) rfl (by rw [HSS.out, leB_lit]; unfold wd; rw [ofInt_toNat]) k (wbit x)
  have HNE : Hid (A ++ leB s ≠ turnB (A ++ leB s) k (wbit x) → ¬ ((crcM (BitVec.ofNat 32 0) ((turnB (A ++ leB s) k (wbit x)).take A.length)).toNat : Int) = litN ((turnB (A ++ leB s) k (wbit x)).drop A.length)) := hne
  have HEQ : Hid (A ++ leB s = turnB (A ++ leB s) k (wbit x) → crcM (BitVec.ofNat 32 0) ((turnB (A ++ leB s) k (wbit x)).take A.length) = s ∧ litN ((turnB (A ++ leB s) k (wbit x)).drop A.length) = (s.toNat : Int)) := by
    intro he
    rw [← he, List.take_left, List.drop_left]
    exact ⟨HSS.out, leB_lit s⟩
  clear k4 k5 hB4 HR4 HR hkk hne HSS
  rw [HN.out] at HNE HEQ
  generalize turnB (A ++ leB s) k (wbit x) = C at *
  generalize hT : A ++ leB s = T at *
  clear hT
  obtain ⟨b5, o5, rfl, hz0⟩ := HCR.out.at len (by rw [HCN.out]; omega)
  have hz1 : w5.cell? ⟨b5, o5 + (len + 1), none⟩ = some (.int .u8 (C[len + 1]?.getD 0)) := by
    obtain ⟨b6, o6, e, h⟩ := HCR.out.at (len + 1) (by rw [HCN.out]; omega)
    simp only [Option.some.injEq, Addr.mk.injEq] at e
    obtain ⟨rfl, rfl, _⟩ := e
    exact h
  have hz2 : w5.cell? ⟨b5, o5 + (len + 2), none⟩ = some (.int .u8 (C[len + 2]?.getD 0)) := by
    obtain ⟨b6, o6, e, h⟩ := HCR.out.at (len + 2) (by rw [HCN.out]; omega)
    simp only [Option.some.injEq, Addr.mk.injEq] at e
    obtain ⟨rfl, rfl, _⟩ := e
    exact h
  have hz3 : w5.cell? ⟨b5, o5 + (len + 3), none⟩ = some (.int .u8 (C[len + 3]?.getD 0)) := by
    obtain ⟨b6, o6, e, h⟩ := HCR.out.at (len + 3) (by rw [HCN.out]; omega)
    simp only [Option.some.injEq, Addr.mk.injEq] at e
    obtain ⟨rfl, rfl, _⟩ := e
    exact h
  have b0 := HCB.out.at len
  have b1 := HCB.out.at (len + 1)
  have b2 := HCB.out.at (len + 2)
  have b3 := HCB.out.at (len + 3)
  have HLT : Hid (litN (C.drop len) = C[len]?.getD 0 + C[len + 1]?.getD 0 * 256 + C[len + 2]?.getD 0 * 65536 + C[len + 3]?.getD 0 * 16777216) := by
    show _ = _
    rw [four (l := C.drop len) (by rw [List.length_drop, HCN.out]; have := HM.out; omega)]
    simp only [List.getElem?_drop, Nat.add_zero, litN]
    omega
  generalize C[len]?.getD 0 = z0 at *
  generalize C[len + 1]?.getD 0 = z1 at *
  generalize C[len + 2]?.getD 0 = z2 at *
  generalize C[len + 3]?.getD 0 = z3 at *
  have o1 := or_8 z0 z1 b0.1 b0.2 b1.1 b1.2
  have o2 := or_16 (z0 + z1 * 256) z2 (by omega) (by omega) b2.1 b2.2
  have o3 := or_24 (z0 + z1 * 256 + z2 * 65536) z3 (by omega) (by omega) b3.1 b3.2
  go_wp2_with fail
  go_quiet (fail)
  rw [← HLT.out]
  have HB6 : Hid (Below w.heap.size w (w5.drewN nq)) := below_drewN hB5 nq
  have HR6 : Hid (Row (w5.drewN nq) a4 T) := HR5.out
  have HC6 : Hid (Row (w5.drewN nq) (some ⟨b5, o5, none⟩) C) := HCR.out
  clear hz0 hz1 hz2 hz3 o1 o2 o3 b0 b1 b2 b3 HLT HR5 HCR hB5 hkl hl8 ht
  generalize w5.drewN nq = w6 at *
  have HK6 : Hid (BOk w6 (some ⟨b5, o5, none⟩) len c5 (C.take len)) := by
    refine ⟨by rw [List.length_take, HCN.out]; omega, HCB.out.take _, by omega, by omega, by (intro h; cases h), ?_⟩
    rcases HC6.out with h | ⟨b, off, e, hc⟩
    · exact .inl (by rw [h]; simp)
    · refine .inr ⟨b, off, e, fun i hi => ?_⟩
      rw [List.length_take] at hi
      rw [hc i (by omega), List.getElem?_take, if_pos (by omega)]
  have HRA : Hid (∀ W, Below w6.heap.size w6 W → Row W a4 T) := fun W h => HR6.out.old h
  have HRC : Hid (∀ W, Below w6.heap.size w6 W → Row W (some ⟨b5, o5, none⟩) C) := fun W h => HC6.out.old h
  have HKW : Hid (∀ W, Below w6.heap.size w6 W → BOk W (some ⟨b5, o5, none⟩) len c5 (C.take len)) := fun W h => HK6.out.old h
  have hlm : len ≤ m := by omega
  have hlc : len ≤ c5 := by omega
  have HBA : Hid (Below w6.heap.size w6 (w6.alloc (.cells #[.slice (some ⟨b5, o5, none⟩) len c5] 23))) := (Below.refl _ _).alloc (Nat.le_refl _) _
  have HBW : Hid (Below w.heap.size w (w6.alloc (.cells #[.slice (some ⟨b5, o5, none⟩) len c5] 23))) := HB6.out.alloc HB6.out.size _
  have HCE : Hid ((w6.alloc (.cells #[.slice (some ⟨b5, o5, none⟩) len c5] 23)).cell? ⟨w6.heap.size, 0, none⟩ = some (.slice (some ⟨b5, o5, none⟩) len c5)) := by
    show _ = _
    rw [World.cell?_alloc_mark]
    rfl
  clear HR6 HC6 HK6
  by_cases heq : T = C
  · obtain ⟨e1, e2⟩ := HEQ.out heq
    subst heq
    rw [e2]
    have O1 := fun (W : World) (s' : Nat) (hc : W.cell? ⟨s', 0, none⟩ = some (.slice (some ⟨b5, o5, none⟩) len c5)) (h : BOk W (some ⟨b5, o5, none⟩) len c5 (T.take len)) => of_at W s' _ len c5 (T.take len) hc h
    rw [e1] at O1
    have HO1 : Hid (∀ (W : World) (s' : Nat), W.cell? ⟨s', 0, none⟩ = some (.slice (some ⟨b5, o5, none⟩) len c5) → BOk W (some ⟨b5, o5, none⟩) len c5 (T.take len) → Calls Try.prog 12 #[.slice (some ⟨s', 0, none⟩) 1 1] W fun e w'' => e = .returned (.int .u32 (s.toNat : Int)) ∧ w'' = W) := O1
    clear e1 e2 HEQ HNE O1 HCB HCN
    go_wp2_with fail
    go_region_held3 (fun _ => True) (trivial) (first
      | (go_at_call 14; refine Calls.mono (same_any a4 (some ⟨b5, o5, none⟩) m c4 c5 T _ HTL.out (HRA.out _ ?_) (HRC.out _ ?_)) ?_; (first | exact ⟨rfl, rfl, rfl, Nat.le_refl _, fun _ _ => rfl⟩ | exact ⟨HBA.out.os, HBA.out.tape, HBA.out.output, HBA.out.size, HBA.out.block⟩); (first | exact ⟨rfl, rfl, rfl, Nat.le_refl _, fun _ _ => rfl⟩ | exact ⟨HBA.out.os, HBA.out.tape, HBA.out.output, HBA.out.size, HBA.out.block⟩); rintro e w7 ⟨rfl, hw7⟩; subst hw7)
      | (go_at_call 12; refine Calls.mono (HO1.out _ _ HCE.out (HKW.out _ ⟨HBA.out.os, HBA.out.tape, HBA.out.output, HBA.out.size, HBA.out.block⟩)) ?_; rintro e w8 ⟨rfl, hw8⟩; subst hw8)
      | fail)
    all_goals
      go_wp2
      go_ret
      exact ⟨ret_bool (by simp), ⟨HBW.out.os, HBW.out.tape, HBW.out.output, HBW.out.size, HBW.out.block⟩⟩
  · have hp := HNE.out heq
    have O1 := fun (W : World) (s' : Nat) (hc : W.cell? ⟨s', 0, none⟩ = some (.slice (some ⟨b5, o5, none⟩) len c5)) (h : BOk W (some ⟨b5, o5, none⟩) len c5 (C.take len)) => of_at W s' _ len c5 (C.take len) hc h
    have S1 := fun (W : World) (h1 : Row W a4 T) (h2 : Row W (some ⟨b5, o5, none⟩) C) => unlike_any a4 (some ⟨b5, o5, none⟩) m c4 c5 T C W HTL.out HCN.out HTB.out HCB.out h1 h2 heq
    generalize crcM (BitVec.ofNat 32 0) (C.take len) = p at *
    generalize litN (C.drop len) = q at *
    have HO1 : Hid (∀ (W : World) (s' : Nat), W.cell? ⟨s', 0, none⟩ = some (.slice (some ⟨b5, o5, none⟩) len c5) → BOk W (some ⟨b5, o5, none⟩) len c5 (C.take len) → Calls Try.prog 12 #[.slice (some ⟨s', 0, none⟩) 1 1] W fun e w'' => e = .returned (.int .u32 (p.toNat : Int)) ∧ w'' = W) := O1
    have HS1 : Hid (∀ W : World, Row W a4 T → Row W (some ⟨b5, o5, none⟩) C → Calls Try.prog 14 #[.slice a4 m c4, .slice (some ⟨b5, o5, none⟩) m c5] W fun e w'' => e = .returned (.bool false) ∧ w'' = W) := S1
    clear HEQ HNE O1 S1 HCB HCN heq
    go_wp2_with fail
    go_region_held3 (fun _ => True) (trivial) (first
      | (go_at_call 14; refine Calls.mono (HS1.out _ (HRA.out _ ?_) (HRC.out _ ?_)) ?_; (first | exact ⟨rfl, rfl, rfl, Nat.le_refl _, fun _ _ => rfl⟩ | exact ⟨HBA.out.os, HBA.out.tape, HBA.out.output, HBA.out.size, HBA.out.block⟩); (first | exact ⟨rfl, rfl, rfl, Nat.le_refl _, fun _ _ => rfl⟩ | exact ⟨HBA.out.os, HBA.out.tape, HBA.out.output, HBA.out.size, HBA.out.block⟩); rintro e w7 ⟨rfl, hw7⟩; subst hw7)
      | (go_at_call 12; refine Calls.mono (HO1.out _ _ HCE.out (HKW.out _ ⟨HBA.out.os, HBA.out.tape, HBA.out.output, HBA.out.size, HBA.out.block⟩)) ?_; rintro e w8 ⟨rfl, hw8⟩; subst hw8)
      | fail)
    all_goals
      go_wp2
      go_ret
      exact ⟨ret_bool (by simpa using hp), ⟨HBW.out.os, HBW.out.tape, HBW.out.output, HBW.out.size, HBW.out.block⟩⟩
end Go.Proofs.Ytmmgkfeedhnlbaa
