import Derived.Test.YtmmgkfeedhnlbaaCrF
namespace Go.Proofs.Ytmmgkfeedhnlbaa
open Go.RowKit
set_option maxHeartbeats 400000 in
theorem together_law (a : Option Addr) (n c : Nat) (b : Option Addr) (m d : Nat) (w : World) (ha : BArg w a n c) (hb : BArg w b m d) :
    Calls Try.prog 6 #[.slice a n c, .slice b m d] w fun e w' => e = .returned (.bool true) ∧ Below w.heap.size w w' := by
  obtain ⟨A, hA, hAn, hn, hc, hc0, hAr⟩ := ha
  obtain ⟨B, hB, hBn, hm, hd, hd0, hBr⟩ := hb
  by_cases hbig : 6000 < (n : Int) + (m : Int)
  · go_enter Try.func6, Try.ntmps6
    go_wp2_with fail
    refine (fixed_any _).mono ?_
    rintro e w1 ⟨rfl, hB⟩
    go_wp2
    go_ret
    exact ⟨rfl, hB⟩
  have oka : BOk w a n c A := ⟨hAn, hA, hn, by omega, hc0, hAr⟩
  have okb : BOk w b m d B := ⟨hBn, hB, hm, by omega, hd0, hBr⟩
  have J := join_together A B
  rw [hBn, ← crcM_append] at J
  have HJ : Hid (joinW (crcM (BitVec.ofNat 32 0) A) (crcM (BitVec.ofNat 32 0) B) m = crcM (BitVec.ofNat 32 0) (A ++ B)) := J
  have OA := fun (w' : World) (h : Below w.heap.size w w') (s : Nat) (hs : s = w'.heap.size) => of_one w' s hs a n c A (oka.old h)
  have OB := fun (w' : World) (h : Below w.heap.size w w') (s : Nat) (hs : s = w'.heap.size) => of_one w' s hs b m d B (okb.old h)
  have OC := fun (w' : World) (h : Below w.heap.size w w') (s : Nat) (hs : s = w'.heap.size) => of_two w' s hs a b n c m d A B (oka.old h) (okb.old h)
  have JJ := fun (w' : World) => join_nat (crcM (BitVec.ofNat 32 0) A) (crcM (BitVec.ofNat 32 0) B) m m w' (by omega) (by omega)
  rw [HJ.out] at JJ
  clear J HJ hA hB hAr hBr hAn hBn oka okb
  generalize crcM (BitVec.ofNat 32 0) (A ++ B) = r at *
  generalize crcM (BitVec.ofNat 32 0) A = p at *
  generalize crcM (BitVec.ofNat 32 0) B = q at *
  go_enter Try.func6, Try.ntmps6
  go_wp2_with fail
  refine (fixed_any _).mono ?_
  rintro e w1 ⟨rfl, hbel⟩
  have hbel2 : Below w.heap.size w (w1.alloc (.cells #[.slice a n c] 23)) := hbel.alloc hbel.size _
  have hbel3 : Below w.heap.size w ((w1.alloc (.cells #[.slice a n c] 23)).alloc (.cells #[.slice b m d] 23)) := hbel2.alloc hbel2.size _
  go_wp2_with fail
  refine (OA _ hbel _ (by simp)).mono ?_
  rintro e w2 ⟨rfl, rfl⟩
  go_wp2_with fail
  refine (OB _ hbel2 _ (by simp)).mono ?_
  rintro e w2 ⟨rfl, rfl⟩
  go_wp2_with fail
  refine (JJ _).mono ?_
  rintro e w2 ⟨rfl, rfl⟩
  go_wp2_with fail
  refine (OC _ hbel3 _ (by simp)).mono ?_
  rintro e w2 ⟨rfl, rfl⟩
  go_wp2
  go_ret
  exact ⟨rfl, hbel3.alloc hbel3.size _⟩
end Go.Proofs.Ytmmgkfeedhnlbaa
