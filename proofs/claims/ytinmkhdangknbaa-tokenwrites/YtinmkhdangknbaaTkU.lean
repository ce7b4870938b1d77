/- The law on writing: its walk. -/
import Derived.Test.YtinmkhdangknbaaTkO
namespace Go.Proofs.Ytinmkhdangknbaa
open Go.RowKit
theorem twrites_big (f s : Int) (a : Option Addr) (n c : Nat) (D : List Int) (w : World) (_h : BOk w a n c D) (_hs : 0 ≤ s ∧ s < 4294967296) (hn : 3000 < (n : Int)) : Calls Try.prog 3 #[.agg #[.int .i64 f, .int .u32 s, .slice a n c]] w fun e w' => e = .returned (.bool true) ∧ Below w.heap.size w w' := by
  have HF : Hid (∀ u, Calls Try.prog 9 #[] u fun e w' => e = .returned (.bool true) ∧ Below u.heap.size u w') := tfixed_any
  have HQ : Hid (QT w #[.int .i64 f, .int .u32 s, .slice a n c] _) := QT.box w #[.int .i64 f, .int .u32 s, .slice a n c]
  go_enter Try.func3, Try.ntmps3
  go_wp2_with fail
  refine Calls.mono (HF.out _) ?_
  rintro e w1 ⟨rfl, b1⟩
  have HQ1 : Hid (QT w #[.int .i64 f, .int .u32 s, .slice a n c] w1) := HQ.out.old b1
  obtain ⟨d0, d1, d2⟩ := three_cells HQ1.out.2
  clear b1 HQ
  go_wp2
  go_ret
  exact ⟨rfl, HQ1.out.1⟩
theorem twrites_no (f s : Int) (a : Option Addr) (n c : Nat) (D : List Int) (w : World) (_h : BOk w a n c D) (_hs : 0 ≤ s ∧ s < 4294967296) (hn : ¬ 3000 < (n : Int)) (hm : mayT f n = false) : Calls Try.prog 3 #[.agg #[.int .i64 f, .int .u32 s, .slice a n c]] w fun e w' => e = .returned (.bool true) ∧ Below w.heap.size w w' := by
  have HF : Hid (∀ u, Calls Try.prog 9 #[] u fun e w' => e = .returned (.bool true) ∧ Below u.heap.size u w') := tfixed_any
  have HQ : Hid (QT w #[.int .i64 f, .int .u32 s, .slice a n c] _) := QT.box w #[.int .i64 f, .int .u32 s, .slice a n c]
  have C1 : Hid (∀ u, Calls Try.prog 10 #[.agg #[.int .i64 f, .int .u32 s, .slice a n c]] u fun e w' => e = .returned (.tuple #[.slice none 0 0, .int .i64 1]) ∧ Below u.heap.size u w') := fun u => write_no f s a n c u hm
  have C2 : Hid (∀ u, Calls Try.prog 11 #[.agg #[.int .i64 f, .int .u32 s, .slice a n c]] u fun e w' => e = .returned (.tuple #[.slice none 0 0, .int .i64 1]) ∧ Below u.heap.size u w') := fun u => rwrite_no f s a n c u hm
  clear hm
  go_enter Try.func3, Try.ntmps3
  go_wp2_with fail
  refine Calls.mono (HF.out _) ?_
  rintro e w1 ⟨rfl, b1⟩
  have HQ1 : Hid (QT w #[.int .i64 f, .int .u32 s, .slice a n c] w1) := HQ.out.old b1
  obtain ⟨d0, d1, d2⟩ := three_cells HQ1.out.2
  clear b1 HQ
  go_upto_region 6 with (go_at_call 10; refine Calls.mono (C1.out _) ?_; rintro e w2 ⟨rfl, b2⟩)
  have HQ2 : Hid (QT w #[.int .i64 f, .int .u32 s, .slice a n c] w2) := HQ1.out.old b2
  obtain ⟨e0, e1, e2⟩ := three_cells HQ2.out.2
  clear b2 HQ1 d0 d1 d2 C1
  go_upto_region 7 with (go_at_call 11; refine Calls.mono (C2.out _) ?_; rintro e w3 ⟨rfl, b3⟩)
  have HB3 : Hid (Below w.heap.size w w3) := (HQ2.out.old b3).1
  have C3 : Hid _ := same_any none none 0 0 0 [] w3 rfl (.inl rfl) (.inl rfl)
  clear b3 HQ2 e0 e1 e2 C2
  go_wp2_with (go_at_call 12; refine Calls.mono C3.out ?_; rintro e x ⟨rfl, hx⟩; have hx2 := hx.symm; clear hx; subst hx2)
  go_ret
  exact ⟨by simp, HB3.out⟩
set_option maxHeartbeats 1600000 in
theorem twrites_yes (f s : Int) (a : Option Addr) (n c : Nat) (D : List Int) (w : World) (h : BOk w a n c D) (hs : 0 ≤ s ∧ s < 4294967296) (hn : ¬ 3000 < (n : Int)) (hm : mayT f n = true) : Calls Try.prog 3 #[.agg #[.int .i64 f, .int .u32 s, .slice a n c]] w fun e w' => e = .returned (.bool true) ∧ Below w.heap.size w w' := by
  have HF : Hid (∀ u, Calls Try.prog 9 #[] u fun e w' => e = .returned (.bool true) ∧ Below u.heap.size u w') := tfixed_any
  have HQ : Hid (QT w #[.int .i64 f, .int .u32 s, .slice a n c] _) := QT.box w #[.int .i64 f, .int .u32 s, .slice a n c]
  have C1 : Hid (∀ u, Below w.heap.size w u → Calls Try.prog 10 #[.agg #[.int .i64 f, .int .u32 s, .slice a n c]] u fun e w' => WrT u (13 + n) (sealM (txT f s D)) e w') := fun u hu => write_yes f s a n c D u hm (h.old hu) hs
  have C2 : Hid (∀ u, Below w.heap.size w u → Calls Try.prog 11 #[.agg #[.int .i64 f, .int .u32 s, .slice a n c]] u fun e w' => WrT u (13 + n) (sealM (txT f s D)) e w') := fun u hu => rwrite_yes f s a n c D u hm (h.old hu) hs (by omega)
  have hl : (sealM (txT f s D)).length = 13 + n := by rw [show (sealM (txT f s D)).length = (txT f s D).length + 4 by unfold sealM; rw [List.length_append, octs_len], txT_len, h.1]; omega
  have HL : Hid ((sealM (txT f s D)).length = 13 + n) := hl
  generalize sealM (txT f s D) = L at *
  clear h hs hm hl
  go_enter Try.func3, Try.ntmps3
  go_wp2_with fail
  refine Calls.mono (HF.out _) ?_
  rintro e w1 ⟨rfl, b1⟩
  have HQ1 : Hid (QT w #[.int .i64 f, .int .u32 s, .slice a n c] w1) := HQ.out.old b1
  obtain ⟨d0, d1, d2⟩ := three_cells HQ1.out.2
  clear b1 HQ
  go_upto_region 6 with (go_at_call 10; refine Calls.mono (C1.out _ HQ1.out.1) ?_; rintro e w2 ⟨a2, c2, g2, rfl, s2, -, -, -, b2⟩)
  have HQ2 : Hid (QT w #[.int .i64 f, .int .u32 s, .slice a n c] w2) := HQ1.out.old b2
  have HS2 : Hid (Sl w2 5 (.slice a2 (13 + n) c2) g2 (vals L)) := s2
  obtain ⟨e0, e1, e2⟩ := three_cells HQ2.out.2
  clear b2 HQ1 d0 d1 d2 C1 s2
  go_upto_region 7 with (go_at_call 11; refine Calls.mono (C2.out _ HQ2.out.1) ?_; rintro e w3 ⟨a3, c3, g3, rfl, s3, -, -, -, b3⟩)
  have HB3 : Hid (Below w.heap.size w w3) := (HQ2.out.old b3).1
  have C3 : Hid _ := same_any a2 a3 (13 + n) c2 c3 L w3 HL.out ((HS2.out.same fun k hk => b3.block k (HS2.out.lt hk)).row rfl) (s3.row rfl)
  clear b3 HQ2 e0 e1 e2 C2 s3 HS2
  go_wp2_with (go_at_call 12; refine Calls.mono C3.out ?_; rintro e x ⟨rfl, hx⟩; have hx2 := hx.symm; clear hx; subst hx2)
  go_ret
  exact ⟨by simp, HB3.out⟩
theorem twrites_walk (f s : Int) (a : Option Addr) (n c : Nat) (D : List Int) (w : World) (h : BOk w a n c D ∧ 0 ≤ s ∧ s < 4294967296) : Calls Try.prog 3 #[.agg #[.int .i64 f, .int .u32 s, .slice a n c]] w fun e w' => e = .returned (.bool true) ∧ Below w.heap.size w w' := by
  by_cases hn : 3000 < (n : Int)
  · exact twrites_big f s a n c D w h.1 h.2 hn
  · cases hm : mayT f n
    · exact twrites_no f s a n c D w h.1 h.2 hn hm
    · exact twrites_yes f s a n c D w h.1 h.2 hn hm
end Go.Proofs.Ytinmkhdangknbaa
