/- The law on reading: its walk. -/
import Derived.Test.YtinmkhdangknbaaTkY
import Derived.Test.YtinmkhdangknbaaTkV
namespace Go.Proofs.Ytinmkhdangknbaa
open Go.RowKit
def oI (ok : Bool) (x : Int) : Int := if ok then x else 0
def oD (ok : Bool) (D : List Int) : List Int := if ok then D else []
def oE (ok : Bool) (er : Int) : Int := if ok then 0 else er
/-- What a Read comes to, as one value. -/
theorem pat_val {w w' : World} {ok : Bool} {er f s : Int} {D : List Int} {e : Ending} (h : PaT w ok er f s D e w') : ∃ a c, e = .returned (.tuple #[.agg #[.int .i64 (oI ok f), .int .u32 (oI ok s), .slice a (oD ok D).length c], .int .i64 (oE ok er)]) ∧ BOk w' a (oD ok D).length c (oD ok D) ∧ Below w.heap.size w w' := by
  obtain ⟨h1, h2, h3⟩ := h
  cases ok
  · exact ⟨none, 0, h2 rfl, nil_bok w', h1⟩
  · obtain ⟨a, c, e1, e2, _⟩ := h3 rfl
    exact ⟨a, c, e1, e2, h1⟩
/-- A token in its block. -/
structure TbI (wr : World) (B : Nat) (f s : Int) (a : Option Addr) (n c : Nat) (D : List Int) : Prop where
  tk : wr.heap[B]? = some (.cells #[.int .i64 f, .int .u32 s, .slice a n c] 25 (0, 0))
  ok : BOk wr a n c D
theorem TbI.old {wr w' : World} {B : Nat} {f s : Int} {a : Option Addr} {n c : Nat} {D : List Int} (h : TbI wr B f s a n c D) (b : Below wr.heap.size wr w') : TbI w' B f s a n c D := ⟨(b.block _ (lt_of_block h.tk)).trans h.tk, h.ok.old b⟩
theorem TbI.new {wr : World} {f s : Int} {a : Option Addr} {n c : Nat} {D : List Int} (h : BOk wr a n c D) : TbI (wr.alloc (.cells #[.int .i64 f, .int .u32 s, .slice a n c] 25)) wr.heap.size f s a n c D := ⟨heap_alloc_newT _ _, h.alloc _⟩
theorem rdE_ne (b : List Int) : rdE b ≠ 0 := by unfold rdE; split; omega; split <;> omega
theorem treads_big (a : Option Addr) (n c : Nat) (w : World) (hn : 3000 < (n : Int)) : Calls Try.prog 4 #[.slice a n c] w fun e w' => e = .returned (.bool true) ∧ Below w.heap.size w w' := by
  have HF : Hid _ := tfixed_any w
  go_enter Try.func4, Try.ntmps4
  go_wp2_with fail
  refine Calls.mono HF.out ?_
  rintro e w1 ⟨rfl, b1⟩
  go_wp2
  go_ret
  exact ⟨rfl, b1⟩
set_option maxHeartbeats 12800000 in
theorem treads_all (a : Option Addr) (n c : Nat) (A : List Int) (w : World) (h : BOk w a n c A) (hn : ¬ 3000 < (n : Int)) : Calls Try.prog 4 #[.slice a n c] w fun e w' => e = .returned (.bool true) ∧ Below w.heap.size w w' := by
  have HF : Hid _ := tfixed_any w
  have HA : Hid (BOk w a n c A) := h
  have hcm : c ≤ maxLen := by unfold maxLen; have := h.2.2.2.1; omega
  have R1 : Hid (∀ u, Below w.heap.size w u → Calls Try.prog 14 #[.slice a n c] u fun e w' => PaT u (rdOk A) (rdE A) (flT (tbT A)) (suT (tbT A)) (daT (tbT A)) e w') := fun u hu => read_any a n c A u h.1 h.2.2.2.2.1 (by omega) h.2.2.1 hcm h.2.1 (h.2.2.2.2.2.old hu)
  have R2 : Hid (∀ u, Below w.heap.size w u → Calls Try.prog 15 #[.slice a n c] u fun e w' => PaT u (rdOk A) (rdE A) (flT (tbT A)) (suT (tbT A)) (daT (tbT A)) e w') := fun u hu => rread_any a n c A u h.1 h.2.2.2.2.1 (by omega) h.2.2.1 hcm h.2.1 (h.2.2.2.2.2.old hu)
  have hz := rdE_ne (sealM A)
  have hl4 : (sealM A).length = n + 4 := by rw [seal_len, h.1]
  have HBk : Hid (rdOk (sealM A) = true → txT (flT (tbT (sealM A))) (suT (tbT (sealM A))) (daT (tbT (sealM A))) = A ∧ mayT (flT (tbT (sealM A))) (daT (tbT (sealM A))).length = true ∧ 0 ≤ suT (tbT (sealM A)) ∧ suT (tbT (sealM A)) < 4294967296) := fun hok => by
    unfold rdOk at hok
    simp only [Bool.and_eq_true, decide_eq_true_eq] at hok
    rw [seal_tb] at hok ⊢
    exact tx_back A h.2.1 (by have := hok.1.1; rw [hl4] at this; rw [h.1]; omega) hok.2
  have hdl : (daT (tbT (sealM A))).length ≤ 3000 := by rw [seal_tb]; unfold daT; rw [List.length_drop, h.1]; omega
  have hda : (daT (tbT A)).length ≤ 3000 := by unfold daT tbT; rw [List.length_drop, List.length_take, h.1]; omega
  obtain ⟨F1, hF1⟩ : ∃ x, oI (rdOk A) (flT (tbT A)) = x := ⟨_, rfl⟩
  obtain ⟨S1, hS1⟩ : ∃ x, oI (rdOk A) (suT (tbT A)) = x := ⟨_, rfl⟩
  obtain ⟨D1, hD1⟩ : ∃ x, oD (rdOk A) (daT (tbT A)) = x := ⟨_, rfl⟩
  obtain ⟨E1, hE1⟩ : ∃ x, oE (rdOk A) (rdE A) = x := ⟨_, rfl⟩
  obtain ⟨F2, hF2⟩ : ∃ x, oI (rdOk (sealM A)) (flT (tbT (sealM A))) = x := ⟨_, rfl⟩
  obtain ⟨S2, hS2⟩ : ∃ x, oI (rdOk (sealM A)) (suT (tbT (sealM A))) = x := ⟨_, rfl⟩
  obtain ⟨D2, hD2⟩ : ∃ x, oD (rdOk (sealM A)) (daT (tbT (sealM A))) = x := ⟨_, rfl⟩
  obtain ⟨E2, hE2⟩ : ∃ x, oE (rdOk (sealM A)) (rdE (sealM A)) = x := ⟨_, rfl⟩
  have Q1 : Hid (∀ u, Below w.heap.size w u → Calls Try.prog 14 #[.slice a n c] u fun e w' => ∃ a' c', e = .returned (.tuple #[.agg #[.int .i64 F1, .int .u32 S1, .slice a' D1.length c'], .int .i64 E1]) ∧ BOk w' a' D1.length c' D1 ∧ Below u.heap.size u w') := fun u hu => (R1.out u hu).mono fun e w' q => by have := pat_val q; rwa [hF1, hS1, hD1, hE1] at this
  have Q2 : Hid (∀ u, Below w.heap.size w u → Calls Try.prog 15 #[.slice a n c] u fun e w' => ∃ a' c', e = .returned (.tuple #[.agg #[.int .i64 F1, .int .u32 S1, .slice a' D1.length c'], .int .i64 E1]) ∧ BOk w' a' D1.length c' D1 ∧ Below u.heap.size u w') := fun u hu => (R2.out u hu).mono fun e w' q => by have := pat_val q; rwa [hF1, hS1, hD1, hE1] at this
  have Q3 : Hid (∀ u a3 c3, BOk u a3 (n + 4) c3 (sealM A) → Calls Try.prog 14 #[.slice a3 (n + 4) c3] u fun e w' => ∃ a' c', e = .returned (.tuple #[.agg #[.int .i64 F2, .int .u32 S2, .slice a' D2.length c'], .int .i64 E2]) ∧ BOk w' a' D2.length c' D2 ∧ Below u.heap.size u w') := fun u a3 c3 hu => (read_any a3 (n + 4) c3 (sealM A) u hu.1 hu.2.2.2.2.1 (by omega) hu.2.2.1 (by unfold maxLen; have := hu.2.2.2.1; omega) hu.2.1 hu.2.2.2.2.2).mono fun e w' q => by have := pat_val q; rwa [hF2, hS2, hD2, hE2] at this
  have Q4 : Hid (∀ u a3 c3, BOk u a3 (n + 4) c3 (sealM A) → Calls Try.prog 15 #[.slice a3 (n + 4) c3] u fun e w' => ∃ a' c', e = .returned (.tuple #[.agg #[.int .i64 F2, .int .u32 S2, .slice a' D2.length c'], .int .i64 E2]) ∧ BOk w' a' D2.length c' D2 ∧ Below u.heap.size u w') := fun u a3 c3 hu => (rread_any a3 (n + 4) c3 (sealM A) u hu.1 hu.2.2.2.2.1 (by omega) hu.2.2.1 (by unfold maxLen; have := hu.2.2.2.1; omega) hu.2.1 hu.2.2.2.2.2).mono fun e w' q => by have := pat_val q; rwa [hF2, hS2, hD2, hE2] at this
  have HOk : Hid (E2 = 0 → txT F2 S2 D2 = A ∧ mayT F2 D2.length = true ∧ 0 ≤ S2 ∧ S2 < 4294967296) := fun he => by
    cases hok : rdOk (sealM A)
    · rw [hok] at hE2
      unfold oE at hE2
      simp at hE2
      omega
    · rw [hok] at hF2 hS2 hD2
      unfold oI at hF2 hS2
      unfold oD at hD2
      simp at hF2 hS2 hD2
      rw [← hF2, ← hS2, ← hD2]
      exact HBk.out hok
  have HDl : Hid (D1.length ≤ 3000 ∧ D2.length ≤ 3000 ∧ (sealM A).length = n + 4) := by
    refine ⟨?_, ?_, hl4⟩
    · rw [← hD1]; unfold oD; split
      · exact hda
      · simp
    · rw [← hD2]; unfold oD; split
      · exact hdl
      · simp
  have hSe : Hid (∀ u, Below w.heap.size w u → Calls Try.prog 13 #[.slice a n c] u fun e w' => BPs u (n + 4) (sealM A) e w') := fun u hu => sealed_any a n c A u (h.old hu) (by omega)
  clear h hcm R1 R2 hz hl4 HBk hdl hda hF1 hS1 hD1 hE1 hF2 hS2 hD2 hE2
  obtain ⟨N1, hN1⟩ : ∃ x, D1.length = x := ⟨_, rfl⟩
  obtain ⟨N2, hN2⟩ : ∃ x, D2.length = x := ⟨_, rfl⟩
  rw [hN1] at Q1 Q2
  rw [hN2] at Q3 Q4 HOk
  have HN : Hid (D1.length = N1 ∧ D2.length = N2) := ⟨hN1, hN2⟩
  clear hN1 hN2
  go_enter Try.func4, Try.ntmps4
  go_upto_region 5 with (go_at_call 9; refine Calls.mono HF.out ?_; rintro e w1 ⟨rfl, b1⟩; have HB1 : Hid (Below w.heap.size w w1) := b1; clear b1 HF)
  go_upto_region 6 with (go_at_call 13; refine Calls.mono (hSe.out w1 HB1.out) ?_; rintro e w2 ⟨a3, c3, g3, rfl, s3, l3, y3, -, b2⟩)
  have HZ2 : Hid (BOk w2 a3 (n + 4) c3 (sealM A)) := s3.bok l3 y3 (by omega)
  have HB2 : Hid (Below w.heap.size w w2) := HB1.out.trans (b2.mono HB1.out.size)
  clear s3 l3 y3 b2 hSe HB1
  go_upto_region 7 with (go_at_call 14; refine Calls.mono (Q1.out w2 HB2.out) ?_; rintro e x2 ⟨p2, q2, rfl, ok2, b2⟩)
  obtain ⟨w3, hw3⟩ : ∃ u, x2.alloc (.cells #[.int .i64 F1, .int .u32 S1, .slice p2 N1 q2] 25) = u := ⟨_, rfl⟩
  have bb2 : Below w2.heap.size w2 w3 := by rw [← hw3]; exact b2.trans ((below_allocQ x2 _).mono b2.size)
  have HT2 : Hid (TbI w3 x2.heap.size F1 S1 p2 N1 q2 D1) := by show TbI _ _ _ _ _ _ _ _; rw [← hw3]; exact TbI.new ok2
  have HB3 : Hid (Below w.heap.size w w3) := HB2.out.trans (bb2.mono HB2.out.size)
  have HZ3 : Hid (BOk w3 a3 (n + 4) c3 (sealM A)) := HZ2.out.old bb2
  try rw [hw3]
  clear b2 ok2 bb2 hw3 HB2 HZ2
  go_upto_region 8 with (go_at_call 15; refine Calls.mono (Q2.out w3 HB3.out) ?_; rintro e x3 ⟨p3, q3, rfl, ok3, b3⟩)
  obtain ⟨w4, hw4⟩ : ∃ u, x3.alloc (.cells #[.int .i64 F1, .int .u32 S1, .slice p3 N1 q3] 25) = u := ⟨_, rfl⟩
  have bb3 : Below w3.heap.size w3 w4 := by rw [← hw4]; exact b3.trans ((below_allocQ x3 _).mono b3.size)
  have HT3 : Hid (TbI w4 x3.heap.size F1 S1 p3 N1 q3 D1) := by show TbI _ _ _ _ _ _ _ _; rw [← hw4]; exact TbI.new ok3
  have HB4 : Hid (Below w.heap.size w w4) := HB3.out.trans (bb3.mono HB3.out.size)
  have HZ4 : Hid (BOk w4 a3 (n + 4) c3 (sealM A)) := HZ3.out.old bb3
  replace HT2 : Hid _ := HT2.out.old bb3
  try rw [hw4]
  clear b3 ok3 bb3 hw4 HB3 HZ3
  go_upto_region 9 with (go_at_call 14; refine Calls.mono (Q3.out w4 a3 c3 HZ4.out) ?_; rintro e x4 ⟨p4, q4, rfl, ok4, b4⟩)
  obtain ⟨w5, hw5⟩ : ∃ u, x4.alloc (.cells #[.int .i64 F2, .int .u32 S2, .slice p4 N2 q4] 25) = u := ⟨_, rfl⟩
  have bb4 : Below w4.heap.size w4 w5 := by rw [← hw5]; exact b4.trans ((below_allocQ x4 _).mono b4.size)
  have HT4 : Hid (TbI w5 x4.heap.size F2 S2 p4 N2 q4 D2) := by show TbI _ _ _ _ _ _ _ _; rw [← hw5]; exact TbI.new ok4
  have HB5 : Hid (Below w.heap.size w w5) := HB4.out.trans (bb4.mono HB4.out.size)
  have HZ5 : Hid (BOk w5 a3 (n + 4) c3 (sealM A)) := HZ4.out.old bb4
  replace HT2 : Hid _ := HT2.out.old bb4
  replace HT3 : Hid _ := HT3.out.old bb4
  try rw [hw5]
  clear b4 ok4 bb4 hw5 HB4 HZ4
  go_upto_region 10 with (go_at_call 15; refine Calls.mono (Q4.out w5 a3 c3 HZ5.out) ?_; rintro e x5 ⟨p5, q5, rfl, ok5, b5⟩)
  obtain ⟨w6, hw6⟩ : ∃ u, x5.alloc (.cells #[.int .i64 F2, .int .u32 S2, .slice p5 N2 q5] 25) = u := ⟨_, rfl⟩
  have bb5 : Below w5.heap.size w5 w6 := by rw [← hw6]; exact b5.trans ((below_allocQ x5 _).mono b5.size)
  have HT5 : Hid (TbI w6 x5.heap.size F2 S2 p5 N2 q5 D2) := by show TbI _ _ _ _ _ _ _ _; rw [← hw6]; exact TbI.new ok5
  have HB6 : Hid (Below w.heap.size w w6) := HB5.out.trans (bb5.mono HB5.out.size)
  have HZ6 : Hid (BOk w6 a3 (n + 4) c3 (sealM A)) := HZ5.out.old bb5
  replace HT2 : Hid _ := HT2.out.old bb5
  replace HT3 : Hid _ := HT3.out.old bb5
  replace HT4 : Hid _ := HT4.out.old bb5
  try rw [hw6]
  clear b5 ok5 bb5 hw6 HB5 HZ5
  obtain ⟨d0, d1, d2⟩ := three_cells HT2.out.tk
  obtain ⟨e0, e1, e2⟩ := three_cells HT3.out.tk
  have C1 : Hid _ := rsame_tok F1 S1 p2 p3 N1 q2 q3 D1 w6 HN.out.1 HT2.out.ok.2.2.2.2.2 HT3.out.ok.2.2.2.2.2
  have hne1 : (E1 != E1) = false := by simp
  have hne2 : (E2 != E2) = false := by simp
  clear Q1 Q2 Q3 Q4
  go_upto_region 12 with (first
    | (go_at_call 16; refine Calls.mono C1.out ?_; rintro e w7 ⟨rfl, b7⟩; replace HT4 : Hid _ := HT4.out.old b7; replace HT5 : Hid _ := HT5.out.old b7; have HB7 : Hid (Below w.heap.size w w7) := HB6.out.trans (b7.mono HB6.out.size); have HZ7 : Hid (BOk w7 a3 (n + 4) c3 (sealM A)) := HZ6.out.old b7; obtain ⟨f0, f1, f2⟩ := three_cells HT4.out.tk; obtain ⟨g0, g1, g2⟩ := three_cells HT5.out.tk; clear b7 C1 d0 d1 d2 e0 e1 e2)
    | (go_at_call 16; refine Calls.mono (rsame_tok F2 S2 p4 p5 N2 q4 q5 D2 w7 HN.out.2 HT4.out.ok.2.2.2.2.2 HT5.out.ok.2.2.2.2.2) ?_; rintro e w8 ⟨rfl, b8⟩; have HT6 : Hid _ := HT4.out.old b8; have HB8 : Hid (Below w.heap.size w w8) := HB7.out.trans (b8.mono HB7.out.size); have HZ8 : Hid (BOk w8 a3 (n + 4) c3 (sealM A)) := HZ7.out.old b8; clear b8 f0 f1 f2 g0 g1 g2))
  obtain ⟨f0, f1, f2⟩ := three_cells HT6.out.tk
  by_cases hE : E2 = 0
  · subst hE
    obtain ⟨k1, k2, k3⟩ := HOk.out rfl
    have C9 : Hid (Calls Try.prog 10 #[.agg #[.int .i64 F2, .int .u32 S2, .slice p4 N2 q4]] w8 fun e w' => WrT w8 (13 + N2) (sealM A) e w') := by
      have := write_yes F2 S2 p4 N2 q4 D2 w8 k2 HT6.out.ok k3
      rwa [k1] at this
    have hNn : 13 + N2 = n + 4 := by
      have h1 := txT_len F2 S2 D2
      rw [k1, HN.out.2, HA.out.1] at h1
      omega
    rw [hNn] at C9
    clear k1 k2 k3 HOk hNn
    go_upto_region 15 with (go_at_call 10; refine Calls.mono C9.out ?_; rintro e w9 ⟨a9, c9, g9, rfl, s9, l9, -, -, b9⟩)
    have HB9 : Hid (Below w.heap.size w w9) := HB8.out.trans (b9.mono HB8.out.size)
    have CS : Hid _ := same_any a9 a3 (n + 4) c9 c3 (sealM A) w9 l9 (s9.row rfl) (HZ8.out.old b9).2.2.2.2.2
    clear s9 l9 b9 C9 f0 f1 f2
    go_wp2_with (go_at_call 12; refine Calls.mono CS.out ?_; rintro e x ⟨rfl, hx⟩; have hx2 := hx.symm; clear hx; subst hx2)
    go_ret
    exact ⟨by simp, HB9.out⟩
  · have hE3 : (E2 != 0) = true := by simpa using hE
    go_wp2
    go_ret
    exact ⟨rfl, HB8.out⟩
theorem treads_walk (a : Option Addr) (n c : Nat) (w : World) (h : BArg w a n c) : Calls Try.prog 4 #[.slice a n c] w fun e w' => e = .returned (.bool true) ∧ Below w.heap.size w w' := by
  obtain ⟨A, hA⟩ := h.bok
  by_cases hn : 3000 < (n : Int)
  · exact treads_big a n c w hn
  · exact treads_all a n c A w hA hn
end Go.Proofs.Ytinmkhdangknbaa
