/- Same tokens; the law on what is written and read back: its walk. -/
import Derived.Test.YtinmkhdangknbaaTkO
import Derived.Test.YtinmkhdangknbaaTrB
namespace Go.Proofs.Ytinmkhdangknbaa
open Go.RowKit Go.ChangeShapes Go.WideShapes
/-- The blocks of two boxed tokens. -/
def QS (w : World) (c1 c2 : Array Value) (w' : World) : Prop := Below w.heap.size w w' ∧ w'.heap[w.heap.size]? = some (.cells c1 25 (0, 0)) ∧ w'.heap[w.heap.size + 1]? = some (.cells c2 25 (0, 0))
theorem QS.box (w : World) (c1 c2 : Array Value) : QS w c1 c2 ((w.alloc (.cells c1 25)).alloc (.cells c2 25)) := by
  refine ⟨((Below.refl _ w).alloc (Nat.le_refl _) _).alloc (by simp) _, ?_, ?_⟩
  · rw [Below.heap_alloc _ _ _ (by simp)]; exact heap_alloc_newT w _
  · have := heap_alloc_newT (w.alloc (.cells c1 25)) (.cells c2 25)
    simpa using this
set_option maxHeartbeats 1600000 in
theorem rsame_tok (f s : Int) (a b : Option Addr) (n ca cb : Nat) (D : List Int) (w : World) (hd : D.length = n) (r1 : Row w a D) (r2 : Row w b D) : Calls Try.prog 16 #[.agg #[.int .i64 f, .int .u32 s, .slice a n ca], .agg #[.int .i64 f, .int .u32 s, .slice b n cb]] w fun e w' => e = .returned (.bool true) ∧ Below w.heap.size w w' := by
  have HQ : Hid (QS w #[.int .i64 f, .int .u32 s, .slice a n ca] #[.int .i64 f, .int .u32 s, .slice b n cb] _) := QS.box w #[.int .i64 f, .int .u32 s, .slice a n ca] #[.int .i64 f, .int .u32 s, .slice b n cb]
  have c1 := conv_row (c := ca) hd (r1.old HQ.out.1)
  have c2 := conv_row (c := cb) hd (r2.old HQ.out.1)
  generalize strOfNums D = st at *
  clear hd r1 r2
  obtain ⟨w2, hw2⟩ : ∃ w2, (w.alloc (.cells #[.int .i64 f, .int .u32 s, .slice a n ca] 25)).alloc (.cells #[.int .i64 f, .int .u32 s, .slice b n cb] 25) = w2 := ⟨_, rfl⟩
  rw [hw2] at HQ c1 c2
  go_enter Try.func16, Try.ntmps16
  go_upto_region 1 with fail
  clear hw2
  obtain ⟨fa0, fa1, fa2⟩ := three_cells HQ.out.2.1
  obtain ⟨fb0, fb1, fb2⟩ := three_cells HQ.out.2.2
  go_wp2
  go_ret
  exact ⟨by simp, HQ.out.1⟩
/-- A sealed text of which some bits are turned is none. -/
theorem turned_rd (A : List Int) (hA : Bytes A) (h9 : 9 ≤ A.length) (k : Nat) (f : Nat → Int) (hne : sealM A ≠ turnB (sealM A) k f) : rdOk (turnB (sealM A) k f) = false ∧ rdE (turnB (sealM A) k f) = 4 := by
  have hl := seal_len A
  have hs : crcM (BitVec.ofNat 32 0) A = wd (litN (octs ((crcM (BitVec.ofNat 32 0) A).toNat : Int) 4)) := by
    rw [lit_octs _ 4 (by omega) (by omega) (by have := (crcM (BitVec.ofNat 32 0) A).isLt; simp; omega)]
    exact (ofInt_toNat _).symm
  have h := sealed_ne A (octs ((crcM (BitVec.ofNat 32 0) A).toNat : Int) 4) hA (octs_byte _ _) (octs_len _ _) hs k f hne
  have e : A ++ octs ((crcM (BitVec.ofNat 32 0) A).toNat : Int) 4 = sealM A := rfl
  rw [e] at h
  have hT : (turnB (sealM A) k f).length = A.length + 4 := by rw [turnB_len, hl]
  have hx : ¬ smT (turnB (sealM A) k f) = crT (turnB (sealM A) k f) := by
    unfold smT crT tbT
    rw [hT, show A.length + 4 - 4 = A.length by omega]
    exact fun q => h q.symm
  unfold rdOk rdE
  rw [decide_eq_false hx, if_neg hx, hT, if_neg (by omega)]
  simp
theorem tback_big (f s : Int) (a : Option Addr) (n c : Nat) (D : List Int) (p z : Int) (w : World) (_h : BOk w a n c D) (_hs : 0 ≤ s ∧ s < 4294967296) (_hp : 0 ≤ p ∧ p < 65536) (_hz : 0 ≤ z ∧ z < 4294967296) (hn : 2000 < (n : Int)) : Calls Try.prog 5 #[.agg #[.int .i64 f, .int .u32 s, .slice a n c], .int .u16 p, .int .u32 z] w fun e w' => e = .returned (.bool true) ∧ Below w.heap.size w w' := by
  have HF : Hid (∀ u, Calls Try.prog 9 #[] u fun e w' => e = .returned (.bool true) ∧ Below u.heap.size u w') := tfixed_any
  have HQ : Hid (QT w #[.int .i64 f, .int .u32 s, .slice a n c] _) := QT.box w #[.int .i64 f, .int .u32 s, .slice a n c]
  go_enter Try.func5, Try.ntmps5
  go_wp2_with fail
  refine Calls.mono (HF.out _) ?_
  rintro e w1 ⟨rfl, b1⟩
  have HQ1 : Hid (QT w #[.int .i64 f, .int .u32 s, .slice a n c] w1) := HQ.out.old b1
  obtain ⟨d0, d1, d2⟩ := three_cells HQ1.out.2
  clear b1 HQ
  go_wp2
  go_ret
  exact ⟨rfl, HQ1.out.1⟩
theorem tback_no (f s : Int) (a : Option Addr) (n c : Nat) (D : List Int) (p z : Int) (w : World) (_h : BOk w a n c D) (_hs : 0 ≤ s ∧ s < 4294967296) (_hp : 0 ≤ p ∧ p < 65536) (_hz : 0 ≤ z ∧ z < 4294967296) (hn : ¬ 2000 < (n : Int)) (hm : mayT f n = false) : Calls Try.prog 5 #[.agg #[.int .i64 f, .int .u32 s, .slice a n c], .int .u16 p, .int .u32 z] w fun e w' => e = .returned (.bool true) ∧ Below w.heap.size w w' := by
  have HF : Hid (∀ u, Calls Try.prog 9 #[] u fun e w' => e = .returned (.bool true) ∧ Below u.heap.size u w') := tfixed_any
  have HQ : Hid (QT w #[.int .i64 f, .int .u32 s, .slice a n c] _) := QT.box w #[.int .i64 f, .int .u32 s, .slice a n c]
  have C1 : Hid (∀ u, Calls Try.prog 10 #[.agg #[.int .i64 f, .int .u32 s, .slice a n c]] u fun e w' => e = .returned (.tuple #[.slice none 0 0, .int .i64 1]) ∧ Below u.heap.size u w') := fun u => write_no f s a n c u hm
  clear hm
  go_enter Try.func5, Try.ntmps5
  go_wp2_with fail
  refine Calls.mono (HF.out _) ?_
  rintro e w1 ⟨rfl, b1⟩
  have HQ1 : Hid (QT w #[.int .i64 f, .int .u32 s, .slice a n c] w1) := HQ.out.old b1
  obtain ⟨d0, d1, d2⟩ := three_cells HQ1.out.2
  clear b1 HQ
  go_wp2_with fail
  refine Calls.mono (C1.out _) ?_
  rintro e w2 ⟨rfl, b2⟩
  have HQ2 : Hid (QT w #[.int .i64 f, .int .u32 s, .slice a n c] w2) := HQ1.out.old b2
  clear b2 HQ1 d0 d1 d2 C1
  go_wp2
  go_ret
  exact ⟨rfl, HQ2.out.1⟩
set_option maxHeartbeats 12800000 in
theorem tback_yes (f s : Int) (a : Option Addr) (n c : Nat) (D : List Int) (p z : Int) (w : World) (h : BOk w a n c D) (hs : 0 ≤ s ∧ s < 4294967296) (hp : 0 ≤ p ∧ p < 65536) (hz : 0 ≤ z ∧ z < 4294967296) (hn : ¬ 2000 < (n : Int)) (hm : mayT f n = true) : Calls Try.prog 5 #[.agg #[.int .i64 f, .int .u32 s, .slice a n c], .int .u16 p, .int .u32 z] w fun e w' => e = .returned (.bool true) ∧ Below w.heap.size w w' := by
  have HF : Hid (∀ u, Calls Try.prog 9 #[] u fun e w' => e = .returned (.bool true) ∧ Below u.heap.size u w') := tfixed_any
  have HQ : Hid (QT w #[.int .i64 f, .int .u32 s, .slice a n c] _) := QT.box w #[.int .i64 f, .int .u32 s, .slice a n c]
  have C1 : Hid (∀ u, Below w.heap.size w u → Calls Try.prog 10 #[.agg #[.int .i64 f, .int .u32 s, .slice a n c]] u fun e w' => WrT u (13 + n) (sealM (txT f s D)) e w') := fun u hu => write_yes f s a n c D u hm (h.old hu) hs
  have HD : Hid (BOk w a n c D) := h
  obtain ⟨A, hAe⟩ : ∃ A, txT f s D = A := ⟨_, rfl⟩
  have hbk := back_tx f s D (by rw [h.1]; exact hm) hs
  have hal : A.length = 9 + n := by rw [← hAe, txT_len, h.1]
  have hab : Bytes A := by rw [← hAe]; exact txT_byte f s h.2.1
  rw [hAe] at C1 hbk
  have HBk : Hid (flT A = f ∧ suT A = s ∧ daT A = D ∧ okT A = true) := hbk
  have HA : Hid (A.length = 9 + n ∧ Bytes A) := ⟨hal, hab⟩
  obtain ⟨p1, p2⟩ := hp
  obtain ⟨z1, z2⟩ := hz
  clear hm hs h hAe hbk hal hab
  go_enter Try.func5, Try.ntmps5
  go_wp2_with fail
  refine Calls.mono (HF.out _) ?_
  rintro e w1 ⟨rfl, b1⟩
  have HQ1 : Hid (QT w #[.int .i64 f, .int .u32 s, .slice a n c] w1) := HQ.out.old b1
  obtain ⟨d0, d1, d2⟩ := three_cells HQ1.out.2
  clear b1 HQ
  go_upto_region 6 with (go_at_call 10; refine Calls.mono (C1.out _ HQ1.out.1) ?_; rintro e w2 ⟨a2, c2, g2, rfl, s2, l2, y2, -, b2⟩)
  have HQ2 : Hid (QT w #[.int .i64 f, .int .u32 s, .slice a n c] w2) := HQ1.out.old b2
  obtain ⟨a', c', e, q1, q2, q3⟩ := s2.shape
  simp at e
  obtain ⟨rfl, -, rfl⟩ := e
  rw [vals_len, l2] at q1
  have HR2 : Hid (Row w2 a2 (sealM A)) := s2.row rfl
  have HL : Hid ((sealM A).length = 13 + n ∧ Bytes (sealM A)) := ⟨l2, y2⟩
  have CR1 : Hid _ := read_any a2 (13 + n) c2 (sealM A) w2 l2 q3 (by omega) q1 q2 y2 HR2.out
  obtain ⟨N, hN⟩ : ∃ N, 13 + n = N := ⟨_, rfl⟩
  rw [hN] at HL q1 CR1
  try rw [hN]
  have hN9 : 13 ≤ N := by omega
  have hNm : N ≤ 2013 := by omega
  obtain ⟨K, hK, hK2⟩ : ∃ K : Nat, p % (8 * (N : Int)) = (K : Int) ∧ K ≤ 100000 := by
    have := Int.emod_nonneg p (show (8 * (N : Int)) ≠ 0 by omega)
    have := Int.emod_lt_of_pos p (show (0 : Int) < 8 * (N : Int) by omega)
    exact ⟨(p % (8 * (N : Int))).toNat, by omega, by omega⟩
  have hNi : (13 : Int) ≤ (N : Int) := by omega
  have hNj : (N : Int) ≤ 2013 := by omega
  have hno : ((N : Int) == 0) = false := by simp; omega
  clear b2 s2 l2 y2 C1 HQ1 d0 d1 d2 hN
  go_upto_region 8 with fail
  go_upto_region 9 with (go_at_call 14; refine Calls.mono CR1.out ?_; rintro e w3 ⟨b3, -, h3⟩; obtain ⟨ra, rc, rfl, ok3, -⟩ := h3 (seal_ok A (by have := HA.out.1; omega) HBk.out.2.2.2); have hx := HBk.out; rw [seal_tb, hx.1, hx.2.1, hx.2.2.1, HD.out.1]; rw [seal_tb, hx.2.2.1, HD.out.1] at ok3; clear h3 hx)
  have hA3 : Below w3.heap.size w3 (w3.alloc (.cells #[.int .i64 f, .int .u32 s, .slice ra n rc] 25)) := (Below.refl _ _).alloc (Nat.le_refl _) _
  obtain ⟨w4, hw4⟩ : ∃ w4, w3.alloc (.cells #[.int .i64 f, .int .u32 s, .slice ra n rc] 25) = w4 := ⟨_, rfl⟩
  have hX4 := heap_alloc_newT w3 (.cells #[.int .i64 f, .int .u32 s, .slice ra n rc] 25)
  rw [hw4] at hA3 hX4
  try rw [hw4]
  have HQ4 : Hid (QT w #[.int .i64 f, .int .u32 s, .slice a n c] w4) := (HQ2.out.old b3).old hA3
  have HX4 : Hid (w4.heap[w3.heap.size]? = some (.cells #[.int .i64 f, .int .u32 s, .slice ra n rc] 25 (0, 0)) ∧ Row w4 ra D) := ⟨hX4, (ok3.old hA3).2.2.2.2.2⟩
  have HR4 : Hid (Row w4 a2 (sealM A)) := (HR2.out.old b3).old hA3
  have CT := turned_any a2 N c2 K (wd z) (sealM A) w4 HL.out.1 (by omega) hK2 HL.out.2 HR4.out
  rw [wd_toNat z z1 z2] at CT
  have hTl := turnB_len (sealM A) K (wbit (wd z))
  have hTb := turnB_bytes (sealM A) K (wbit (wd z))
  have HTd : Hid (sealM A ≠ turnB (sealM A) K (wbit (wd z)) → rdOk (turnB (sealM A) K (wbit (wd z))) = false ∧ rdE (turnB (sealM A) K (wbit (wd z))) = 4) := fun h => turned_rd A HA.out.2 (by have := HA.out.1; omega) K _ h
  have HSo : Hid (rdOk (sealM A) = true) := seal_ok A (by have := HA.out.1; omega) HBk.out.2.2.2
  obtain ⟨Z, hZ⟩ : ∃ Z, sealM A = Z := ⟨_, rfl⟩
  rw [hZ] at HL HR4 CT hTl hTb HTd HSo
  generalize turnB Z K (wbit (wd z)) = Y at *
  have HY : Hid (Y.length = N ∧ Bytes Y) := ⟨hTl.trans HL.out.1, hTb⟩
  have HCT : Hid (Calls Try.prog 17 #[.slice a2 N c2, .int .i64 (K : Int), .int .u32 z] w4 fun e w' => NewBytes w4 Y e w') := CT
  clear hZ CT hTl hTb hK2 b3 ok3 hA3 hX4 hw4 CR1 HR2 HQ2
  go_wp2_with fail
  refine Calls.mono HCT.out ?_
  rintro e w5 ⟨aY, cY, rfl, y1, y2, y3, y4, y5⟩
  rw [HY.out.1] at y1 ⊢
  have CR := read_any aY N cY Y w5 HY.out.1 y3 (by omega) y1 y2 HY.out.2 y4
  have HRY : Hid (Row w5 aY Y) := y4
  have HRZ : Hid (Row w5 a2 Z) := HR4.out.old y5
  have HQ5 : Hid (QT w #[.int .i64 f, .int .u32 s, .slice a n c] w5) := HQ4.out.old y5
  have HX5 : Hid (w5.heap[w3.heap.size]? = some (.cells #[.int .i64 f, .int .u32 s, .slice ra n rc] 25 (0, 0)) ∧ Row w5 ra D) := ⟨(y5.block _ (lt_of_block HX4.out.1)).trans HX4.out.1, HX4.out.2.old y5⟩
  have HCR : Hid (Calls Try.prog 14 #[.slice aY N cY] w5 fun e w' => PaT w5 (rdOk Y) (rdE Y) (flT (tbT Y)) (suT (tbT Y)) (daT (tbT Y)) e w') := CR
  clear HCT y1 y2 y3 y4 y5 CR HR4 HQ4 HX4
  go_wp2_with fail
  refine Calls.mono HCR.out ?_
  rintro e w6 ⟨b6, h1, h2⟩
  have HQ6 : Hid (QT w #[.int .i64 f, .int .u32 s, .slice a n c] w6) := HQ5.out.old b6
  have HX6 : Hid (w6.heap[w3.heap.size]? = some (.cells #[.int .i64 f, .int .u32 s, .slice ra n rc] 25 (0, 0)) ∧ Row w6 ra D) := ⟨(b6.block _ (lt_of_block HX5.out.1)).trans HX5.out.1, HX5.out.2.old b6⟩
  have HZ6 : Hid (Row w6 a2 Z ∧ Row w6 aY Y) := ⟨HRZ.out.old b6, HRY.out.old b6⟩
  clear b6 HQ5 HX5 HRZ HRY HCR
  by_cases hZY : Z = Y
  · subst hZY
    obtain ⟨rb, rd, rfl, -⟩ := h2 HSo.out
    generalize (daT (tbT Z)).length = N2 at *
    generalize flT (tbT Z) = F2 at *
    generalize suT (tbT Z) = S2 at *
    have hA7 : Below w6.heap.size w6 (w6.alloc (.cells #[.int .i64 F2, .int .u32 S2, .slice rb N2 rd] 25)) := (Below.refl _ _).alloc (Nat.le_refl _) _
    have HQ7 : Hid (QT w #[.int .i64 f, .int .u32 s, .slice a n c] (w6.alloc (.cells #[.int .i64 F2, .int .u32 S2, .slice rb N2 rd] 25))) := HQ6.out.old hA7
    have HX7 : Hid ((w6.alloc (.cells #[.int .i64 F2, .int .u32 S2, .slice rb N2 rd] 25)).heap[w3.heap.size]? = some (.cells #[.int .i64 f, .int .u32 s, .slice ra n rc] 25 (0, 0)) ∧ Row (w6.alloc (.cells #[.int .i64 F2, .int .u32 S2, .slice rb N2 rd] 25)) ra D) := ⟨(hA7.block _ (lt_of_block HX6.out.1)).trans HX6.out.1, HX6.out.2.old hA7⟩
    have HZ7 : Hid (Row (w6.alloc (.cells #[.int .i64 F2, .int .u32 S2, .slice rb N2 rd] 25)) a2 Z ∧ Row (w6.alloc (.cells #[.int .i64 F2, .int .u32 S2, .slice rb N2 rd] 25)) aY Z) := ⟨HZ6.out.1.old hA7, HZ6.out.2.old hA7⟩
    clear hA7 HQ6 HX6 HZ6 h1 h2 HTd
    go_upto_region 11 with fail
    obtain ⟨w7, hw7⟩ : ∃ w7, w6.alloc (.cells #[.int .i64 F2, .int .u32 S2, .slice rb N2 rd] 25) = w7 := ⟨_, rfl⟩
    rw [hw7] at HQ7 HX7 HZ7
    try rw [hw7]
    clear hw7
    obtain ⟨k0, k1, k2⟩ := three_cells HX7.out.1
    obtain ⟨m0, m1, m2⟩ := three_cells HQ7.out.2
    have CS : Hid _ := rsame_tok f s ra a n rc c D w7 HD.out.1 HX7.out.2 (HD.out.old HQ7.out.1).2.2.2.2.2
    have CB : Hid (∀ u, Below w7.heap.size w7 u → Calls Try.prog 12 #[.slice a2 N c2, .slice aY N cY] u fun e w' => e = .returned (.bool true) ∧ w' = u) := fun u hu => same_any a2 aY N c2 cY Z u HL.out.1 (HZ7.out.1.old hu) (HZ7.out.2.old hu)
    go_wp2_with (first
      | (go_at_call 16; refine Calls.mono CS.out ?_; rintro e w8 ⟨rfl, b8⟩; have HB8 : Hid (Below w7.heap.size w7 w8) := b8; clear b8)
      | (go_at_call 12; refine Calls.mono (CB.out _ HB8.out) ?_; rintro e x ⟨rfl, hx⟩; have hx2 := hx.symm; clear hx; subst hx2))
    go_ret
    exact ⟨by simp, HQ7.out.1.trans (HB8.out.mono HQ7.out.1.size)⟩
  · obtain ⟨e1, e2⟩ := HTd.out hZY
    obtain rfl := h1 e1
    rw [e2]
    have hA7 : Below w6.heap.size w6 (w6.alloc (.cells #[.int .i64 0, .int .u32 0, .slice none 0 0] 25)) := (Below.refl _ _).alloc (Nat.le_refl _) _
    have HQ7 : Hid (QT w #[.int .i64 f, .int .u32 s, .slice a n c] (w6.alloc (.cells #[.int .i64 0, .int .u32 0, .slice none 0 0] 25))) := HQ6.out.old hA7
    have HX7 : Hid ((w6.alloc (.cells #[.int .i64 0, .int .u32 0, .slice none 0 0] 25)).heap[w3.heap.size]? = some (.cells #[.int .i64 f, .int .u32 s, .slice ra n rc] 25 (0, 0)) ∧ Row (w6.alloc (.cells #[.int .i64 0, .int .u32 0, .slice none 0 0] 25)) ra D) := ⟨(hA7.block _ (lt_of_block HX6.out.1)).trans HX6.out.1, HX6.out.2.old hA7⟩
    have HZ7 : Hid (Row (w6.alloc (.cells #[.int .i64 0, .int .u32 0, .slice none 0 0] 25)) a2 Z ∧ Row (w6.alloc (.cells #[.int .i64 0, .int .u32 0, .slice none 0 0] 25)) aY Y) := ⟨HZ6.out.1.old hA7, HZ6.out.2.old hA7⟩
    clear hA7 HQ6 HX6 HZ6 h1 h2 HTd e1 e2
    go_upto_region 11 with fail
    obtain ⟨w7, hw7⟩ : ∃ w7, w6.alloc (.cells #[.int .i64 0, .int .u32 0, .slice none 0 0] 25) = w7 := ⟨_, rfl⟩
    rw [hw7] at HQ7 HX7 HZ7
    try rw [hw7]
    clear hw7
    obtain ⟨k0, k1, k2⟩ := three_cells HX7.out.1
    obtain ⟨m0, m1, m2⟩ := three_cells HQ7.out.2
    have CS : Hid _ := rsame_tok f s ra a n rc c D w7 HD.out.1 HX7.out.2 (HD.out.old HQ7.out.1).2.2.2.2.2
    have CB : Hid (∀ u, Below w7.heap.size w7 u → Calls Try.prog 12 #[.slice a2 N c2, .slice aY N cY] u fun e w' => e = .returned (.bool false) ∧ w' = u) := fun u hu => unlike_any a2 aY N c2 cY Z Y u HL.out.1 HY.out.1 HL.out.2 HY.out.2 (HZ7.out.1.old hu) (HZ7.out.2.old hu) hZY
    go_wp2_with (first
      | (go_at_call 16; refine Calls.mono CS.out ?_; rintro e w8 ⟨rfl, b8⟩; have HB8 : Hid (Below w7.heap.size w7 w8) := b8; clear b8)
      | (go_at_call 12; refine Calls.mono (CB.out _ HB8.out) ?_; rintro e x ⟨rfl, hx⟩; have hx2 := hx.symm; clear hx; subst hx2))
    go_ret
    exact ⟨by simp, HQ7.out.1.trans (HB8.out.mono HQ7.out.1.size)⟩
theorem tback_walk (f s : Int) (a : Option Addr) (n c : Nat) (D : List Int) (p z : Int) (w : World) (h : BOk w a n c D ∧ 0 ≤ s ∧ s < 4294967296) (wp : (Lit.int .u16 p).wf = true) (wz : (Lit.int .u32 z).wf = true) : Calls Try.prog 5 #[.agg #[.int .i64 f, .int .u32 s, .slice a n c], .int .u16 p, .int .u32 z] w fun e w' => e = .returned (.bool true) ∧ Below w.heap.size w w' := by
  have hp := bounds_u16 wp
  have hz := bounds_u32 wz
  by_cases hn : 2000 < (n : Int)
  · exact tback_big f s a n c D p z w h.1 h.2 (by omega) (by omega) hn
  · cases hm : mayT f n
    · exact tback_no f s a n c D p z w h.1 h.2 (by omega) (by omega) hn hm
    · exact tback_yes f s a n c D p z w h.1 h.2 (by omega) (by omega) hn hm
end Go.Proofs.Ytinmkhdangknbaa
