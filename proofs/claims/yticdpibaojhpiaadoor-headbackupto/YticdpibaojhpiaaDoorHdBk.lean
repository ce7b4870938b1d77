/- What is read is written as it was: numbers; the law HeadBack, walked. -/
import Derived.Test.YticdpibaojhpiaaDoorHdS
import Derived.Test.YticdpibaojhpiaaDoorHdU
import Derived.Test.YticdpibaojhpiaaDoorHdL
import Derived.Test.YticdpibaojhpiaaDoorHdZ
namespace Go.Proofs.YticdpibaojhpiaaDoor
open Go.RowKit
theorem octs_cons (v : Int) (n : Nat) : octs v (n + 1) = (v % 256) :: octs (v / 256) n := by
  unfold octs
  rw [List.range_succ_eq_map, List.map_cons, List.map_map]
  congr 1
  · simp [oct]
  · apply List.map_congr_left
    intro i _
    simp only [Function.comp, oct]
    rw [Int.pow_succ, Int.mul_comm (256 ^ i) 256, Int.ediv_ediv_of_nonneg (by omega)]
theorem octs_bigN : ∀ (l : List Int), Bytes l → (octs (bigN l.reverse) l.length).reverse = l.reverse
  | [], _ => rfl
  | x :: r, h => by
    have hx := h x (by simp)
    have ih := octs_bigN r (fun z hz => h z (by simp [hz]))
    rw [List.reverse_cons, bigN_snoc, List.length_cons, octs_cons, List.reverse_cons]
    have e1 : (bigN r.reverse * 256 + x) % 256 = x := by omega
    have e2 : (bigN r.reverse * 256 + x) / 256 = bigN r.reverse := by omega
    rw [e1, e2, ih]
theorem octs_back {l : List Int} (h : Bytes l) : (octs (bigN l) l.length).reverse = l := by
  have := octs_bigN l.reverse h.reverse
  rwa [List.reverse_reverse, List.length_reverse] at this
theorem lcB_beq {z : Int} (h0 : 0 ≤ z) (h1 : z ≤ 1) : lcB (z == 1) = z := by
  unfold lcB
  rcases (show z = 0 ∨ z = 1 by omega) with rfl | rfl <;> rfl
theorem wr_back {zs : List Int} (hb : Bytes zs) (h : rdOk zs) : wrL (rdW zs) (rdH zs) (byt zs 9) (byt zs 8) (byt zs 12 == 1) = zs := by
  obtain ⟨hl, h10, h11, h12, _⟩ := h
  have q8 := hb.at 8
  have q9 := hb.at 9
  have q12 := hb.at 12
  unfold byt at *
  have e4 : (octs (rdW zs) 4).reverse = zs.take 4 := by
    have := octs_back (hb.take 4)
    rwa [List.length_take, hl] at this
  have e8 : (octs (rdH zs) 4).reverse = (zs.drop 4).take 4 := by
    have := octs_back ((hb.drop 4).take 4)
    rwa [List.length_take, List.length_drop, hl] at this
  unfold wrL wrA
  rw [e4, e8, lcB_beq q12.1 h12, Int.emod_eq_of_lt q8.1 q8.2, Int.emod_eq_of_lt q9.1 q9.2]
  match zs, hl with
  | [z0, z1, z2, z3, z4, z5, z6, z7, z8, z9, z10, z11, z12], _ =>
    simp at h10 h11 ⊢
    exact ⟨h10.symm, h11.symm⟩
theorem al_back {c : List Int} (hb : Bytes c) : putA 1 c = c := by
  induction c with
  | nil => rfl
  | cons x r ih =>
    have hx := hb x (by simp)
    simp only [putA, List.flatMap_cons] at ih ⊢
    rw [ih (fun z hz => hb z (by simp [hz])), octs_one, Int.emod_eq_of_lt hx.1 hx.2]
    rfl
theorem sm_back {c : List Int} (hb : Bytes c) {M : Nat} (hl : c.length = 2 * M) : putA 2 (smL c) = c := by
  have key : ∀ t, t ≤ M → putA 2 ((smL c).take t) = c.take (2 * t) := by
    intro t
    induction t with
    | zero => intro _; rfl
    | succ t ih =>
      intro ht
      rw [smL_snoc c t (by omega), putA_snoc, ih (by omega)]
      have e := octs_back ((hb.drop (2 * t)).take 2)
      have hl2 : ((c.drop (2 * t)).take 2).length = 2 := by rw [List.length_take, List.length_drop]; omega
      rw [hl2] at e
      rw [e, show 2 * (t + 1) = 2 * t + 2 by omega, List.take_add]
  have h := key M (Nat.le_refl _)
  rw [List.take_of_length_le (by rw [smL_len]; omega), List.take_of_length_le (by omega)] at h
  exact h
theorem rc_back {W H C D t : Int} {c : List Int} (hb : Bytes c) (h : rcE W H C D t c = 0) : wcL C (rcA W H C D t c) (rcS W H C D c) = c := by
  unfold rcE at h
  by_cases hm : mayN W H C D
  · rw [if_pos hm] at h
    by_cases h3 : C = 3
    · rw [if_pos h3] at h
      by_cases ha : alOk t c
      · have e1 : rcA W H C D t c = c := by unfold rcA; rw [if_pos ⟨hm, h3, ha⟩]
        unfold wcL
        rw [if_pos h3, e1]
        exact al_back hb
      · rw [if_neg ha] at h; omega
    · rw [if_neg h3] at h
      by_cases h0 : C = 0 ∨ C = 2
      · rw [if_pos h0] at h
        by_cases hs : smOk C D c
        · have e1 : rcS W H C D c = smL c := by unfold rcS; rw [if_pos ⟨hm, h0, hs⟩]
          unfold wcL
          rw [if_neg h3, if_pos h0, e1]
          have hl := hs.1
          exact sm_back hb (M := (spN C).toNat) (by omega)
        · rw [if_neg hs] at h; omega
      · rw [if_neg h0] at h; omega
  · rw [if_neg hm] at h; omega
theorem Row.wf {w : World} {a : Option Addr} {l : List Int} (h : IRow w a l) (n : Nat) (hn : l.length = n) (hs : n ≤ 17592186044416) : NumsIn w a n l := ⟨hn, hs, h⟩
set_option maxHeartbeats 3200000 in
theorem hback_walk (a1 : Option Addr) (n1 k1 : Nat) (a2 : Option Addr) (n2 k2 : Nat) (a3 : Option Addr) (n3 k3 : Nat) (w : World) (ht : Tab w) (h1 : BArg w a1 n1 k1 ∧ k1 ≤ 1048576) (h2 : BArg w a2 n2 k2 ∧ k2 ≤ 1048576) (h3 : BArg w a3 n3 k3 ∧ k3 ≤ 1048576) :
    Calls Tryd.prog 8 #[.slice a1 n1 k1, .slice a2 n2 k2, .slice a3 n3 k3] w fun e w' => e = .returned (.bool true) ∧ Below w.heap.size w w' := by
  obtain ⟨⟨A, bA, nA, lA, -, zA, rA⟩, sA⟩ := h1
  obtain ⟨⟨Bz, bB, nB, lB, -, zB, rB⟩, sB⟩ := h2
  obtain ⟨⟨Cz, bC, nC, lC, -, zC, rC⟩, sC⟩ := h3
  have HT : Hid (Tab w) := ht
  have F := fixed_any w ht
  have HC1 : Hid (∀ w1, Below w.heap.size w w1 → Calls Tryd.prog 14 #[.slice a1 n1 k1] w1 fun e w' => RdPost w1 (rdV A) (rdE A) e w') := fun w1 h => read_any a1 n1 k1 A w1 nA bA zA (rA.old h) (HT.out.old h)
  by_cases ho : rdOk A
  · have hbk := wr_back bA ho
    have hmy := ho.2.2.2.2
    rw [rdV, rdE, if_pos ho, if_pos ho] at HC1
    generalize rdW A = VW at *
    generalize rdH A = VH at *
    generalize byt A 9 = VC at *
    generalize byt A 8 = VD at *
    generalize (byt A 12 == 1) = VL at *
    have HC2 : Hid (∀ w1, Below w.heap.size w w1 → Calls Tryd.prog 16 #[HdV VW VH VC VD VL] w1 fun e w' => WrPost w1 A 0 e w') := fun w1 h => by
      have := write_any VW VH VC VD VL w1 (HT.out.old h)
      rw [wrZ, wrE, if_pos hmy, if_pos hmy, hbk] at this
      exact this
    have HC3 : Hid (∀ w1, Below w.heap.size w w1 → Calls Tryd.prog 19 #[HdV VW VH VC VD VL, .slice a2 n2 k2] w1 fun e w' => TtPost w1 (ttN VW VH VC VD Bz) (ttL VW VH VC VD Bz) (ttE VW VH VC VD Bz) e w') := fun w1 h => rtints_any VW VH VC VD VL a2 n2 k2 Bz w1 (HT.out.old h) nB (by omega) bB (rB.old h)
    have HTt : Hid (ttE VW VH VC VD Bz = 0 → ttL VW VH VC VD Bz = Bz ∧ Bz.length = 3 * ttN VW VH VC VD Bz) := fun h => by
      unfold ttE at h
      rw [if_pos hmy] at h
      by_cases hk : ttOk VW VH VC VD Bz
      · unfold ttL ttN
        rw [if_pos hk, if_pos hk]
        exact ⟨rfl, by have := hk.2.1; omega⟩
      · rw [if_neg hk] at h; omega
    have HC4 : Hid (∀ w1 a c n, Bz.length = 3 * n → Row w1 a Bz → Calls Tryd.prog 22 #[.slice a n c] w1 fun e w' => NewS w1 Bz e w') := fun w1 a c n h1 h2 => wtints_any a n c Bz w1 h1 (by omega) bB h2
    have HC5 : Hid (∀ w1, Below w.heap.size w w1 → Calls Tryd.prog 24 #[HdV VW VH VC VD VL, .int .i64 ((n2 / 3 : Nat) : Int), .slice a3 n3 k3] w1 fun e w' => RcPost w1 (rcA VW VH VC VD ((n2 / 3 : Nat) : Int) Cz) (rcS VW VH VC VD Cz) (rcE VW VH VC VD ((n2 / 3 : Nat) : Int) Cz) e w') := fun w1 h => rclear_any VW VH VC VD VL _ a3 n3 k3 Cz w1 (HT.out.old h) nC (by omega) bC zC (rC.old h)
    have HRc : Hid (rcE VW VH VC VD ((n2 / 3 : Nat) : Int) Cz = 0 → wcL VC (rcA VW VH VC VD ((n2 / 3 : Nat) : Int) Cz) (rcS VW VH VC VD Cz) = Cz) := fun h => rc_back bC h
    have HRl : Hid ((rcA VW VH VC VD ((n2 / 3 : Nat) : Int) Cz).length ≤ 2000000 ∧ (rcS VW VH VC VD Cz).length ≤ 2000000) := by
      constructor
      · unfold rcA; split
        · omega
        · simp
      · unfold rcS; split
        · rw [smL_len]; omega
        · simp
    have HRR : Hid (∀ w1, Below w.heap.size w w1 → Row w1 a1 A ∧ Row w1 a2 Bz ∧ Row w1 a3 Cz) := fun w1 h => ⟨rA.old h, rB.old h, rC.old h⟩
    have HN : Hid (A.length = n1 ∧ Bz.length = n2 ∧ Cz.length = n3) := ⟨nA, nB, nC⟩
    have hdiv : (n2 : Int).tdiv 3 = ((n2 / 3 : Nat) : Int) := by rw [Int.tdiv_eq_ediv_of_nonneg (by omega)]; omega
    have hdiv2 : (n2 : Int) / 3 = ((n2 / 3 : Nat) : Int) := by omega
    have hw3 : wrap64 ((n2 / 3 : Nat) : Int) = ((n2 / 3 : Nat) : Int) := by unfold wrap64; omega
    generalize ((n2 / 3 : Nat) : Int) = N3 at *
    generalize rcA VW VH VC VD N3 Cz = RA at *
    generalize rcS VW VH VC VD Cz = RS at *
    generalize rcE VW VH VC VD N3 Cz = RE at *
    generalize ttN VW VH VC VD Bz = TN at *
    generalize ttL VW VH VC VD Bz = TL at *
    generalize ttE VW VH VC VD Bz = TE at *
    have HC6 : Hid (∀ w1 b1 d1 b2 d2, IRow w1 b1 RA → IRow w1 b2 RS → Calls Tryd.prog 27 #[HdV VW VH VC VD VL, .slice b1 RA.length d1, .slice b2 RS.length d2] w1 fun e w' => NewS w1 (wcL VC RA RS) e w') := fun w1 b1 d1 b2 d2 h1 h2 => wclear_any VW VH VC VD VL b1 _ d1 b2 _ d2 RA RS w1 ⟨rfl, by have := HRl.out.1; omega, h1⟩ ⟨rfl, by have := HRl.out.2; omega, h2⟩
    clear ht bA nA lA zA rA bB nB lB zB rB bC nC lC zC rC ho hbk hmy
    unfold HdV at *
    go_enter Tryd.func8, Tryd.ntmps8
    go_wp2_with fail
    refine F.mono ?_
    clear F
    rintro e w1 ⟨rfl, hb1⟩
    have HB1 : Hid (Below w.heap.size w w1) := hb1
    clear hb1
    have CC := HC1.out w1 HB1.out
    go_wp2_with fail
    refine CC.mono ?_
    clear CC
    rintro e w2 ⟨rfl, hb2⟩
    obtain ⟨w3, hw3⟩ : ∃ w3, w3 = w2.alloc (.cells #[.int .i64 VW, .int .i64 VH, .int .i64 VC, .int .i64 VD, .bool VL] 23) := ⟨_, rfl⟩
    have HB2 : Hid (Below w.heap.size w w2) := HB1.out.trans (hb2.mono HB1.out.size)
    have HB3 : Hid (Below w.heap.size w w3 ∧ w3.heap[w2.heap.size]? = some (.cells #[.int .i64 VW, .int .i64 VH, .int .i64 VC, .int .i64 VD, .bool VL] 23 (0, 0))) := by
      show _ ∧ _
      rw [hw3]
      exact ⟨HB2.out.alloc HB2.out.size _, heap_alloc_new _ _⟩
    clear hb2 HB1 HB2
    have CC := HC2.out w3 HB3.out.1
    go_wp2_with fail
    rw [← hw3]
    refine CC.mono ?_
    clear CC hw3
    generalize w2.heap.size = BX at *
    rintro e w4 ⟨a4, c4, rfl, r4, z4, l4, m4, b4⟩
    have HB4 : Hid (Below w.heap.size w w4 ∧ w4.heap[BX]? = some (.cells #[.int .i64 VW, .int .i64 VH, .int .i64 VC, .int .i64 VD, .bool VL] 23 (0, 0)) ∧ Row w4 a4 A) := ⟨HB3.out.1.trans (b4.mono HB3.out.1.size), five_keep HB3.out.2 b4, r4⟩
    clear r4 z4 l4 m4 b4 HB3
    rw [HN.out.1]
    have CC := same_any a4 a1 n1 c4 k1 A w4 HN.out.1 HB4.out.2.2 (HRR.out w4 HB4.out.1).1
    go_wp2_with fail
    refine CC.mono ?_
    clear CC
    rintro e w5 ⟨rfl, rfl⟩
    obtain ⟨x0, x1, x2, x3, x4, -⟩ := five_cells HB4.out.2.1
    have CC := HC3.out w5 HB4.out.1
    go_wp2_with fail
    refine CC.mono ?_
    clear CC x0 x1 x2 x3 x4
    rintro e w6 ⟨a6, c6, rfl, r6, b6⟩
    have HB6 : Hid (Below w.heap.size w w6 ∧ w6.heap[BX]? = some (.cells #[.int .i64 VW, .int .i64 VH, .int .i64 VC, .int .i64 VD, .bool VL] 23 (0, 0)) ∧ Row w6 a6 TL) := ⟨HB4.out.1.trans (b6.mono HB4.out.1.size), five_keep HB4.out.2.1 b6, r6⟩
    clear r6 b6 HB4
    by_cases hTE : TE = 0
    · obtain ⟨hTL, hTN⟩ := HTt.out hTE
      subst hTE
      have HTN : Hid (TL = Bz ∧ Bz.length = 3 * TN) := ⟨hTL, hTN⟩
      clear hTL hTN HTt
      have CC := HC4.out w6 a6 c6 TN HTN.out.2 (by have := HB6.out.2.2; rw [HTN.out.1] at this; exact this)
      go_wp2_with fail
      refine CC.mono ?_
      clear CC
      rintro e w7 ⟨a7, c7, g7, rfl, s7, -, b7⟩
      have HB7 : Hid (Below w.heap.size w w7 ∧ w7.heap[BX]? = some (.cells #[.int .i64 VW, .int .i64 VH, .int .i64 VC, .int .i64 VD, .bool VL] 23 (0, 0)) ∧ Row w7 a7 Bz) := ⟨HB6.out.1.trans (b7.mono HB6.out.1.size), five_keep HB6.out.2.1 b7, s7.row rfl⟩
      clear s7 b7 HB6
      rw [HN.out.2.1]
      have CC := same_any a7 a2 n2 c7 k2 Bz w7 HN.out.2.1 HB7.out.2.2 (HRR.out w7 HB7.out.1).2.1
      go_wp2_with fail
      refine CC.mono ?_
      clear CC
      rintro e w8 ⟨rfl, rfl⟩
      obtain ⟨x0, x1, x2, x3, x4, -⟩ := five_cells HB7.out.2.1
      have CC := HC5.out w8 HB7.out.1
      go_wp2_with fail
      refine CC.mono ?_
      clear CC x0 x1 x2 x3 x4
      rintro e w9 ⟨b1, d1, b2, d2, rfl, r1, r2, b9⟩
      have HB9 : Hid (Below w.heap.size w w9 ∧ w9.heap[BX]? = some (.cells #[.int .i64 VW, .int .i64 VH, .int .i64 VC, .int .i64 VD, .bool VL] 23 (0, 0)) ∧ IRow w9 b1 RA ∧ IRow w9 b2 RS) := ⟨HB7.out.1.trans (b9.mono HB7.out.1.size), five_keep HB7.out.2.1 b9, r1, r2⟩
      clear r1 r2 b9 HB7
      by_cases hRE : RE = 0
      · have hwc := HRc.out hRE
        subst hRE
        have CC := HC6.out w9 b1 d1 b2 d2 HB9.out.2.2.1 HB9.out.2.2.2
        rw [hwc] at CC
        clear hwc HRc
        obtain ⟨x0, x1, x2, x3, x4, -⟩ := five_cells HB9.out.2.1
        go_wp2_with fail
        refine CC.mono ?_
        clear CC
        rintro e w10 ⟨a10, c10, g10, rfl, s10, -, b10⟩
        have HB10 : Hid (Below w.heap.size w w10 ∧ Row w10 a10 Cz) := ⟨HB9.out.1.trans (b10.mono HB9.out.1.size), s10.row rfl⟩
        clear s10 b10 HB9 x0 x1 x2 x3 x4
        rw [HN.out.2.2]
        have CC := same_any a10 a3 n3 c10 k3 Cz w10 HN.out.2.2 HB10.out.2 (HRR.out w10 HB10.out.1).2.2
        go_wp2_with fail
        refine CC.mono ?_
        clear CC
        rintro e w11 ⟨rfl, rfl⟩
        go_wp2
        go_ret
        exact ⟨rfl, HB10.out.1⟩
      · have e1 : (RE != 0) = true := by simpa using hRE
        have e2 : (RE == 0) = false := by simpa using hRE
        go_wp2
        go_ret
        exact ⟨rfl, HB9.out.1⟩
    · have e1 : (TE == 0) = false := by simpa using hTE
      obtain ⟨x0, x1, x2, x3, x4, -⟩ := five_cells HB6.out.2.1
      have CC := HC5.out w6 HB6.out.1
      go_wp2_with fail
      refine CC.mono ?_
      clear CC x0 x1 x2 x3 x4
      rintro e w9 ⟨b1, d1, b2, d2, rfl, r1, r2, b9⟩
      have HB9 : Hid (Below w.heap.size w w9 ∧ w9.heap[BX]? = some (.cells #[.int .i64 VW, .int .i64 VH, .int .i64 VC, .int .i64 VD, .bool VL] 23 (0, 0)) ∧ IRow w9 b1 RA ∧ IRow w9 b2 RS) := ⟨HB6.out.1.trans (b9.mono HB6.out.1.size), five_keep HB6.out.2.1 b9, r1, r2⟩
      clear r1 r2 b9 HB6
      by_cases hRE : RE = 0
      · have hwc := HRc.out hRE
        subst hRE
        have CC := HC6.out w9 b1 d1 b2 d2 HB9.out.2.2.1 HB9.out.2.2.2
        rw [hwc] at CC
        clear hwc HRc
        obtain ⟨x0, x1, x2, x3, x4, -⟩ := five_cells HB9.out.2.1
        go_wp2_with fail
        refine CC.mono ?_
        clear CC
        rintro e w10 ⟨a10, c10, g10, rfl, s10, -, b10⟩
        have HB10 : Hid (Below w.heap.size w w10 ∧ Row w10 a10 Cz) := ⟨HB9.out.1.trans (b10.mono HB9.out.1.size), s10.row rfl⟩
        clear s10 b10 HB9 x0 x1 x2 x3 x4
        rw [HN.out.2.2]
        have CC := same_any a10 a3 n3 c10 k3 Cz w10 HN.out.2.2 HB10.out.2 (HRR.out w10 HB10.out.1).2.2
        go_wp2_with fail
        refine CC.mono ?_
        clear CC
        rintro e w11 ⟨rfl, rfl⟩
        go_wp2
        go_ret
        exact ⟨rfl, HB10.out.1⟩
      · have e3 : (RE != 0) = true := by simpa using hRE
        have e2 : (RE == 0) = false := by simpa using hRE
        go_wp2
        go_ret
        exact ⟨rfl, HB9.out.1⟩
  · rw [rdV, rdE, if_neg ho, if_neg ho] at HC1
    clear ht bA nA lA zA rA bB nB lB zB rB bC nC lC zC rC ho
    unfold HdV at *
    go_enter Tryd.func8, Tryd.ntmps8
    go_wp2_with fail
    refine F.mono ?_
    clear F
    rintro e w1 ⟨rfl, hb1⟩
    have HB1 : Hid (Below w.heap.size w w1) := hb1
    clear hb1
    have CC := HC1.out w1 HB1.out
    go_wp2_with fail
    refine CC.mono ?_
    clear CC
    rintro e w2 ⟨rfl, hb2⟩
    have HB2 : Hid (∀ o, Below w.heap.size w (w2.alloc o)) := fun o => (HB1.out.trans (hb2.mono HB1.out.size)).alloc (by have := HB1.out.size; have := hb2.size; omega) o
    clear hb2
    go_wp2
    go_ret
    exact ⟨rfl, HB2.out _⟩
end Go.Proofs.YticdpibaojhpiaaDoor
