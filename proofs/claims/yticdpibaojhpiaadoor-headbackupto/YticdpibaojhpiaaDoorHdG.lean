/- A head is read: the program's walk. -/
import Derived.Test.YticdpibaojhpiaaDoorHdF
namespace Go.Proofs.YticdpibaojhpiaaDoor
open Go.RowKit
/-- A cursor of the call's own, in order. -/
structure RI (w0 wr : World) (c U : Nat) (l : List Int) : Prop where
  cur : Cur wr c U l 0
  be : Below w0.heap.size w0 wr
  ge : w0.heap.size ≤ c
  cu : c < U
  us : U ≤ wr.heap.size
theorem RI.alloc {w0 wr : World} {c U : Nat} {l : List Int} (h : RI w0 wr c U l) (o : Obj) : RI w0 (wr.alloc o) c U l :=
  ⟨h.cur.below ((Below.refl _ _).alloc (Nat.le_refl _) _), h.be.alloc h.be.size _, h.ge, h.cu, by have := h.us; simp; omega⟩
theorem RI.grown {w0 wr w' : World} {c U : Nat} {l l' : List Int} (h : RI w0 wr c U l) (hc : Cur w' c U l' 0) (hg : wr.grownBy w' (some c)) : RI w0 w' c U l' :=
  ⟨hc, h.be.grown hg h.be.size (fun k hk => by cases hk; exact h.ge), h.ge, h.cu, Nat.le_trans h.us hg.size⟩
theorem RI.start {w0 w' : World} {zs : List Int} {c : Nat} {a : Option Addr} {cap : Nat} (h1 : w0.heap.size ≤ c) (h2 : Below w0.heap.size w0 w') (h3 : w'.heap[c]? = some (.cells #[.slice a zs.length cap, .int .i64 0] 69 (0, 0))) (h4 : zs.length ≤ cap) (h5 : cap ≤ maxLen) (h6 : Row w' a zs) : RI w0 w' c w'.heap.size zs :=
  ⟨⟨a, cap, h3, h4, h5, h6, h6.lt⟩, h2, h1, lt_of_block h3, Nat.le_refl _⟩
theorem RI.big4 {w0 wr : World} {c U : Nat} {l : List Int} (h : RI w0 wr c U l) (hb : Bytes l) (hl : 4 ≤ l.length) : Calls Tryd.prog 32 #[.pointer (some ⟨c, 0, none⟩), .int .i64 4] wr fun e w' => e = .returned (.int .i64 (bigN (l.take 4))) ∧ RI w0 w' c U (l.drop 4) ∧ wr.grownBy w' (some c) :=
  (cbig_ok c U l 4 wr h.cur hb (by omega) (by omega) hl).mono fun _ _ ⟨e1, e2, e3⟩ => ⟨e1, h.grown e2 e3, e3⟩
theorem RI.big1 {w0 wr : World} {c U : Nat} {l : List Int} (h : RI w0 wr c U l) (hb : Bytes l) (hl : 1 ≤ l.length) : Calls Tryd.prog 32 #[.pointer (some ⟨c, 0, none⟩), .int .i64 1] wr fun e w' => e = .returned (.int .i64 (bigN (l.take 1))) ∧ RI w0 w' c U (l.drop 1) ∧ wr.grownBy w' (some c) :=
  (cbig_ok c U l 1 wr h.cur hb (by omega) (by omega) hl).mono fun _ _ ⟨e1, e2, e3⟩ => ⟨e1, h.grown e2 e3, e3⟩
theorem RI.big2 {w0 wr : World} {c U : Nat} {l : List Int} (h : RI w0 wr c U l) (hb : Bytes l) (hl : 2 ≤ l.length) : Calls Tryd.prog 32 #[.pointer (some ⟨c, 0, none⟩), .int .i64 2] wr fun e w' => e = .returned (.int .i64 (bigN (l.take 2))) ∧ RI w0 w' c U (l.drop 2) ∧ wr.grownBy w' (some c) :=
  (cbig_ok c U l 2 wr h.cur hb (by omega) (by omega) hl).mono fun _ _ ⟨e1, e2, e3⟩ => ⟨e1, h.grown e2 e3, e3⟩
set_option maxHeartbeats 3200000 in
set_option maxRecDepth 20000 in
theorem read13_any (a : Option Addr) (cap : Nat) (zs : List Int) (w : World) (hn : zs.length = 13) (hb : Bytes zs) (hnil : a = none → cap = 0) (hr : Row w a zs) (ht : Tab w) :
    Calls Tryd.prog 14 #[.slice a 13 cap] w fun e w' => RdPost w (rdV zs) (rdE zs) e w' := by
  obtain ⟨w0, hw0⟩ : ∃ w0, w0 = w.alloc (.cells #[.int .i64 0, .int .i64 0, .int .i64 0, .int .i64 0, .bool false] 23) := ⟨_, rfl⟩
  have HB0 : Hid (Below w.heap.size w w0 ∧ w0.heap[w.heap.size]? = some (.cells #[.int .i64 0, .int .i64 0, .int .i64 0, .int .i64 0, .bool false] 23 (0, 0)) ∧ w.heap.size < w0.heap.size) := by
    show _ ∧ _ ∧ _
    rw [hw0]
    exact ⟨(Below.refl _ _).alloc (Nat.le_refl _) _, heap_alloc_new _ _, by simp⟩
  have C := new_any a 13 cap zs w0 hn hnil (by omega) (hr.old HB0.out.1)
  have HT : Hid (Tab w) := ht
  have HZ : Hid (zs.length = 13 ∧ Bytes zs) := ⟨hn, hb⟩
  have d1 : ∀ k, ((zs.drop 4).drop 4) = zs.drop 8 ∧ (zs.drop 8).drop 1 = zs.drop 9 ∧ (zs.drop 9).drop 1 = zs.drop 10 ∧ (zs.drop 10).drop 1 = zs.drop 11 ∧ (zs.drop 11).drop 1 = zs.drop 12 ∧ (zs.drop k).length = 13 - k := fun k => by simp [hn]
  have HD : Hid _ := d1
  have b8 := (big_one zs 8 (by omega))
  have b9 := (big_one zs 9 (by omega))
  have b10 := (big_one zs 10 (by omega))
  have b11 := (big_one zs 11 (by omega))
  have b12 := (big_one zs 12 (by omega))
  have HG : Hid (bigN ((zs.drop 8).take 1) = byt zs 8 ∧ bigN ((zs.drop 9).take 1) = byt zs 9 ∧ bigN ((zs.drop 10).take 1) = byt zs 10 ∧ bigN ((zs.drop 11).take 1) = byt zs 11 ∧ bigN ((zs.drop 12).take 1) = byt zs 12) := ⟨b8, b9, b10, b11, b12⟩
  have q12 := hb.at 12
  have q10 := hb.at 10
  have q11 := hb.at 11
  rw [show zs[12]?.getD 0 = byt zs 12 from rfl] at q12
  rw [show zs[10]?.getD 0 = byt zs 10 from rfl] at q10
  rw [show zs[11]?.getD 0 = byt zs 11 from rfl] at q11
  have HV : Hid (rdV zs = (if byt zs 10 = 0 ∧ byt zs 11 = 0 ∧ byt zs 12 ≤ 1 ∧ mayN (rdW zs) (rdH zs) (byt zs 9) (byt zs 8) then HdV (rdW zs) (rdH zs) (byt zs 9) (byt zs 8) (byt zs 12 == 1) else HdV 0 0 0 0 false) ∧ rdE zs = (if byt zs 10 = 0 ∧ byt zs 11 = 0 ∧ byt zs 12 ≤ 1 ∧ mayN (rdW zs) (rdH zs) (byt zs 9) (byt zs 8) then 0 else 11)) := by
    show _ ∧ _
    simp [rdV, rdE, rdOk, hn]
  clear hr ht hn hb d1 b8 b9 b10 b11 b12 hnil
  go_enter Tryd.func14, Tryd.ntmps14
  go_wp2_with fail
  rw [← hw0]
  refine C.mono ?_
  clear C hw0
  rintro e w1 ⟨c, rfl, h1, h2, a1, cap1, h3, h4, h5, h6, -⟩
  have HI : Hid (RI w0 w1 c w1.heap.size zs) := RI.start h1 h2 h3 h4 h5 h6
  generalize w1.heap.size = U at *
  clear h1 h2 h3 h4 h5 h6
  have C := HI.out.big4 HZ.out.2 (by rw [HZ.out.1]; omega)
  go_wp2_with fail
  refine C.mono ?_
  clear C
  rintro e w2 ⟨rfl, h1, -⟩
  have HI2 : Hid (RI w0 w2 c U (zs.drop 4)) := h1
  clear h1 HI
  have C := HI2.out.big4 (HZ.out.2.drop 4) (by rw [(HD.out 4).2.2.2.2.2]; omega)
  rw [(HD.out 0).1] at C
  go_wp2_with fail
  refine C.mono ?_
  clear C
  rintro e w3 ⟨rfl, h1, -⟩
  have HI3 : Hid (RI w0 w3 c U (zs.drop 8)) := h1
  clear h1 HI2
  have C := HI3.out.big1 (HZ.out.2.drop 8) (by rw [(HD.out 8).2.2.2.2.2]; omega)
  rw [(HD.out 0).2.1, HG.out.1] at C
  go_wp2_with fail
  refine C.mono ?_
  clear C
  rintro e w4 ⟨rfl, h1, -⟩
  have HI4 : Hid (RI w0 w4 c U (zs.drop 9)) := h1
  clear h1 HI3
  have C := HI4.out.big1 (HZ.out.2.drop 9) (by rw [(HD.out 9).2.2.2.2.2]; omega)
  rw [(HD.out 0).2.2.1, HG.out.2.1] at C
  go_wp2_with fail
  refine C.mono ?_
  clear C
  rintro e w5 ⟨rfl, h1, -⟩
  have HI5 : Hid (RI w0 w5 c U (zs.drop 10)) := h1
  clear h1 HI4
  rw [show bigN (zs.take 4) = rdW zs from rfl, show bigN ((zs.drop 4).take 4) = rdH zs from rfl]
  obtain ⟨w6, hw6⟩ : ∃ w6, w6 = w5.alloc (.cells #[.int .i64 (rdW zs), .int .i64 (rdH zs), .int .i64 (byt zs 9), .int .i64 (byt zs 8), .bool false] 23) := ⟨_, rfl⟩
  have HI6 : Hid (RI w0 w6 c U (zs.drop 10) ∧ w6.heap[w5.heap.size]? = some (.cells #[.int .i64 (rdW zs), .int .i64 (rdH zs), .int .i64 (byt zs 9), .int .i64 (byt zs 8), .bool false] 23 (0, 0)) ∧ c ≠ w5.heap.size ∧ w0.heap.size ≤ w5.heap.size) := by
    show _ ∧ _ ∧ _ ∧ _
    rw [hw6]
    exact ⟨HI5.out.alloc _, heap_alloc_new _ _, by have := HI5.out.cu; have := HI5.out.us; omega, HI5.out.be.size⟩
  go_wp2_with fail
  rw [← hw6]
  clear hw6
  generalize w5.heap.size = hb at *
  have C := HI6.out.1.big1 (HZ.out.2.drop 10) (by rw [(HD.out 10).2.2.2.2.2]; omega)
  rw [(HD.out 0).2.2.2.1, HG.out.2.2.1] at C
  refine C.mono ?_
  clear C
  rintro e w7 ⟨rfl, h1, h2⟩
  have HI7 : Hid (RI w0 w7 c U (zs.drop 11) ∧ w7.heap[hb]? = some (.cells #[.int .i64 (rdW zs), .int .i64 (rdH zs), .int .i64 (byt zs 9), .int .i64 (byt zs 8), .bool false] 23 (0, 0))) := ⟨h1, (h2.block hb (lt_of_block HI6.out.2.1) (by have := HI6.out.2.2.1; simp; omega)).trans HI6.out.2.1⟩
  have HN : Hid (c ≠ hb ∧ w0.heap.size ≤ hb) := HI6.out.2.2
  clear h1 h2 HI6 HI5
  have C := HI7.out.1.big1 (HZ.out.2.drop 11) (by rw [(HD.out 11).2.2.2.2.2]; omega)
  rw [(HD.out 0).2.2.2.2.1, HG.out.2.2.2.1] at C
  go_wp2_with fail
  refine C.mono ?_
  clear C
  rintro e w8 ⟨rfl, h1, h2⟩
  have HI8 : Hid (RI w0 w8 c U (zs.drop 12) ∧ w8.heap[hb]? = some (.cells #[.int .i64 (rdW zs), .int .i64 (rdH zs), .int .i64 (byt zs 9), .int .i64 (byt zs 8), .bool false] 23 (0, 0))) := ⟨h1, (h2.block hb (lt_of_block HI7.out.2) (by have := HN.out.1; simp; omega)).trans HI7.out.2⟩
  clear h1 h2 HI7
  have C := HI8.out.1.big1 (HZ.out.2.drop 12) (by rw [(HD.out 12).2.2.2.2.2]; omega)
  rw [HG.out.2.2.2.2] at C
  go_wp2_with fail
  refine C.mono ?_
  clear C
  rintro e w9 ⟨rfl, h1, h2⟩
  have h9 : w9.heap[hb]? = some (.cells #[.int .i64 (rdW zs), .int .i64 (rdH zs), .int .i64 (byt zs 9), .int .i64 (byt zs 8), .bool false] 23 (0, 0)) := (h2.block hb (lt_of_block HI8.out.2) (by have := HN.out.1; simp; omega)).trans HI8.out.2
  have HI9 : Hid (Below w0.heap.size w0 w9) := h1.be
  clear h1 h2 HI8 HG HD HZ
  obtain ⟨p0, p1, p2, p3, p4, pf⟩ := five_cells h9
  have f4 := pf 4
  obtain ⟨w10, hw10⟩ : ∃ w10, w10 = w9.setCell ⟨hb, 4, none⟩ (.bool (byt zs 12 == 1)) := ⟨_, rfl⟩
  have HIA : Hid (Below w0.heap.size w0 w10 ∧ w10.heap[hb]? = some (.cells #[.int .i64 (rdW zs), .int .i64 (rdH zs), .int .i64 (byt zs 9), .int .i64 (byt zs 8), .bool (byt zs 12 == 1)] 23 (0, 0))) := by
    show _ ∧ _
    rw [hw10]
    refine ⟨⟨HI9.out.os, HI9.out.tape, HI9.out.output, by have := HI9.out.size; simp [World.setCell]; omega, fun j hj => (Below.heap_setCell w9 _ _ j (by have := HN.out.2; simp; omega)).trans (HI9.out.block j hj)⟩, five_set4 h9⟩
  have HW : Hid (∀ wx, Below w0.heap.size w0 wx → (∀ i, wx.frozen? ⟨w.heap.size, i, none⟩ = false) ∧ wx.cell? ⟨w.heap.size, 0, none⟩ = some (.int .i64 0) ∧ wx.cell? ⟨w.heap.size, 1, none⟩ = some (.int .i64 0) ∧ wx.cell? ⟨w.heap.size, 2, none⟩ = some (.int .i64 0) ∧ wx.cell? ⟨w.heap.size, 3, none⟩ = some (.int .i64 0) ∧ wx.cell? ⟨w.heap.size, 4, none⟩ = some (.bool false)) := fun wx hx => by
    obtain ⟨e0, e1, e2, e3, e4, ef⟩ := five_cells ((hx.block w.heap.size HB0.out.2.2).trans HB0.out.2.1)
    exact ⟨ef, e0, e1, e2, e3, e4⟩
  have HP : Hid (∀ wx, Below w0.heap.size w0 wx → ∀ u0 u1 u2 u3 u4 (v : Value) (er : Int), RdPost w v er (.returned (.tuple #[v, .int .i64 er])) (((((wx.setCell ⟨w.heap.size, 0, none⟩ u0).setCell ⟨w.heap.size, 1, none⟩ u1).setCell ⟨w.heap.size, 2, none⟩ u2).setCell ⟨w.heap.size, 3, none⟩ u3).setCell ⟨w.heap.size, 4, none⟩ u4)) := fun wx hx u0 u1 u2 u3 u4 v er =>
    ⟨rfl, five_below (HB0.out.1.trans (hx.mono HB0.out.1.size)) (Nat.le_refl _) u0 u1 u2 u3 u4⟩
  have CM := may_any (rdW zs) (rdH zs) (byt zs 9) (byt zs 8) (byt zs 12 == 1) w10 ((HT.out.old HB0.out.1).old HIA.out.1)
  generalize byt zs 10 = P at *
  generalize byt zs 11 = F at *
  generalize byt zs 12 = Lc at *
  generalize rdW zs = VW at *
  generalize rdH zs = VH at *
  generalize byt zs 9 = VC at *
  generalize byt zs 8 = VD at *
  obtain ⟨ef, e0, e1, e2, e3, e4⟩ := HW.out _ HIA.out.1
  have ef0 := ef 0
  have ef1 := ef 1
  have ef2 := ef 2
  have ef3 := ef 3
  have ef4 := ef 4
  clear ef
  subst hw10
  by_cases hP : P = 0
  · by_cases hF : F = 0
    · by_cases hL : Lc ≤ 1
      · subst hP hF
        have hL2 : ¬ 1 < Lc := by omega
        by_cases hM : mayN VW VH VC VD
        · rw [decide_eq_true hM] at CM
          have HE : Hid (rdV zs = HdV VW VH VC VD (Lc == 1) ∧ rdE zs = 0) := ⟨by rw [HV.out.1, if_pos ⟨rfl, rfl, hL, hM⟩], by rw [HV.out.2, if_pos ⟨rfl, rfl, hL, hM⟩]⟩
          clear HV q10 q11 q12 hM e0 e1 e2 e3 e4 ef0 ef1 ef2 ef3 ef4
          unfold HdV at CM
          go_wp2_with fail
          refine CM.mono ?_
          clear CM
          rintro e w11 ⟨rfl, hb11⟩
          have HBX : Hid (Below w0.heap.size w0 w11) := HIA.out.1.trans (hb11.mono HIA.out.1.size)
          obtain ⟨ef, e0, e1, e2, e3, e4⟩ := HW.out _ HBX.out
          have ef0 := ef 0
          have ef1 := ef 1
          have ef2 := ef 2
          have ef3 := ef 3
          have ef4 := ef 4
          have h11 := (hb11.block hb (lt_of_block HIA.out.2)).trans HIA.out.2
          obtain ⟨g0, g1, g2, g3, g4, -⟩ := five_cells h11
          clear ef hb11 h11 p0 p1 p2 p3 p4 pf f4 h9
          go_wp2
          refine bodyPost_ret (v := .tuple #[HdV VW VH VC VD (Lc == 1), .int .i64 0]) ?_ rfl (by rw [HE.out.1, HE.out.2]; exact HP.out _ HBX.out _ _ _ _ _ _ _)
          rw [results_cellH rfl]
          go_simp
          rfl
        · rw [decide_eq_false hM] at CM
          have HE : Hid (rdV zs = HdV 0 0 0 0 false ∧ rdE zs = 11) := ⟨by rw [HV.out.1, if_neg (fun h => hM h.2.2.2)], by rw [HV.out.2, if_neg (fun h => hM h.2.2.2)]⟩
          clear HV q10 q11 q12 hM e0 e1 e2 e3 e4 ef0 ef1 ef2 ef3 ef4
          unfold HdV at CM
          go_wp2_with fail
          refine CM.mono ?_
          clear CM
          rintro e w11 ⟨rfl, hb11⟩
          have HBX : Hid (Below w0.heap.size w0 w11) := HIA.out.1.trans (hb11.mono HIA.out.1.size)
          obtain ⟨ef, e0, e1, e2, e3, e4⟩ := HW.out _ HBX.out
          have ef0 := ef 0
          have ef1 := ef 1
          have ef2 := ef 2
          have ef3 := ef 3
          have ef4 := ef 4
          clear ef hb11 p0 p1 p2 p3 p4 pf f4 h9
          go_wp2
          refine bodyPost_ret (v := .tuple #[HdV 0 0 0 0 false, .int .i64 11]) ?_ rfl (by rw [HE.out.1, HE.out.2]; exact HP.out _ HBX.out _ _ _ _ _ _ _)
          rw [results_cellH rfl]
          go_simp
          rfl
      · subst hP hF
        have hL2 : 1 < Lc := by omega
        have HE : Hid (rdV zs = HdV 0 0 0 0 false ∧ rdE zs = 11) := ⟨by rw [HV.out.1, if_neg (fun h => hL h.2.2.1)], by rw [HV.out.2, if_neg (fun h => hL h.2.2.1)]⟩
        clear CM HV q10 q11 q12
        go_wp2
        refine bodyPost_ret (v := .tuple #[HdV 0 0 0 0 false, .int .i64 11]) ?_ rfl (by rw [HE.out.1, HE.out.2]; exact HP.out _ HIA.out.1 _ _ _ _ _ _ _)
        rw [results_cellH rfl]
        go_simp
        rfl
    · subst hP
      have hFb : (F == 0) = false := by simpa using hF
      have hFc : (F != 0) = true := by simpa using hF
      have HE : Hid (rdV zs = HdV 0 0 0 0 false ∧ rdE zs = 11) := ⟨by rw [HV.out.1, if_neg (fun h => hF h.2.1)], by rw [HV.out.2, if_neg (fun h => hF h.2.1)]⟩
      clear CM HV q10 q11 q12
      go_wp2
      refine bodyPost_ret (v := .tuple #[HdV 0 0 0 0 false, .int .i64 11]) ?_ rfl (by rw [HE.out.1, HE.out.2]; exact HP.out _ HIA.out.1 _ _ _ _ _ _ _)
      rw [results_cellH rfl]
      go_simp
      rfl
  · have hPb : (P == 0) = false := by simpa using hP
    have hPc : (P != 0) = true := by simpa using hP
    have HE : Hid (rdV zs = HdV 0 0 0 0 false ∧ rdE zs = 11) := ⟨by rw [HV.out.1, if_neg (fun h => hP h.1)], by rw [HV.out.2, if_neg (fun h => hP h.1)]⟩
    clear CM HV q10 q11 q12
    go_wp2
    refine bodyPost_ret (v := .tuple #[HdV 0 0 0 0 false, .int .i64 11]) ?_ rfl (by rw [HE.out.1, HE.out.2]; exact HP.out _ HIA.out.1 _ _ _ _ _ _ _)
    rw [results_cellH rfl]
    go_simp
    rfl
end Go.Proofs.YticdpibaojhpiaaDoor
