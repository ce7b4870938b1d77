/- A head is read: the reference. -/
import Derived.Test.YticdpibaojhpiaaDoorHdH
import Derived.Test.YticdpibaojhpiaaDoorHdP
namespace Go.Proofs.YticdpibaojhpiaaDoor
open Go.RowKit
set_option maxHeartbeats 400000 in
theorem rread_len (a : Option Addr) (n cap : Nat) (w : World) (hn : n ≠ 13) : Calls Tryd.prog 15 #[.slice a n cap] w fun e w' => RdPost w (HdV 0 0 0 0 false) 11 e w' := by
  have hb : ((n : Int) == 13) = false := by simp; omega
  have hc : ((n : Int) != 13) = true := by simp; omega
  have HP : Hid (∀ o, RdPost w (HdV 0 0 0 0 false) 11 (.returned (.tuple #[HdV 0 0 0 0 false, .int .i64 11])) (w.alloc o)) := fun o => ⟨rfl, (Below.refl _ _).alloc (Nat.le_refl _) _⟩
  go_enter Tryd.func15, Tryd.ntmps15
  go_wp2
  refine bodyPost_ret (v := .tuple #[HdV 0 0 0 0 false, .int .i64 11]) ?_ rfl (HP.out _)
  rw [results_cellH rfl]
  go_simp
  rfl
set_option maxHeartbeats 3200000 in
set_option maxRecDepth 20000 in
theorem rread13_any (b off cap : Nat) (zs : List Int) (w : World) (hn : zs.length = 13) (hcap : 13 ≤ cap) (hm : cap ≤ maxLen) (hb : Bytes zs) (hr : ∀ i, i < zs.length → w.cell? ⟨b, off + i, none⟩ = some (.int .u8 (zs[i]?.getD 0))) :
    Calls Tryd.prog 15 #[.slice (some ⟨b, off, none⟩) 13 cap] w fun e w' => RdPost w (rdV zs) (rdE zs) e w' := by
  obtain ⟨w0, hw0⟩ : ∃ w0, w0 = w.alloc (.cells #[.int .i64 0, .int .i64 0, .int .i64 0, .int .i64 0, .bool false] 23) := ⟨_, rfl⟩
  have HB0 : Hid (Below w.heap.size w w0 ∧ w0.heap[w.heap.size]? = some (.cells #[.int .i64 0, .int .i64 0, .int .i64 0, .int .i64 0, .bool false] 23 (0, 0)) ∧ w.heap.size < w0.heap.size) := by
    show _ ∧ _ ∧ _
    rw [hw0]
    exact ⟨(Below.refl _ _).alloc (Nat.le_refl _) _, heap_alloc_new _ _, by simp⟩
  have hbw : b < w.heap.size := cell_lt (hr 0 (by omega))
  have HR : Hid (∀ W : World, W.heap[b]? = w0.heap[b]? → ∀ i, i < 13 → W.cell? ⟨b, off + i, none⟩ = some (.int .u8 (zs[i]?.getD 0))) := fun W hW i hi =>
    (World.cell?_of_block (a := ⟨b, off + i, none⟩) (hW.trans (HB0.out.1.block b hbw))).trans (hr i (by omega))
  have HNa : Hid (∀ W : World, W.heap[b]? = w0.heap[b]? → Calls Tryd.prog 33 #[.slice (some ⟨b, off, none⟩) 4 cap] W fun e w' => e = .returned (.int .i64 (rdW zs)) ∧ w' = W ∧ Hid (Bytes zs)) := fun W hW =>
    (rnum_any _ 4 cap (zs.take 4) W (by simp [hn]) (by omega) (hb.take 4) (.inr ⟨b, off, rfl, fun i hi => by
      rw [List.length_take] at hi
      rw [HR.out W hW i (by omega), List.getElem?_take, if_pos (by omega)]⟩)).mono fun _ _ ⟨e1, e2⟩ => ⟨e1, e2, hb⟩
  have HNb : Hid (∀ W : World, W.heap[b]? = w0.heap[b]? → Calls Tryd.prog 33 #[.slice (some ⟨b, off + 4, none⟩) 4 (cap - 4)] W fun e w' => e = .returned (.int .i64 (rdH zs)) ∧ w' = W) := fun W hW =>
    rnum_any _ 4 (cap - 4) ((zs.drop 4).take 4) W (by simp [hn]) (by omega) ((hb.drop 4).take 4) (.inr ⟨b, off + 4, rfl, fun i hi => by
      rw [List.length_take, List.length_drop] at hi
      rw [Nat.add_assoc, HR.out W hW (4 + i) (by omega), List.getElem?_take, if_pos (by omega), List.getElem?_drop]⟩)
  have HV : Hid (rdV zs = (if byt zs 10 = 0 ∧ byt zs 11 = 0 ∧ byt zs 12 ≤ 1 ∧ mayN (rdW zs) (rdH zs) (byt zs 9) (byt zs 8) then HdV (rdW zs) (rdH zs) (byt zs 9) (byt zs 8) (byt zs 12 == 1) else HdV 0 0 0 0 false) ∧ rdE zs = (if byt zs 10 = 0 ∧ byt zs 11 = 0 ∧ byt zs 12 ≤ 1 ∧ mayN (rdW zs) (rdH zs) (byt zs 9) (byt zs 8) then 0 else 11)) := by
    show _ ∧ _
    simp [rdV, rdE, rdOk, hn]
  have q8 := hb.at 8
  have q9 := hb.at 9
  have q10 := hb.at 10
  have q11 := hb.at 11
  have q12 := hb.at 12
  have r8 := HR.out w0 rfl 8 (by omega)
  have r9 := HR.out w0 rfl 9 (by omega)
  have r10 := HR.out w0 rfl 10 (by omega)
  have r11 := HR.out w0 rfl 11 (by omega)
  have r12 := HR.out w0 rfl 12 (by omega)
  have HW : Hid (∀ wx, Below w0.heap.size w0 wx → (∀ i, wx.frozen? ⟨w.heap.size, i, none⟩ = false) ∧ wx.cell? ⟨w.heap.size, 0, none⟩ = some (.int .i64 0) ∧ wx.cell? ⟨w.heap.size, 1, none⟩ = some (.int .i64 0) ∧ wx.cell? ⟨w.heap.size, 2, none⟩ = some (.int .i64 0) ∧ wx.cell? ⟨w.heap.size, 3, none⟩ = some (.int .i64 0) ∧ wx.cell? ⟨w.heap.size, 4, none⟩ = some (.bool false)) := fun wx hx => by
    obtain ⟨e0, e1, e2, e3, e4, ef⟩ := five_cells ((hx.block w.heap.size HB0.out.2.2).trans HB0.out.2.1)
    exact ⟨ef, e0, e1, e2, e3, e4⟩
  have HP : Hid (∀ wx, Below w0.heap.size w0 wx → ∀ u0 u1 u2 u3 u4 (v : Value) (er : Int), RdPost w v er (.returned (.tuple #[v, .int .i64 er])) (((((wx.setCell ⟨w.heap.size, 0, none⟩ u0).setCell ⟨w.heap.size, 1, none⟩ u1).setCell ⟨w.heap.size, 2, none⟩ u2).setCell ⟨w.heap.size, 3, none⟩ u3).setCell ⟨w.heap.size, 4, none⟩ u4)) := fun wx hx u0 u1 u2 u3 u4 v er =>
    ⟨rfl, five_below (HB0.out.1.trans (hx.mono HB0.out.1.size)) (Nat.le_refl _) u0 u1 u2 u3 u4⟩
  have HPz : Hid (∀ o, RdPost w (HdV 0 0 0 0 false) 11 (.returned (.tuple #[HdV 0 0 0 0 false, .int .i64 11])) (w.alloc o)) := fun o => ⟨rfl, (Below.refl _ _).alloc (Nat.le_refl _) _⟩
  have HCM : Hid (∀ W1, Calls Tryd.prog 11 #[HdV (rdW zs) (rdH zs) (byt zs 9) (byt zs 8) (byt zs 12 == 1)] W1 fun e w' => e = .returned (.bool (decide (mayN (rdW zs) (rdH zs) (byt zs 9) (byt zs 8)))) ∧ Below W1.heap.size W1 w') := fun W1 => rmay_any _ _ _ _ _ W1
  clear hn hb hr
  unfold maxLen at hm
  change _ ∧ _ at q8 q9 q10 q11 q12
  unfold byt at HV HCM
  generalize zs[8]?.getD 0 = VD at *
  generalize zs[9]?.getD 0 = VC at *
  generalize zs[10]?.getD 0 = P at *
  generalize zs[11]?.getD 0 = F at *
  generalize zs[12]?.getD 0 = Lc at *
  generalize rdW zs = VW at *
  generalize rdH zs = VH at *
  have s8 := r8
  have s9 := r9
  have s12 := r12
  rw [hw0] at r8 r9 r10 r11 r12
  by_cases hP : P = 0
  · by_cases hF : F = 0
    · by_cases hL : Lc ≤ 1
      · have HV1 : Hid (mayN VW VH VC VD → rdV zs = HdV VW VH VC VD (Lc == 1) ∧ rdE zs = 0) := fun h => ⟨by rw [HV.out.1, if_pos ⟨hP, hF, hL, h⟩], by rw [HV.out.2, if_pos ⟨hP, hF, hL, h⟩]⟩
        have HV2 : Hid (¬ mayN VW VH VC VD → rdV zs = HdV 0 0 0 0 false ∧ rdE zs = 11) := fun h => ⟨by rw [HV.out.1, if_neg (fun k => h k.2.2.2)], by rw [HV.out.2, if_neg (fun k => h k.2.2.2)]⟩
        clear HV
        subst hP hF
        have hL2 : ¬ 1 < Lc := by omega
        go_enter Tryd.func15, Tryd.ntmps15
        go_wp2_with fail
        have hv8 : IntKind.i64.wrap VD = VD := by rw [IntKind.wrap_i64]; omega
        have hv9 : IntKind.i64.wrap VC = VC := by rw [IntKind.wrap_i64]; omega
        have h4c : (4 : Int) ≤ (cap : Int) := by omega
        have h8c : (8 : Int) ≤ (cap : Int) := by omega
        have h4n : ¬ cap = 4 := by omega
        have hbs : b < w.heap.size + 1 := by omega
        rw [← hw0]
        have hbs0 : b < w0.heap.size := by have := HB0.out.2.2; omega
        have HK2 : Hid (∀ o, (w0.drew.alloc o).heap[b]? = w0.heap[b]?) := fun o => Below.heap_alloc w0.drew o b hbs0
        have HK4 : Hid (∀ o, ((w0.alloc o).drew).heap[b]? = w0.heap[b]?) := fun o => Below.heap_alloc w0 o b hbs0
        have HK3 : Hid (w0.drew.heap[b]? = w0.heap[b]?) := rfl
        clear hw0 r8 r9 r10 r11 r12 hbs
        go_region_held3 (fun u => u.cell? ⟨b, off + 8, none⟩ = some (.int .u8 VD) ∧ u.cell? ⟨b, off + 9, none⟩ = some (.int .u8 VC) ∧ u.cell? ⟨b, off + 12, none⟩ = some (.int .u8 Lc)) (first | go_keep | exact ⟨by assumption, by assumption, by assumption⟩) (first
          | (go_at_call 33; with_reducible refine Calls.mono (HNb.out _ (by first | with_reducible exact HK3.out | with_reducible exact HK2.out _ | with_reducible exact HK4.out _)) ?_; rintro e w5 ⟨rfl, hw5⟩; rw [hw5]; clear hw5)
          | (go_at_call 33; with_reducible refine Calls.mono (HNa.out _ (by first | with_reducible exact HK3.out | with_reducible exact HK2.out _ | with_reducible exact HK4.out _)) ?_; rintro e w5 ⟨rfl, hw5, mk2⟩; rw [hw5]; clear hw5)
          | fail)
        all_goals
          have HIA : Hid (Below w0.heap.size w0 (w0.alloc (.cells #[.int .i64 VW, .int .i64 VH, .int .i64 VC, .int .i64 VD, .bool (Lc == 1)] 23)).drew ∧ (w0.alloc (.cells #[.int .i64 VW, .int .i64 VH, .int .i64 VC, .int .i64 VD, .bool (Lc == 1)] 23)).drew.heap[w0.heap.size]? = some (.cells #[.int .i64 VW, .int .i64 VH, .int .i64 VC, .int .i64 VD, .bool (Lc == 1)] 23 (0, 0))) := by
            have hk : Below w0.heap.size w0 (w0.alloc (.cells #[.int .i64 VW, .int .i64 VH, .int .i64 VC, .int .i64 VD, .bool (Lc == 1)] 23)) := (Below.refl _ _).alloc (Nat.le_refl _) _
            exact ⟨⟨hk.os, hk.tape, hk.output, hk.size, hk.block⟩, heap_alloc_new w0 _⟩
          have CM := HCM.out (w0.alloc (.cells #[.int .i64 VW, .int .i64 VH, .int .i64 VC, .int .i64 VD, .bool (Lc == 1)] 23)).drew
          generalize (w0.alloc (.cells #[.int .i64 VW, .int .i64 VH, .int .i64 VC, .int .i64 VD, .bool (Lc == 1)] 23)).drew = w10 at *
          have HIB : Hid (Below w0.heap.size w0 w10) := HIA.out.1
          have HIC := HIA.out.2
          clear HIA
          generalize w0.heap.size = hb at HIC ⊢
          have HIA : Hid (w10.heap[hb]? = some (.cells #[.int .i64 VW, .int .i64 VH, .int .i64 VC, .int .i64 VD, .bool (Lc == 1)] 23 (0, 0))) := HIC
          clear HIC
          obtain ⟨p0, p1, p2, p3, p4, -⟩ := five_cells HIA.out
          clear HNa HNb HK2 HK3 HK4 s8 s9 s12 HR
          by_cases hM : mayN VW VH VC VD
          · rw [decide_eq_true hM] at CM
            have HE : Hid (rdV zs = HdV VW VH VC VD (Lc == 1) ∧ rdE zs = 0) := HV1.out hM
            clear HV1 HV2 hM HCM
            unfold HdV at CM
            go_wp2_with fail
            refine CM.mono ?_
            clear CM
            rintro e w11 ⟨rfl, hb11⟩
            have HBX : Hid (Below w0.heap.size w0 w11) := HIB.out.trans (hb11.mono HIB.out.size)
            obtain ⟨ef, e0, e1, e2, e3, e4⟩ := HW.out _ HBX.out
            have ef0 := ef 0
            have ef1 := ef 1
            have ef2 := ef 2
            have ef3 := ef 3
            have ef4 := ef 4
            have h11 := (hb11.block hb (lt_of_block HIA.out)).trans HIA.out
            obtain ⟨g0, g1, g2, g3, g4, -⟩ := five_cells h11
            clear ef hb11 h11 p0 p1 p2 p3 p4
            go_wp2
            refine bodyPost_ret (v := .tuple #[HdV VW VH VC VD (Lc == 1), .int .i64 0]) ?_ rfl (by rw [HE.out.1, HE.out.2]; exact HP.out _ HBX.out _ _ _ _ _ _ _)
            rw [results_cellH rfl]
            go_simp
            rfl
          · rw [decide_eq_false hM] at CM
            have HE : Hid (rdV zs = HdV 0 0 0 0 false ∧ rdE zs = 11) := HV2.out hM
            clear HV1 HV2 hM HCM
            unfold HdV at CM
            go_wp2_with fail
            refine CM.mono ?_
            clear CM
            rintro e w11 ⟨rfl, hb11⟩
            have HBX : Hid (Below w0.heap.size w0 w11) := HIB.out.trans (hb11.mono HIB.out.size)
            obtain ⟨ef, e0, e1, e2, e3, e4⟩ := HW.out _ HBX.out
            have ef0 := ef 0
            have ef1 := ef 1
            have ef2 := ef 2
            have ef3 := ef 3
            have ef4 := ef 4
            clear ef hb11 p0 p1 p2 p3 p4
            go_wp2
            refine bodyPost_ret (v := .tuple #[HdV 0 0 0 0 false, .int .i64 11]) ?_ rfl (by rw [HE.out.1, HE.out.2]; exact HP.out _ HBX.out _ _ _ _ _ _ _)
            rw [results_cellH rfl]
            go_simp
            rfl
      · subst hP hF
        have hL2 : 1 < Lc := by omega
        have HE : Hid (rdV zs = HdV 0 0 0 0 false ∧ rdE zs = 11) := ⟨by rw [HV.out.1, if_neg (fun h => hL h.2.2.1)], by rw [HV.out.2, if_neg (fun h => hL h.2.2.1)]⟩
        clear HV HCM HW HP hw0 s8 s9 s12
        go_enter Tryd.func15, Tryd.ntmps15
        go_wp2
        refine bodyPost_ret (v := .tuple #[HdV 0 0 0 0 false, .int .i64 11]) ?_ rfl (by rw [HE.out.1, HE.out.2]; exact HPz.out _)
        rw [results_cellH rfl]
        go_simp
        rfl
    · subst hP
      have hFb : (F == 0) = false := by simpa using hF
      have hFc : (F != 0) = true := by simpa using hF
      have HE : Hid (rdV zs = HdV 0 0 0 0 false ∧ rdE zs = 11) := ⟨by rw [HV.out.1, if_neg (fun h => hF h.2.1)], by rw [HV.out.2, if_neg (fun h => hF h.2.1)]⟩
      clear HV HCM HW HP hw0 s8 s9 s12
      go_enter Tryd.func15, Tryd.ntmps15
      go_wp2
      refine bodyPost_ret (v := .tuple #[HdV 0 0 0 0 false, .int .i64 11]) ?_ rfl (by rw [HE.out.1, HE.out.2]; exact HPz.out _)
      rw [results_cellH rfl]
      go_simp
      rfl
  · have hPb : (P == 0) = false := by simpa using hP
    have hPc : (P != 0) = true := by simpa using hP
    have HE : Hid (rdV zs = HdV 0 0 0 0 false ∧ rdE zs = 11) := ⟨by rw [HV.out.1, if_neg (fun h => hP h.1)], by rw [HV.out.2, if_neg (fun h => hP h.1)]⟩
    clear HV HCM HW HP hw0 s8 s9 s12
    go_enter Tryd.func15, Tryd.ntmps15
    go_wp2
    refine bodyPost_ret (v := .tuple #[HdV 0 0 0 0 false, .int .i64 11]) ?_ rfl (by rw [HE.out.1, HE.out.2]; exact HPz.out _)
    rw [results_cellH rfl]
    go_simp
    rfl
theorem rread_any (a : Option Addr) (n cap : Nat) (zs : List Int) (w : World) (hn : zs.length = n) (hcap : n ≤ cap) (hm : cap ≤ maxLen) (hb : Bytes zs) (hr : Row w a zs) : Calls Tryd.prog 15 #[.slice a n cap] w fun e w' => RdPost w (rdV zs) (rdE zs) e w' := by
  by_cases h : n = 13
  · subst h
    rcases hr with e | ⟨b, off, rfl, hc⟩
    · rw [e] at hn; simp at hn
    · exact rread13_any b off cap zs w hn hcap hm hb hc
  · have hk : ¬ rdOk zs := fun k => h (by rw [← hn]; exact k.1)
    rw [rdV, rdE, if_neg hk, if_neg hk]
    exact rread_len a n cap w h
end Go.Proofs.YticdpibaojhpiaaDoor
