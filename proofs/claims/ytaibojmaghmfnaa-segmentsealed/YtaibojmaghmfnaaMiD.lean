/- Which messages may be: the document. -/
import Derived.Test.YtaibojmaghmfnaaMiB
import Derived.Test.YtaibojmaghmfnaaMiDa
import Derived.Test.YtaibojmaghmfnaaMiDk
namespace Go.Proofs.Ytaibojmaghmfnaa
open Go.RowKit
theorem row_nilI (w : World) (a : Option Addr) {l : List Int} (h : l.length = 0) : Row w a l := by
  exact .inl (List.eq_nil_of_length_eq_zero h)
theorem rgr_nil (w : World) (a : Option Addr) {G : List (Int × Int)} (h : G.length = 0) : RgR w a G := .inl (List.eq_nil_of_length_eq_zero h)
/-- A message and what its kind has of it: are they the same? -/
theorem rsame_plain (m : Ms) (G : List (Int × Int)) (D : List Int) (w : World) (hm : MsM w m G D) : Calls Try.prog 12 #[m.V, (plM m).V] w fun e w' => e = .returned (.bool (sameM m (plM m))) ∧ Below w.heap.size w w' := by
  have hkb : m.k = (plM m).k ∧ m.bo = (plM m).bo := by unfold plM Ms.kb; exact ⟨rfl, rfl⟩
  have hra : ((plM m).ra = m.ra ∧ (plM m).rn = m.rn) ∨ (plM m).rn = 0 := by
    unfold plM Ms.kb
    split
    · exact .inr rfl
    split
    · exact .inr rfl
    split
    · exact .inr rfl
    split
    · exact .inl ⟨rfl, rfl⟩
    split
    · exact .inr rfl
    · exact .inr rfl
  have hda : ((plM m).da = m.da ∧ (plM m).dn = m.dn) ∨ (plM m).dn = 0 := by
    unfold plM Ms.kb
    split
    · exact .inr rfl
    split
    · exact .inr rfl
    split
    · exact .inl ⟨rfl, rfl⟩
    split
    · exact .inr rfl
    split
    · exact .inr rfl
    · exact .inr rfl
  cases hs : sameM m (plM m)
  · have : ∃ D', D'.length = (plM m).dn ∧ Bytes D' ∧ Row w (plM m).da D' := by
      rcases hda with ⟨h1, h2⟩ | h
      · exact ⟨D, by rw [h2]; exact hm.d.1, hm.d.2.1, by rw [h1]; exact hm.d.2.2.2.2.2⟩
      · exact ⟨[], by rw [h]; rfl, by intro x hx; simp at hx, row_nilI _ _ rfl⟩
    obtain ⟨D', hd1, hd2, hd3⟩ := this
    exact rsame_no m (plM m) D D' w hs hkb.1 hkb.2 hm.d.1 hd1 hm.d.2.1 hd2 hm.d.2.2.2.2.2 hd3 ⟨hm.rb, by have := hm.rb; rcases hra with ⟨_, h⟩ | h <;> omega⟩
  · obtain ⟨s1, s2, s3, s4, s5, s6, s7, s8, s9, s10⟩ := same_ask hs
    refine rsame_yes m (plM m) G D w ⟨hkb.1, hkb.2, s1, s2, s3, s4, s5, s6, s7, s8, s9, s10⟩ hm.gn hm.d.1 hm.rb hm.g ?_ hm.d.2.2.2.2.2 ?_
    · rcases hra with ⟨h1, _⟩ | h
      · rw [h1]; exact hm.g
      · exact rgr_nil _ _ (by rw [hm.gn]; omega)
    · rcases hda with ⟨h1, _⟩ | h
      · rw [h1]; exact hm.d.2.2.2.2.2
      · exact row_nilI _ _ (by have := hm.d.1; omega)
set_option maxRecDepth 100000 in
set_option maxHeartbeats 64000000 in
theorem rmay_yes (m : Ms) (G : List (Int × Int)) (D : List Int) (w : World) (hk : isKd m.k = true) (hm : MsM w m G D) : Calls Try.prog 23 #[m.V] w fun e w' => e = .returned (.bool (sameM m (plM m) && myM m G)) ∧ Below w.heap.size w w' := by
  have HQ : Hid (QM w m.c12 _) := QM.box w m.c12
  have C1 : Hid (∀ u, QM w m.c12 u → Calls Try.prog 45 #[m.V] u fun e w' => e = .returned (plM m).V ∧ QM w m.c12 w') := fun u h => (rplain_any m u).mono fun e w' q => ⟨q.1, h.old q.2⟩
  have C2 : Hid (∀ u, QM w m.c12 u → Calls Try.prog 12 #[m.V, (plM m).V] u fun e w' => e = .returned (.bool (sameM m (plM m))) ∧ QM w m.c12 w') := fun u h => (rsame_plain m G D u (hm.old h.1)).mono fun e w' q => ⟨q.1, h.old q.2⟩
  have HG : Hid (RgR w m.ra G) := hm.g
  have HN : Hid (G.length = m.rn) := hm.gn
  have hrb : m.rn ≤ 70368744177664 := hm.rb
  have hk5 := of_decide_eq_true hk
  have HF : Hid (sameM m (plM m) = true → BadF m → myM m G = false) := fun a b => my_bad m G hk a b
  have HT : Hid (sameM m (plM m) = true → ¬ BadF m → myM m G = ordP m.ix G) := fun a b => my_good m G hk a hm.gn b
  obtain ⟨S, hS⟩ : ∃ S, sameM m (plM m) = S := ⟨_, rfl⟩
  obtain ⟨R, hR⟩ : ∃ R, myM m G = R := ⟨_, rfl⟩
  obtain ⟨PV, hPV⟩ : ∃ PV, (plM m).V = PV := ⟨_, rfl⟩
  rw [hPV] at C1 C2
  rw [hS] at C2 HF HT ⊢
  rw [hR] at HF HT ⊢
  clear hS hm hk hPV hR
  unfold BadF at HF HT
  obtain ⟨k, bo, fi, su, si, ap, bd, ix, pa, co, ra, rn, rc, da, dn, dc⟩ := m
  unfold Ms.V at *
  unfold Ms.c12 at *
  simp only at *
  have h1 : ¬ k < 1 := by omega
  have h5 : ¬ 5 < k := by omega
  go_enter Try.func23, Try.ntmps23
  have q0 := HQ.out.2
  obtain ⟨d0, d1, d2, d3, d4, d5, d6, d7, d8, d9, d10, d11⟩ := twelve_cells q0
  clear q0
  have HQ0 : Hid (QM w #[.int .i64 k, .int .u32 bo, .int .i64 fi, .int .u32 su, .int .i64 si, .int .i64 ap, .int .i64 bd, .int .i64 ix, .int .i64 pa, .int .i64 co, .slice ra rn rc, .slice da dn dc] ((w.alloc (.cells #[.int .i64 k, .int .u32 bo, .int .i64 fi, .int .u32 su, .int .i64 si, .int .i64 ap, .int .i64 bd, .int .i64 ix, .int .i64 pa, .int .i64 co, .slice ra rn rc, .slice da dn dc] 26)).drew)) := HQ.out.old ⟨rfl, rfl, rfl, Nat.le_refl _, fun _ _ => rfl⟩
  go_upto_region 1 with fail
  go_region_held3 (fun u => u.cell? ⟨w.heap.size, 0, none⟩ = some (.int .i64 k) ∧ u.cell? ⟨w.heap.size, 1, none⟩ = some (.int .u32 bo) ∧ u.cell? ⟨w.heap.size, 2, none⟩ = some (.int .i64 fi) ∧ u.cell? ⟨w.heap.size, 3, none⟩ = some (.int .u32 su) ∧ u.cell? ⟨w.heap.size, 4, none⟩ = some (.int .i64 si) ∧ u.cell? ⟨w.heap.size, 5, none⟩ = some (.int .i64 ap) ∧ u.cell? ⟨w.heap.size, 6, none⟩ = some (.int .i64 bd) ∧ u.cell? ⟨w.heap.size, 7, none⟩ = some (.int .i64 ix) ∧ u.cell? ⟨w.heap.size, 8, none⟩ = some (.int .i64 pa) ∧ u.cell? ⟨w.heap.size, 9, none⟩ = some (.int .i64 co) ∧ u.cell? ⟨w.heap.size, 10, none⟩ = some (.slice ra rn rc) ∧ u.cell? ⟨w.heap.size, 11, none⟩ = some (.slice da dn dc))
      (first | (with_reducible exact ⟨by with_reducible assumption, by with_reducible assumption, by with_reducible assumption, by with_reducible assumption, by with_reducible assumption, by with_reducible assumption, by with_reducible assumption, by with_reducible assumption, by with_reducible assumption, by with_reducible assumption, by with_reducible assumption, by with_reducible assumption⟩) | go_keep) (first
      | (go_at_call 45; (with_reducible refine Calls.mono (C1.out _ HQ0.out) ?_); rintro e x1 ⟨rfl, q1⟩; have HQ1 : Hid (QM w #[.int .i64 k, .int .u32 bo, .int .i64 fi, .int .u32 su, .int .i64 si, .int .i64 ap, .int .i64 bd, .int .i64 ix, .int .i64 pa, .int .i64 co, .slice ra rn rc, .slice da dn dc] x1) := q1; obtain ⟨e0, e1, e2, e3, e4, e5, e6, e7, e8, e9, e10, e11⟩ := twelve_cells q1.2; clear q1)
      | (go_at_call 12; (with_reducible refine Calls.mono (C2.out _ HQ1.out) ?_); rintro e x2 ⟨rfl, q2⟩; have HQ2 : Hid (QM w #[.int .i64 k, .int .u32 bo, .int .i64 fi, .int .u32 su, .int .i64 si, .int .i64 ap, .int .i64 bd, .int .i64 ix, .int .i64 pa, .int .i64 co, .slice ra rn rc, .slice da dn dc] x2) := q2; obtain ⟨f0, f1, f2, f3, f4, f5, f6, f7, f8, f9, f10, f11⟩ := twelve_cells q2.2; clear q2)
      | fail)
  cases S
  · go_wp2
    go_ret
    exact ⟨rfl, HQ2.out.1⟩
  replace HF := HF.out (by trivial)
  replace HT := HT.out (by trivial)
  replace HF : Hid _ := HF
  replace HT : Hid _ := HT
  clear HQ HQ0 HQ1 C1 C2
  go_upto_region 3 with fail
  by_cases b0 : fi < 0
  · go_wp2
    go_ret
    exact ⟨ret_boolM (by rw [HF.out (by first | omega | (simp; omega))] <;> rfl), HQ2.out.1⟩
  by_cases b1 : 16 ≤ fi
  · go_wp2
    go_ret
    exact ⟨ret_boolM (by rw [HF.out (by first | omega | (simp; omega))] <;> rfl), HQ2.out.1⟩
  by_cases b2 : ap < 0
  · go_wp2
    go_ret
    exact ⟨ret_boolM (by rw [HF.out (by first | omega | (simp; omega))] <;> rfl), HQ2.out.1⟩
  by_cases b3 : 1048576 < ap
  · go_wp2
    go_ret
    exact ⟨ret_boolM (by rw [HF.out (by first | omega | (simp; omega))] <;> rfl), HQ2.out.1⟩
  by_cases b4 : ix < 0
  · go_wp2
    go_ret
    exact ⟨ret_boolM (by rw [HF.out (by first | omega | (simp; omega))] <;> rfl), HQ2.out.1⟩
  by_cases b5 : 2147483647 < ix
  · go_wp2
    go_ret
    exact ⟨ret_boolM (by rw [HF.out (by first | omega | (simp; omega))] <;> rfl), HQ2.out.1⟩
  by_cases b6 : pa < 0
  · go_wp2
    go_ret
    exact ⟨ret_boolM (by rw [HF.out (by first | omega | (simp; omega))] <;> rfl), HQ2.out.1⟩
  by_cases b7 : 8 < pa
  · go_wp2
    go_ret
    exact ⟨ret_boolM (by rw [HF.out (by first | omega | (simp; omega))] <;> rfl), HQ2.out.1⟩
  by_cases b8 : co < 0
  · go_wp2
    go_ret
    exact ⟨ret_boolM (by rw [HF.out (by first | omega | (simp; omega))] <;> rfl), HQ2.out.1⟩
  by_cases b9 : 255 < co
  · go_wp2
    go_ret
    exact ⟨ret_boolM (by rw [HF.out (by first | omega | (simp; omega))] <;> rfl), HQ2.out.1⟩
  by_cases b10 : (4 : Int) < (rn : Int)
  · go_wp2
    go_ret
    exact ⟨ret_boolM (by rw [HF.out (by first | omega | (simp; omega))] <;> rfl), HQ2.out.1⟩
  by_cases b11 : (1024 : Int) < (dn : Int)
  · go_wp2
    go_ret
    exact ⟨ret_boolM (by rw [HF.out (by first | omega | (simp; omega))] <;> rfl), HQ2.out.1⟩
  go_upto_region 5 with fail
  by_cases k2 : k = 2
  · subst k2
    by_cases o0 : si < 1
    · go_wp2
      go_ret
      exact ⟨ret_boolM (by rw [HF.out (by first | omega | (simp; omega))] <;> rfl), HQ2.out.1⟩
    by_cases o1 : 1048576 < si
    · go_wp2
      go_ret
      exact ⟨ret_boolM (by rw [HF.out (by first | omega | (simp; omega))] <;> rfl), HQ2.out.1⟩
    by_cases o2 : si < ap
    · go_wp2
      go_ret
      exact ⟨ret_boolM (by rw [HF.out (by first | omega | (simp; omega))] <;> rfl), HQ2.out.1⟩
    by_cases o3 : bd < 1
    · go_wp2
      go_ret
      exact ⟨ret_boolM (by rw [HF.out (by first | omega | (simp; omega))] <;> rfl), HQ2.out.1⟩
    by_cases o4 : 1024 < bd
    · go_wp2
      go_ret
      exact ⟨ret_boolM (by rw [HF.out (by first | omega | (simp; omega))] <;> rfl), HQ2.out.1⟩
    replace HT := HT.out (by first | omega | (simp; omega))
    replace HT : Hid (R = ordP ix G) := HT
    go_upto_region 9 with fail
    go_wp2
    go_loopw [3, 5, 125] (fun v _ t wr => ∃ (i : Nat) (h : Int), i ≤ rn ∧ 0 ≤ h ∧ t = .int .i64 i ∧ v = .int .i64 h ∧ Hid (ordP ix G = ordP h (G.drop i)) ∧ Below w.heap.size w wr) (fun _ _ t _ => rn - (intOf t).toNat)
    case atStart => exact ⟨0, ix, Nat.zero_le _, by omega, rfl, rfl, rfl, HQ2.out.1⟩
    case round =>
      obtain ⟨i, h, hi, h0, rfl, rfl, HE, hbel⟩ := hrel
      by_cases hlt : i < rn
      · have hA := ordP_at h G i (by rw [HN.out]; exact hlt)
        rw [← HE.out] at hA
        have HA : Hid _ := hA
        obtain ⟨b, off, rfl, hc⟩ : ∃ b off, ra = some ⟨b, off, none⟩ ∧ ∀ i, i < G.length → w.cell? ⟨b, off + i * 2, none⟩ = some (.int .i64 (gx G i)) ∧ w.cell? ⟨b, off + i * 2 + 1, none⟩ = some (.int .i64 (gy G i)) := by
          rcases HG.out with e | e
          · have := HN.out; rw [e] at this; simp at this; omega
          · exact e
        obtain ⟨c0, c1⟩ := hc i (by rw [HN.out]; exact hlt)
        have c0' := (hbel.cell (p := ⟨b, off + i * 2, none⟩) (cell_lt c0)).trans c0
        have c1' := (hbel.cell (p := ⟨b, off + i * 2 + 1, none⟩) (cell_lt c1)).trans c1
        have HB : Hid (Below w.heap.size w wr) := hbel
        have HR2 := HT
        clear hc hA hbel c0 c1 HE
        generalize gx G i = x at *
        obtain ⟨y, hy⟩ : ∃ y, gy G i = y := ⟨_, rfl⟩
        rw [hy] at c1' HA
        clear hy
        by_cases h2 : h < x
        · have h2' : ¬ x ≤ h := by omega
          by_cases h3 : x < y
          · have h3' : ¬ y ≤ x := by omega
            by_cases h4 : 2147483647 < y
            · rw [show wi y 0 2147483647 = false from decide_eq_false (by omega)] at HA
              go_wp2
              go_ret
              exact ⟨ret_boolM (by rw [HR2.out, HA.out]; rfl), HB.out.alloc HB.out.size _⟩
            · rw [show wi y 0 2147483647 = true from decide_eq_true (by omega), decide_eq_true h2, decide_eq_true h3] at HA
              go_wp2
              go_roundw
              case rel => exact ⟨i + 1, y, by omega, by omega, by go_num, rfl, HA.out, HB.out.alloc HB.out.size _⟩
              case measure => simp [intOf]; omega
          · have h3' : y ≤ x := by omega
            rw [decide_eq_true h2, decide_eq_false h3, Bool.and_false, Bool.false_and] at HA
            go_wp2
            go_ret
            exact ⟨ret_boolM (by rw [HR2.out, HA.out]), HB.out.alloc HB.out.size _⟩
        · have h2' : x ≤ h := by omega
          rw [decide_eq_false h2, Bool.and_false, Bool.false_and, Bool.false_and] at HA
          go_wp2
          go_ret
          exact ⟨ret_boolM (by rw [HR2.out, HA.out]), HB.out.alloc HB.out.size _⟩
      · obtain rfl : i = rn := by omega
        have : G.drop i = [] := by rw [List.drop_eq_nil_iff, HN.out]; exact Nat.le_refl _
        rw [this] at HE
        clear this
        have HR2 := HT
        go_wp2
        go_ret
        exact ⟨ret_boolM (by rw [HR2.out, HE.out]; rfl), hbel⟩
  have k2' : (k == 2) = false := by simp; exact k2
  go_upto_region 7 with fail
  by_cases k3 : k = 3
  · subst k3
    by_cases n0 : (dn : Int) = 0
    · go_wp2
      go_ret
      exact ⟨ret_boolM (by rw [HF.out (by first | omega | (simp; omega))] <;> rfl), HQ2.out.1⟩
    have n0' : ((dn : Int) == 0) = false := by simp; omega
    replace HT := HT.out (by first | omega | (simp; omega))
    replace HT : Hid (R = ordP ix G) := HT
    go_upto_region 9 with fail
    go_wp2
    go_loopw [3, 5, 125] (fun v _ t wr => ∃ (i : Nat) (h : Int), i ≤ rn ∧ 0 ≤ h ∧ t = .int .i64 i ∧ v = .int .i64 h ∧ Hid (ordP ix G = ordP h (G.drop i)) ∧ Below w.heap.size w wr) (fun _ _ t _ => rn - (intOf t).toNat)
    case atStart => exact ⟨0, ix, Nat.zero_le _, by omega, rfl, rfl, rfl, HQ2.out.1⟩
    case round =>
      obtain ⟨i, h, hi, h0, rfl, rfl, HE, hbel⟩ := hrel
      by_cases hlt : i < rn
      · have hA := ordP_at h G i (by rw [HN.out]; exact hlt)
        rw [← HE.out] at hA
        have HA : Hid _ := hA
        obtain ⟨b, off, rfl, hc⟩ : ∃ b off, ra = some ⟨b, off, none⟩ ∧ ∀ i, i < G.length → w.cell? ⟨b, off + i * 2, none⟩ = some (.int .i64 (gx G i)) ∧ w.cell? ⟨b, off + i * 2 + 1, none⟩ = some (.int .i64 (gy G i)) := by
          rcases HG.out with e | e
          · have := HN.out; rw [e] at this; simp at this; omega
          · exact e
        obtain ⟨c0, c1⟩ := hc i (by rw [HN.out]; exact hlt)
        have c0' := (hbel.cell (p := ⟨b, off + i * 2, none⟩) (cell_lt c0)).trans c0
        have c1' := (hbel.cell (p := ⟨b, off + i * 2 + 1, none⟩) (cell_lt c1)).trans c1
        have HB : Hid (Below w.heap.size w wr) := hbel
        have HR2 := HT
        clear hc hA hbel c0 c1 HE
        generalize gx G i = x at *
        obtain ⟨y, hy⟩ : ∃ y, gy G i = y := ⟨_, rfl⟩
        rw [hy] at c1' HA
        clear hy
        by_cases h2 : h < x
        · have h2' : ¬ x ≤ h := by omega
          by_cases h3 : x < y
          · have h3' : ¬ y ≤ x := by omega
            by_cases h4 : 2147483647 < y
            · rw [show wi y 0 2147483647 = false from decide_eq_false (by omega)] at HA
              go_wp2
              go_ret
              exact ⟨ret_boolM (by rw [HR2.out, HA.out]; rfl), HB.out.alloc HB.out.size _⟩
            · rw [show wi y 0 2147483647 = true from decide_eq_true (by omega), decide_eq_true h2, decide_eq_true h3] at HA
              go_wp2
              go_roundw
              case rel => exact ⟨i + 1, y, by omega, by omega, by go_num, rfl, HA.out, HB.out.alloc HB.out.size _⟩
              case measure => simp [intOf]; omega
          · have h3' : y ≤ x := by omega
            rw [decide_eq_true h2, decide_eq_false h3, Bool.and_false, Bool.false_and] at HA
            go_wp2
            go_ret
            exact ⟨ret_boolM (by rw [HR2.out, HA.out]), HB.out.alloc HB.out.size _⟩
        · have h2' : x ≤ h := by omega
          rw [decide_eq_false h2, Bool.and_false, Bool.false_and, Bool.false_and] at HA
          go_wp2
          go_ret
          exact ⟨ret_boolM (by rw [HR2.out, HA.out]), HB.out.alloc HB.out.size _⟩
      · obtain rfl : i = rn := by omega
        have : G.drop i = [] := by rw [List.drop_eq_nil_iff, HN.out]; exact Nat.le_refl _
        rw [this] at HE
        clear this
        have HR2 := HT
        go_wp2
        go_ret
        exact ⟨ret_boolM (by rw [HR2.out, HE.out]; rfl), hbel⟩
  have k3' : (k == 3) = false := by simp; exact k3
  replace HT := HT.out (by first | omega | (simp; omega))
  replace HT : Hid (R = ordP ix G) := HT
  go_upto_region 9 with fail
  go_wp2
  go_loopw [3, 5, 125] (fun v _ t wr => ∃ (i : Nat) (h : Int), i ≤ rn ∧ 0 ≤ h ∧ t = .int .i64 i ∧ v = .int .i64 h ∧ Hid (ordP ix G = ordP h (G.drop i)) ∧ Below w.heap.size w wr) (fun _ _ t _ => rn - (intOf t).toNat)
  case atStart => exact ⟨0, ix, Nat.zero_le _, by omega, rfl, rfl, rfl, HQ2.out.1⟩
  case round =>
    obtain ⟨i, h, hi, h0, rfl, rfl, HE, hbel⟩ := hrel
    by_cases hlt : i < rn
    · have hA := ordP_at h G i (by rw [HN.out]; exact hlt)
      rw [← HE.out] at hA
      have HA : Hid _ := hA
      obtain ⟨b, off, rfl, hc⟩ : ∃ b off, ra = some ⟨b, off, none⟩ ∧ ∀ i, i < G.length → w.cell? ⟨b, off + i * 2, none⟩ = some (.int .i64 (gx G i)) ∧ w.cell? ⟨b, off + i * 2 + 1, none⟩ = some (.int .i64 (gy G i)) := by
        rcases HG.out with e | e
        · have := HN.out; rw [e] at this; simp at this; omega
        · exact e
      obtain ⟨c0, c1⟩ := hc i (by rw [HN.out]; exact hlt)
      have c0' := (hbel.cell (p := ⟨b, off + i * 2, none⟩) (cell_lt c0)).trans c0
      have c1' := (hbel.cell (p := ⟨b, off + i * 2 + 1, none⟩) (cell_lt c1)).trans c1
      have HB : Hid (Below w.heap.size w wr) := hbel
      have HR2 := HT
      clear hc hA hbel c0 c1 HE
      generalize gx G i = x at *
      obtain ⟨y, hy⟩ : ∃ y, gy G i = y := ⟨_, rfl⟩
      rw [hy] at c1' HA
      clear hy
      by_cases h2 : h < x
      · have h2' : ¬ x ≤ h := by omega
        by_cases h3 : x < y
        · have h3' : ¬ y ≤ x := by omega
          by_cases h4 : 2147483647 < y
          · rw [show wi y 0 2147483647 = false from decide_eq_false (by omega)] at HA
            go_wp2
            go_ret
            exact ⟨ret_boolM (by rw [HR2.out, HA.out]; rfl), HB.out.alloc HB.out.size _⟩
          · rw [show wi y 0 2147483647 = true from decide_eq_true (by omega), decide_eq_true h2, decide_eq_true h3] at HA
            go_wp2
            go_roundw
            case rel => exact ⟨i + 1, y, by omega, by omega, by go_num, rfl, HA.out, HB.out.alloc HB.out.size _⟩
            case measure => simp [intOf]; omega
        · have h3' : y ≤ x := by omega
          rw [decide_eq_true h2, decide_eq_false h3, Bool.and_false, Bool.false_and] at HA
          go_wp2
          go_ret
          exact ⟨ret_boolM (by rw [HR2.out, HA.out]), HB.out.alloc HB.out.size _⟩
      · have h2' : x ≤ h := by omega
        rw [decide_eq_false h2, Bool.and_false, Bool.false_and, Bool.false_and] at HA
        go_wp2
        go_ret
        exact ⟨ret_boolM (by rw [HR2.out, HA.out]), HB.out.alloc HB.out.size _⟩
    · obtain rfl : i = rn := by omega
      have : G.drop i = [] := by rw [List.drop_eq_nil_iff, HN.out]; exact Nat.le_refl _
      rw [this] at HE
      clear this
      have HR2 := HT
      go_wp2
      go_ret
      exact ⟨ret_boolM (by rw [HR2.out, HE.out]; rfl), hbel⟩
/-- The document's May: as the program's, over what the kind has. -/
theorem rmay_any (m : Ms) (G : List (Int × Int)) (D : List Int) (w : World) (hm : MsM w m G D) : Calls Try.prog 23 #[m.V] w fun e w' => e = .returned (.bool (isKd m.k && myM m G)) ∧ Below w.heap.size w w' := by
  cases hk : isKd m.k
  · exact rmay_kind m w hk
  · refine (rmay_yes m G D w hk hm).mono fun e w' q => ⟨q.1.trans (ret_boolM ?_), q.2⟩
    have : myM m G = true → sameM m (plM m) = true := by
      intro hy
      rcases kd_five hk with e | e | e | e | e <;> unfold myM at hy <;> unfold plM <;> rw [e] at hy ⊢ <;> simp only [Int.reduceEq, ↓reduceIte] at hy ⊢
      · exact (Bool.and_eq_true _ _ ▸ hy : _ ∧ _).1
      · exact (Bool.and_eq_true _ _ ▸ hy : _ ∧ _).1
      · exact (Bool.and_eq_true _ _ ▸ hy : _ ∧ _).1
      · exact (Bool.and_eq_true _ _ ▸ hy : _ ∧ _).1
      · exact (Bool.and_eq_true _ _ ▸ hy : _ ∧ _).1
    cases hs : sameM m (plM m)
    · cases hy : myM m G
      · rfl
      · rw [this hy] at hs; cases hs
    · rfl
end Go.Proofs.Ytaibojmaghmfnaa
