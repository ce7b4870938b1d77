/- SegmentTurned: the walk. -/
import Derived.Test.YtaibojmaghmfnaaMgZ
import Derived.Test.YtaibojmaghmfnaaCrS
import Derived.Test.YtaibojmaghmfnaaTrB
import Derived.Test.YtaibojmaghmfnaaMhO
namespace Go.Proofs.Ytaibojmaghmfnaa
open Go.RowKit Go.ChangeShapes Go.WideShapes
/-- A sealed text of which some bits are turned is none. -/
theorem turned_rd (A : List Int) (hA : Bytes A) (h5 : 5 ≤ A.length) (k : Nat) (f : Nat → Int) (hne : sealM A ≠ turnB (sealM A) k f) : rdOk (turnB (sealM A) k f) = false ∧ rdE (turnB (sealM A) k f) = 4 := by
  have hl : (sealM A).length = A.length + 4 := by unfold sealM; rw [List.length_append, octs_len]
  have hs : crcM (BitVec.ofNat 32 0) A = wd (litN (octs ((crcM (BitVec.ofNat 32 0) A).toNat : Int) 4)) := by
    rw [lit_octs _ 4 (by omega) (by omega) (by have := (crcM (BitVec.ofNat 32 0) A).isLt; simp; omega)]
    exact (ofInt_toNat _).symm
  have h := sealed_ne A (octs ((crcM (BitVec.ofNat 32 0) A).toNat : Int) 4) hA (octs_byte _ _) (octs_len _ _) hs k f hne
  have e : A ++ octs ((crcM (BitVec.ofNat 32 0) A).toNat : Int) 4 = sealM A := rfl
  rw [e] at h
  have hT : (turnB (sealM A) k f).length = A.length + 4 := by rw [turnB_len, hl]
  have hx : ¬ smT (turnB (sealM A) k f) = crT (turnB (sealM A) k f) := by
    unfold smT crT txT
    rw [hT, show A.length + 4 - 4 = A.length by omega]
    exact fun q => h q.symm
  unfold rdOk rdE
  rw [decide_eq_false hx, if_neg hx, hT, if_neg (by omega)]
  simp
theorem seal_len (A : List Int) : (sealM A).length = A.length + 4 := by unfold sealM; rw [List.length_append, octs_len]
set_option maxHeartbeats 12800000 in
theorem turned_walk (m : Ms) (G : List (Int × Int)) (D : List Int) (p z : Int) (w : World) (hk : (Lit.int .i64 m.k).wf = true) (hm : MsM w m G D) (hp : 0 ≤ p ∧ p < 65536) (hz : 0 ≤ z ∧ z < 4294967296) : Calls Try.prog 7 #[m.V, .int .u16 p, .int .u32 z] w fun e w' => e = .returned (.bool true) ∧ Below w.heap.size w w' := by
  have HQ : Hid (QM w m.c12 _) := QM.box w m.c12
  have HW : Hid (∀ u, QM w m.c12 u → Calls Try.prog 9 #[m.V] u fun e w' => WaP u m G D e w') := fun u h => write_all m G D u hk (hm.old h.1)
  have hln : myM m G = true → lnM m ≤ 1029 := lnM_le m G
  obtain ⟨LN, hLN⟩ : ∃ LN, lnM m = LN := ⟨_, rfl⟩
  obtain ⟨A, hAe⟩ : ∃ A, txM m G D = A := ⟨_, rfl⟩
  have HA5 : Hid (5 ≤ A.length) := (by rw [← hAe]; exact tx_len m G D : 5 ≤ A.length)
  obtain ⟨ok, hok⟩ : ∃ ok, mayW m G = ok := ⟨_, rfl⟩
  have HW2 : Hid (∀ u, QM w m.c12 u → Calls Try.prog 9 #[m.V] u fun e w' => (ok = false → e = .returned (.tuple #[.slice none 0 0, .int .i64 1]) ∧ Below u.heap.size u w') ∧ (ok = true → WrP u (9 + LN) (sealM A) e w')) := fun u h => (HW.out u h).mono fun e w' q => by
    unfold WaP at q
    rw [hok, hLN, hAe] at q
    exact q
  have HOk : Hid (ok = true → okT A = true) := fun h => by
    rw [← hok] at h
    unfold mayW at h
    simp only [Bool.and_eq_true] at h
    rw [← hAe]
    exact (back_all m G D h.1 h.2 hm.gn hm.d.1 hm.su hm.bo).1
  have hln2 : ok = true → LN ≤ 1029 := fun h => by
    rw [← hok] at h
    unfold mayW at h
    simp only [Bool.and_eq_true] at h
    rw [← hLN]
    exact hln h.2
  clear HW hk hm hln hLN hAe hok
  obtain ⟨k, bo, fi, su, si, ap, bd, ix, pa, co, ra, rn, rc, da, dn, dc⟩ := m
  unfold Ms.V at *
  unfold Ms.c12 at *
  simp only at *
  obtain ⟨p1, p2⟩ := hp
  obtain ⟨z1, z2⟩ := hz
  go_enter Try.func7, Try.ntmps7
  go_wp2_with fail
  refine (fixed_any _).mono ?_
  rintro e w1 ⟨rfl, b1⟩
  have HQ1 : Hid (QM w #[.int .i64 k, .int .u32 bo, .int .i64 fi, .int .u32 su, .int .i64 si, .int .i64 ap, .int .i64 bd, .int .i64 ix, .int .i64 pa, .int .i64 co, .slice ra rn rc, .slice da dn dc] w1) := HQ.out.old b1
  obtain ⟨m0, m1, m2, m3, m4, m5, m6, m7, m8, m9, m10, m11⟩ := twelve_cells HQ1.out.2
  clear b1 HQ
  go_wp2_with fail
  refine Calls.mono (HW2.out _ HQ1.out) ?_
  rintro e w2 ⟨hf, ht⟩
  cases ok
  · obtain ⟨rfl, b2⟩ := hf rfl
    have HB : Hid (Below w.heap.size w w2) := HQ1.out.1.trans (b2.mono HQ1.out.1.size)
    clear hf ht b2
    go_wp2
    go_ret
    exact ⟨rfl, HB.out⟩
  · obtain ⟨a, c, g, rfl, sl, hl, hb, fr, b2⟩ := ht rfl
    have hLN := hln2 rfl
    have HOk2 : Hid (okT A = true) := HOk.out rfl
    obtain ⟨a', c', e, q1, q2, q3⟩ := sl.shape
    simp at e
    obtain ⟨rfl, -, rfl⟩ := e
    rw [vals_len, hl] at q1
    have HB : Hid (Below w.heap.size w w2) := HQ1.out.1.trans (b2.mono HQ1.out.1.size)
    have HRw : Hid (Row w2 a (sealM A)) := sl.row rfl
    have HL : Hid ((sealM A).length = 9 + LN ∧ Bytes (sealM A)) := ⟨hl, hb⟩
    have HAb : Hid (Bytes A) := (fun x hx => hb x (by unfold sealM; exact List.mem_append_left _ hx))
    obtain ⟨N, hN⟩ : ∃ N, 9 + LN = N := ⟨_, rfl⟩
    rw [hN] at HL q1 ⊢
    have hN9 : 9 ≤ N := by omega
    have hNm : N ≤ 1038 := by omega
    clear hf ht sl hl hb fr b2 hN HW2 hln2 hLN
    obtain ⟨T, hT, hT2⟩ : ∃ T : Nat, p % (8 * (N : Int)) = (T : Int) ∧ T ≤ 100000 := by
      have := Int.emod_nonneg p (show (8 * (N : Int)) ≠ 0 by omega)
      have := Int.emod_lt_of_pos p (show (0 : Int) < 8 * (N : Int) by omega)
      exact ⟨(p % (8 * (N : Int))).toNat, by omega, by omega⟩
    have hNi : (9 : Int) ≤ (N : Int) := by omega
    have hNj : (N : Int) ≤ 1038 := by omega
    go_wp2_with fail
    have CT := turned_any a N c T (wd z) (sealM A) w2 HL.out.1 (by omega) hT2 HL.out.2 HRw.out
    rw [wd_toNat z z1 z2] at CT
    have hTl := turnB_len (sealM A) T (wbit (wd z))
    have hTb := turnB_bytes (sealM A) T (wbit (wd z))
    have HTd : Hid (sealM A ≠ turnB (sealM A) T (wbit (wd z)) → rdOk (turnB (sealM A) T (wbit (wd z))) = false ∧ rdE (turnB (sealM A) T (wbit (wd z))) = 4) := fun h => turned_rd A HAb.out HA5.out T _ h
    have HSo : Hid (rdOk (sealM A) = true) := seal_ok A HA5.out HOk2.out
    obtain ⟨Z, hZ⟩ : ∃ Z, sealM A = Z := ⟨_, rfl⟩
    rw [hZ] at HL HRw CT hTl hTb HTd HSo
    generalize turnB Z T (wbit (wd z)) = Y at *
    have HY : Hid (Y.length = N ∧ Bytes Y) := ⟨hTl.trans HL.out.1, hTb⟩
    have HCT : Hid (Calls Try.prog 16 #[.slice a N c, .int .i64 (T : Int), .int .u32 z] w2 fun e w' => NewBytes w2 Y e w') := CT
    clear hZ CT hTl hTb HA5 HAb HOk HOk2 hT hT2
    refine Calls.mono HCT.out ?_
    rintro e w3 ⟨aY, cY, rfl, y1, y2, y3, y4, y5⟩
    rw [HY.out.1] at y1 ⊢
    have CR := read_any aY N cY Y w3 HY.out.1 y3 (by omega) y1 y2 HY.out.2 y4
    have HRY : Hid (Row w3 aY Y) := y4
    have HRZ : Hid (Row w3 a Z) := HRw.out.old y5
    have HB3 : Hid (Below w.heap.size w w3) := HB.out.trans (y5.mono HB.out.size)
    have HCR : Hid (Calls Try.prog 13 #[.slice aY N cY] w3 fun e w' => MsP w3 (rdOk Y) (rdE Y) (mnT (txT Y)) e w') := CR
    clear HCT y1 y2 y3 y4 y5 CR HRw HB
    go_wp2_with fail
    refine Calls.mono HCR.out ?_
    rintro e w4 ⟨b4, h1, h2⟩
    have HB4 : Hid (Below w.heap.size w w4) := HB3.out.trans (b4.mono HB3.out.size)
    by_cases hZY : Z = Y
    · subst hZY
      obtain ⟨ra', rc', da', dc', rfl, -⟩ := h2 HSo.out
      have hA5 : ∀ o, Below w4.heap.size w4 (w4.alloc o) := fun o => (Below.refl _ _).alloc (Nat.le_refl _) o
      have HSm : Hid (∀ o, Calls Try.prog 11 #[.slice a N c, .slice aY N cY] (w4.alloc o) fun e w' => e = .returned (.bool true) ∧ w' = w4.alloc o) := fun o => same_any a aY N c cY Z _ HL.out.1 ((HRZ.out.old b4).old (hA5 o)) ((HRY.out.old b4).old (hA5 o))
      unfold Mn.ms Ms.V Ms.c12
      clear h1 h2 b4 HTd hA5 HCR
      go_wp2_with (go_at_call 11; refine Calls.mono (HSm.out _) ?_; rintro e x ⟨rfl, hx⟩; have hx2 := hx.symm; clear hx; subst hx2)
      go_ret
      exact ⟨by simp, HB4.out.alloc HB4.out.size _⟩
    · obtain ⟨e1, e2⟩ := HTd.out hZY
      obtain rfl := h1 e1
      rw [e2]
      have hA5 : ∀ o, Below w4.heap.size w4 (w4.alloc o) := fun o => (Below.refl _ _).alloc (Nat.le_refl _) o
      have HSm : Hid (∀ o, Calls Try.prog 11 #[.slice a N c, .slice aY N cY] (w4.alloc o) fun e w' => e = .returned (.bool false) ∧ w' = w4.alloc o) := fun o => unlike_any a aY N c cY Z Y _ HL.out.1 HY.out.1 HL.out.2 HY.out.2 ((HRZ.out.old b4).old (hA5 o)) ((HRY.out.old b4).old (hA5 o)) hZY
      clear h1 h2 b4 HTd hA5 HCR hZY e1 e2
      go_wp2_with (go_at_call 11; refine Calls.mono (HSm.out _) ?_; rintro e x ⟨rfl, hx⟩; have hx2 := hx.symm; clear hx; subst hx2)
      go_ret
      exact ⟨by simp, HB4.out.alloc HB4.out.size _⟩
theorem turned_law (m : Ms) (G : List (Int × Int)) (D : List Int) (p z : Int) (w : World) (hk : (Lit.int .i64 m.k).wf = true) (hm : MsM w m G D) (hp : (Lit.int .u16 p).wf = true) (hz : (Lit.int .u32 z).wf = true) : Calls Try.prog 7 #[m.V, .int .u16 p, .int .u32 z] w fun e w' => e = .returned (.bool true) ∧ Below w.heap.size w w' := by
  have h1 := bounds_u16 hp
  have h2 := bounds_u32 hz
  exact turned_walk m G D p z w hk hm (by omega) (by omega)
end Go.Proofs.Ytaibojmaghmfnaa
