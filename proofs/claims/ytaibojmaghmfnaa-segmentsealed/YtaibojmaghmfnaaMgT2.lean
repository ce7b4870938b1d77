/- Write: messages of a kind. -/
import Derived.Test.YtaibojmaghmfnaaMgT
namespace Go.Proofs.Ytaibojmaghmfnaa
open Go.RowKit
set_option maxHeartbeats 6400000 in
theorem write_refused (m : Ms) (G : List (Int × Int)) (D : List Int) (w : World) (a b c d : Nat) (hf : KdF m G D w a b c d) (hk : (Lit.int .i64 m.k).wf = true) (hn : isKd m.k = true) (hy : myM m G = false) : Calls Try.prog 9 #[m.V] w fun e w' => e = .returned (.tuple #[.slice none 0 0, .int .i64 1]) ∧ Below w.heap.size w w' := by
  have HQ : Hid (QM w m.c12 _) := QM.box w m.c12
  have HK : Hid _ := kinds_qm w m.c12 m.k hk _ _ hf.v hn
  have HM : Hid (∀ u, QM w m.c12 u → Calls Try.prog 18 #[.agg #[fnv a, fnv b, fnv c, fnv d], m.V] u fun e w' => e = .returned (.bool (myM m G)) ∧ QM w m.c12 w' ∧ Below u.heap.size u w') := fun u h => (hf.may u h.1).mono fun e w' q => ⟨q.1, h.old q.2, q.2⟩
  rw [hy] at HM
  clear hf hk hn hy
  unfold fnv at *
  obtain ⟨k, bo, fi, su, si, ap, bd, ix, pa, co, ra, rn, rc, da, dn, dc⟩ := m
  unfold Ms.V at *
  unfold Ms.c12 at *
  simp only at *
  go_enter Try.func9, Try.ntmps9
  go_upto_region 1 with fail
  go_cut [4, 5] (fun v4 v5 wx => KcR w #[.int .i64 k, .int .u32 bo, .int .i64 fi, .int .u32 su, .int .i64 si, .int .i64 ap, .int .i64 bd, .int .i64 ix, .int .i64 pa, .int .i64 co, .slice ra rn rc, .slice da dn dc] #[.func (.func a) #[] #[], .func (.func b) #[] #[], .func (.func c) #[] #[], .func (.func d) #[] #[]] true v4 v5 wx)
  case first =>
    have HQa : Hid (QM w #[.int .i64 k, .int .u32 bo, .int .i64 fi, .int .u32 su, .int .i64 si, .int .i64 ap, .int .i64 bd, .int .i64 ix, .int .i64 pa, .int .i64 co, .slice ra rn rc, .slice da dn dc] (w.alloc (.cells #[.int .i64 k, .int .u32 bo, .int .i64 fi, .int .u32 su, .int .i64 si, .int .i64 ap, .int .i64 bd, .int .i64 ix, .int .i64 pa, .int .i64 co, .slice ra rn rc, .slice da dn dc] 26)).drew) := HQ.out.old ⟨rfl, rfl, rfl, Nat.le_refl _, fun _ _ => rfl⟩
    have HQb : Hid (QM w #[.int .i64 k, .int .u32 bo, .int .i64 fi, .int .u32 su, .int .i64 si, .int .i64 ap, .int .i64 bd, .int .i64 ix, .int .i64 pa, .int .i64 co, .slice ra rn rc, .slice da dn dc] ((w.alloc (.cells #[.int .i64 k, .int .u32 bo, .int .i64 fi, .int .u32 su, .int .i64 si, .int .i64 ap, .int .i64 bd, .int .i64 ix, .int .i64 pa, .int .i64 co, .slice ra rn rc, .slice da dn dc] 26)).alloc (.cells #[.nilFunc, .nilFunc, .nilFunc, .nilFunc] 45)).drew) := (HQ.out.old ((Below.refl _ _).alloc (Nat.le_refl _) _)).old ⟨rfl, rfl, rfl, Nat.le_refl _, fun _ _ => rfl⟩
    have HKB : Hid (((w.alloc (.cells #[.int .i64 k, .int .u32 bo, .int .i64 fi, .int .u32 su, .int .i64 si, .int .i64 ap, .int .i64 bd, .int .i64 ix, .int .i64 pa, .int .i64 co, .slice ra rn rc, .slice da dn dc] 26)).alloc (.cells #[.nilFunc, .nilFunc, .nilFunc, .nilFunc] 45)).drew.heap[w.heap.size + 1]? = some (.cells #[.nilFunc, .nilFunc, .nilFunc, .nilFunc] 45 (0, 0))) := by
      have := heap_alloc_newM (w.alloc (.cells #[.int .i64 k, .int .u32 bo, .int .i64 fi, .int .u32 su, .int .i64 si, .int .i64 ap, .int .i64 bd, .int .i64 ix, .int .i64 pa, .int .i64 co, .slice ra rn rc, .slice da dn dc] 26)) (.cells #[.nilFunc, .nilFunc, .nilFunc, .nilFunc] 45)
      have e : (w.alloc (.cells #[.int .i64 k, .int .u32 bo, .int .i64 fi, .int .u32 su, .int .i64 si, .int .i64 ap, .int .i64 bd, .int .i64 ix, .int .i64 pa, .int .i64 co, .slice ra rn rc, .slice da dn dc] 26)).heap.size = w.heap.size + 1 := by simp
      rw [e] at this
      exact this
    obtain ⟨f0, f1, f2, f3, f4, f5, f6, f7, f8, f9, f10, f11⟩ := twelve_cells HQa.out.2
    obtain ⟨g0, g1, g2, g3, g4, g5, g6, g7, g8, g9, g10, g11⟩ := twelve_cells HQb.out.2
    go_region_held3 (fun u => u.cell? ⟨w.heap.size, 0, none⟩ = some (.int .i64 k))
      (first | (with_reducible assumption) | go_keep) (first
      | (go_at_call 17; (with_reducible refine Calls.mono (HK.out _ HQa.out) ?_); rintro e x1 ⟨mb, rfl, lk, q, bl⟩; have HQx : Hid (QM w #[.int .i64 k, .int .u32 bo, .int .i64 fi, .int .u32 su, .int .i64 si, .int .i64 ap, .int .i64 bd, .int .i64 ix, .int .i64 pa, .int .i64 co, .slice ra rn rc, .slice da dn dc] x1) := q; have hlx := q.lt; obtain ⟨e0, e1, e2, e3, e4, e5, e6, e7, e8, e9, e10, e11⟩ := twelve_cells q.2; have lk0 := lk x1 (Below.refl _ _); have lk1 := lk (x1.alloc (.cells #[.nilFunc, .nilFunc, .nilFunc, .nilFunc] 45)) ((Below.refl _ _).alloc (Nat.le_refl _) _); clear lk q bl)
      | (go_at_call 17; (with_reducible refine Calls.mono (HK.out _ HQb.out) ?_); rintro e x2 ⟨mb, rfl, lk, q, bl⟩; have HQx : Hid (QM w #[.int .i64 k, .int .u32 bo, .int .i64 fi, .int .u32 su, .int .i64 si, .int .i64 ap, .int .i64 bd, .int .i64 ix, .int .i64 pa, .int .i64 co, .slice ra rn rc, .slice da dn dc] x2) := q; have hlx := q.lt; obtain ⟨e0, e1, e2, e3, e4, e5, e6, e7, e8, e9, e10, e11⟩ := twelve_cells q.2; have lk0 := lk x2 (Below.refl _ _); have lk1 := lk (x2.alloc (.cells #[.nilFunc, .nilFunc, .nilFunc, .nilFunc] 45)) ((Below.refl _ _).alloc (Nat.le_refl _) _); have hkb := (bl.block (w.heap.size + 1) (by simp)).trans HKB.out; obtain ⟨s0, s1, s2, s3⟩ := kd_cells hkb; obtain ⟨z0, z1, z2, z3⟩ := fz_four hkb; have HKX : Hid (x2.heap[w.heap.size + 1]? = some (.cells #[.nilFunc, .nilFunc, .nilFunc, .nilFunc] 45 (0, 0))) := hkb; clear hkb; clear lk q bl)
      | fail)
    all_goals go_wp2
    all_goals go_meet
    all_goals first
      | exact ⟨x1.heap.size, rfl, rfl, heap_alloc_newM _ _, HQx.out.old ((Below.refl _ _).alloc (Nat.le_refl _) _)⟩
      | exact ⟨w.heap.size + 1, rfl, rfl, HKX.out, HQx.out⟩
      | exact ⟨w.heap.size + 1, rfl, rfl, set_four HKX.out, HQx.out.sets (by omega)⟩
  case rest =>
    obtain ⟨B, rfl, rfl, hkB, hq⟩ := hcut
    have HQ1 : Hid (QM w #[.int .i64 k, .int .u32 bo, .int .i64 fi, .int .u32 su, .int .i64 si, .int .i64 ap, .int .i64 bd, .int .i64 ix, .int .i64 pa, .int .i64 co, .slice ra rn rc, .slice da dn dc] wc) := hq
    obtain ⟨k0, k1, k2, k3⟩ := kd_cells hkB
    have HKB : Hid (wc.heap[B]? = some (.cells #[.func (.func a) #[] #[], .func (.func b) #[] #[], .func (.func c) #[] #[], .func (.func d) #[] #[]] 45 (0, 0))) := hkB
    obtain ⟨m0, m1, m2, m3, m4, m5, m6, m7, m8, m9, m10, m11⟩ := twelve_cells hq.2
    clear hkB hq
    go_wp2_with (go_at_call 18; refine Calls.mono (HM.out _ HQ1.out) ?_; rintro e w9 ⟨rfl, q9, -⟩; have HB9 : Hid (Below w.heap.size w w9) := q9.1; clear q9)
    go_ret2
    exact ⟨rfl, HB9.out⟩
/-- What Write of a message that may be comes to. -/
def WrP (w : World) (N : Nat) (l : List Int) (e : Ending) (w' : World) : Prop := ∃ a cap g, e = .returned (.tuple #[.slice a N cap, .int .i64 0]) ∧ Sl w' 5 (.slice a N cap) g (vals l) ∧ l.length = N ∧ Bytes l ∧ (∀ k, g = some k → w.heap.size ≤ k) ∧ Below w.heap.size w w'
theorem octs_byte (v : Int) (n : Nat) : Bytes (octs v n) := by
  intro z hz
  simp only [octs, List.mem_map] at hz
  obtain ⟨i, _, rfl⟩ := hz
  exact oct_byte v i
set_option maxHeartbeats 6400000 in
theorem write_yes (m : Ms) (G : List (Int × Int)) (D : List Int) (w : World) (a b c d : Nat) (hf : KdF m G D w a b c d) (hk : (Lit.int .i64 m.k).wf = true) (hn : isKd m.k = true) (hy : myM m G = true) (hbo : 0 ≤ m.bo ∧ m.bo < 4294967296) : Calls Try.prog 9 #[m.V] w fun e w' => WrP w (9 + lnM m) (sealM (txM m G D)) e w' := by
  have HQ : Hid (QM w m.c12 _) := QM.box w m.c12
  have HK : Hid _ := kinds_qm w m.c12 m.k hk _ _ hf.v hn
  have HM : Hid (∀ u, QM w m.c12 u → Calls Try.prog 18 #[.agg #[fnv a, fnv b, fnv c, fnv d], m.V] u fun e w' => e = .returned (.bool (myM m G)) ∧ QM w m.c12 w' ∧ Below u.heap.size u w') := fun u h => (hf.may u h.1).mono fun e w' q => ⟨q.1, h.old q.2, q.2⟩
  have HP : Hid (∀ u, QM w m.c12 u → Calls Try.prog c #[m.V] u fun e w' => BP u (lnM m) (bdM m G D) e w' ∧ QM w m.c12 w') := fun u h => (hf.put hy u h.1).mono fun e w' q => ⟨q, by obtain ⟨_, _, _, _, z⟩ := q; exact h.old z⟩
  have P0 : Hid (∀ u, QM w m.c12 u → Calls Try.prog 20 #[.int .i64 1, .int .i64 m.k] u fun e w' => BP u 1 (bg 1 m.k) e w' ∧ QM w m.c12 w') := fun u hu => (put_bp 1 (by omega) m.k u).mono fun e w' q => ⟨q, by obtain ⟨_, _, _, _, z⟩ := q; exact hu.old z⟩
  have P1 : Hid (∀ u, QM w m.c12 u → Calls Try.prog 20 #[.int .i64 4, .int .i64 m.bo] u fun e w' => BP u 4 (bg 4 m.bo) e w' ∧ QM w m.c12 w') := fun u hu => (put_bp 4 (by omega) m.bo u).mono fun e w' q => ⟨q, by obtain ⟨_, _, _, _, z⟩ := q; exact hu.old z⟩
  have hln := lnM_le m G hy
  have hcf := hf.cc
  rw [hy] at HM
  have hbw : IntKind.i64.wrap m.bo = m.bo := by rw [IntKind.wrap_i64]; omega
  clear hf hk hn hy hbo
  unfold txM
  generalize lnM m = LN at *
  generalize bdM m G D = L2 at *
  obtain ⟨L0, e0⟩ : ∃ L, bg 1 m.k = L := ⟨_, rfl⟩
  obtain ⟨L1, e1⟩ : ∃ L, bg 4 m.bo = L := ⟨_, rfl⟩
  rw [e0] at P0 ⊢
  rw [e1] at P1 ⊢
  clear e0 e1
  unfold fnv at *
  obtain ⟨k, bo, fi, su, si, ap, bd, ix, pa, co, ra, rn, rc, da, dn, dc⟩ := m
  unfold Ms.V at *
  unfold Ms.c12 at *
  simp only at *
  go_enter Try.func9, Try.ntmps9
  go_upto_region 1 with fail
  go_cut [4, 5] (fun v4 v5 wx => KcR w #[.int .i64 k, .int .u32 bo, .int .i64 fi, .int .u32 su, .int .i64 si, .int .i64 ap, .int .i64 bd, .int .i64 ix, .int .i64 pa, .int .i64 co, .slice ra rn rc, .slice da dn dc] #[.func (.func a) #[] #[], .func (.func b) #[] #[], .func (.func c) #[] #[], .func (.func d) #[] #[]] true v4 v5 wx)
  case first =>
    have HQa : Hid (QM w #[.int .i64 k, .int .u32 bo, .int .i64 fi, .int .u32 su, .int .i64 si, .int .i64 ap, .int .i64 bd, .int .i64 ix, .int .i64 pa, .int .i64 co, .slice ra rn rc, .slice da dn dc] (w.alloc (.cells #[.int .i64 k, .int .u32 bo, .int .i64 fi, .int .u32 su, .int .i64 si, .int .i64 ap, .int .i64 bd, .int .i64 ix, .int .i64 pa, .int .i64 co, .slice ra rn rc, .slice da dn dc] 26)).drew) := HQ.out.old ⟨rfl, rfl, rfl, Nat.le_refl _, fun _ _ => rfl⟩
    have HQb : Hid (QM w #[.int .i64 k, .int .u32 bo, .int .i64 fi, .int .u32 su, .int .i64 si, .int .i64 ap, .int .i64 bd, .int .i64 ix, .int .i64 pa, .int .i64 co, .slice ra rn rc, .slice da dn dc] ((w.alloc (.cells #[.int .i64 k, .int .u32 bo, .int .i64 fi, .int .u32 su, .int .i64 si, .int .i64 ap, .int .i64 bd, .int .i64 ix, .int .i64 pa, .int .i64 co, .slice ra rn rc, .slice da dn dc] 26)).alloc (.cells #[.nilFunc, .nilFunc, .nilFunc, .nilFunc] 45)).drew) := (HQ.out.old ((Below.refl _ _).alloc (Nat.le_refl _) _)).old ⟨rfl, rfl, rfl, Nat.le_refl _, fun _ _ => rfl⟩
    have HKB : Hid (((w.alloc (.cells #[.int .i64 k, .int .u32 bo, .int .i64 fi, .int .u32 su, .int .i64 si, .int .i64 ap, .int .i64 bd, .int .i64 ix, .int .i64 pa, .int .i64 co, .slice ra rn rc, .slice da dn dc] 26)).alloc (.cells #[.nilFunc, .nilFunc, .nilFunc, .nilFunc] 45)).drew.heap[w.heap.size + 1]? = some (.cells #[.nilFunc, .nilFunc, .nilFunc, .nilFunc] 45 (0, 0))) := by
      have := heap_alloc_newM (w.alloc (.cells #[.int .i64 k, .int .u32 bo, .int .i64 fi, .int .u32 su, .int .i64 si, .int .i64 ap, .int .i64 bd, .int .i64 ix, .int .i64 pa, .int .i64 co, .slice ra rn rc, .slice da dn dc] 26)) (.cells #[.nilFunc, .nilFunc, .nilFunc, .nilFunc] 45)
      have e : (w.alloc (.cells #[.int .i64 k, .int .u32 bo, .int .i64 fi, .int .u32 su, .int .i64 si, .int .i64 ap, .int .i64 bd, .int .i64 ix, .int .i64 pa, .int .i64 co, .slice ra rn rc, .slice da dn dc] 26)).heap.size = w.heap.size + 1 := by simp
      rw [e] at this
      exact this
    obtain ⟨f0, f1, f2, f3, f4, f5, f6, f7, f8, f9, f10, f11⟩ := twelve_cells HQa.out.2
    obtain ⟨g0, g1, g2, g3, g4, g5, g6, g7, g8, g9, g10, g11⟩ := twelve_cells HQb.out.2
    go_region_held3 (fun u => u.cell? ⟨w.heap.size, 0, none⟩ = some (.int .i64 k))
      (first | (with_reducible assumption) | go_keep) (first
      | (go_at_call 17; (with_reducible refine Calls.mono (HK.out _ HQa.out) ?_); rintro e x1 ⟨mb, rfl, lk, q, bl⟩; have HQx : Hid (QM w #[.int .i64 k, .int .u32 bo, .int .i64 fi, .int .u32 su, .int .i64 si, .int .i64 ap, .int .i64 bd, .int .i64 ix, .int .i64 pa, .int .i64 co, .slice ra rn rc, .slice da dn dc] x1) := q; have hlx := q.lt; obtain ⟨e0, e1, e2, e3, e4, e5, e6, e7, e8, e9, e10, e11⟩ := twelve_cells q.2; have lk0 := lk x1 (Below.refl _ _); have lk1 := lk (x1.alloc (.cells #[.nilFunc, .nilFunc, .nilFunc, .nilFunc] 45)) ((Below.refl _ _).alloc (Nat.le_refl _) _); clear lk q bl)
      | (go_at_call 17; (with_reducible refine Calls.mono (HK.out _ HQb.out) ?_); rintro e x2 ⟨mb, rfl, lk, q, bl⟩; have HQx : Hid (QM w #[.int .i64 k, .int .u32 bo, .int .i64 fi, .int .u32 su, .int .i64 si, .int .i64 ap, .int .i64 bd, .int .i64 ix, .int .i64 pa, .int .i64 co, .slice ra rn rc, .slice da dn dc] x2) := q; have hlx := q.lt; obtain ⟨e0, e1, e2, e3, e4, e5, e6, e7, e8, e9, e10, e11⟩ := twelve_cells q.2; have lk0 := lk x2 (Below.refl _ _); have lk1 := lk (x2.alloc (.cells #[.nilFunc, .nilFunc, .nilFunc, .nilFunc] 45)) ((Below.refl _ _).alloc (Nat.le_refl _) _); have hkb := (bl.block (w.heap.size + 1) (by simp)).trans HKB.out; obtain ⟨s0, s1, s2, s3⟩ := kd_cells hkb; obtain ⟨z0, z1, z2, z3⟩ := fz_four hkb; have HKX : Hid (x2.heap[w.heap.size + 1]? = some (.cells #[.nilFunc, .nilFunc, .nilFunc, .nilFunc] 45 (0, 0))) := hkb; clear hkb; clear lk q bl)
      | fail)
    all_goals go_wp2
    all_goals go_meet
    all_goals first
      | exact ⟨x1.heap.size, rfl, rfl, heap_alloc_newM _ _, HQx.out.old ((Below.refl _ _).alloc (Nat.le_refl _) _)⟩
      | exact ⟨w.heap.size + 1, rfl, rfl, HKX.out, HQx.out⟩
      | exact ⟨w.heap.size + 1, rfl, rfl, set_four HKX.out, HQx.out.sets (by omega)⟩
  case rest =>
    obtain ⟨B, rfl, rfl, hkB, hq⟩ := hcut
    have HQ1 : Hid (QM w #[.int .i64 k, .int .u32 bo, .int .i64 fi, .int .u32 su, .int .i64 si, .int .i64 ap, .int .i64 bd, .int .i64 ix, .int .i64 pa, .int .i64 co, .slice ra rn rc, .slice da dn dc] wc) := hq
    obtain ⟨k0, k1, k2, k3⟩ := kd_cells hkB
    have HKB : Hid (wc.heap[B]? = some (.cells #[.func (.func a) #[] #[], .func (.func b) #[] #[], .func (.func c) #[] #[], .func (.func d) #[] #[]] 45 (0, 0))) := hkB
    obtain ⟨m0, m1, m2, m3, m4, m5, m6, m7, m8, m9, m10, m11⟩ := twelve_cells hq.2
    clear hkB hq
    go_upto_region 4 with (go_at_call 18; refine Calls.mono (HM.out _ HQ1.out) ?_; rintro e w9 ⟨rfl, q9, b9⟩; have HQ9 : Hid (QM w #[.int .i64 k, .int .u32 bo, .int .i64 fi, .int .u32 su, .int .i64 si, .int .i64 ap, .int .i64 bd, .int .i64 ix, .int .i64 pa, .int .i64 co, .slice ra rn rc, .slice da dn dc] w9) := q9; have HK9 : Hid (w9.heap[B]? = some (.cells #[.func (.func a) #[] #[], .func (.func b) #[] #[], .func (.func c) #[] #[], .func (.func d) #[] #[]] 45 (0, 0))) := (b9.block B (lt_of_block HKB.out)).trans HKB.out; clear q9 b9)
    have HQd : Hid (QM w #[.int .i64 k, .int .u32 bo, .int .i64 fi, .int .u32 su, .int .i64 si, .int .i64 ap, .int .i64 bd, .int .i64 ix, .int .i64 pa, .int .i64 co, .slice ra rn rc, .slice da dn dc] w9.drew) := HQ9.out.old ⟨rfl, rfl, rfl, Nat.le_refl _, fun _ _ => rfl⟩
    obtain ⟨n0, n1, n2, n3, n4, n5, n6, n7, n8, n9, n10, n11⟩ := twelve_cells HQ9.out.2
    obtain ⟨r0, r1, r2, r3, r4, r5, r6, r7, r8, r9, r10, r11⟩ := twelve_cells HQd.out.2
    obtain ⟨h0, h1, h2, h3⟩ := kd_cells HK9.out
    go_region_held3 (fun u => u.cell? ⟨w.heap.size, 0, none⟩ = some (.int .i64 k) ∧ u.cell? ⟨w.heap.size, 1, none⟩ = some (.int .u32 bo) ∧ u.cell? ⟨w.heap.size, 2, none⟩ = some (.int .i64 fi) ∧ u.cell? ⟨w.heap.size, 3, none⟩ = some (.int .u32 su) ∧ u.cell? ⟨w.heap.size, 4, none⟩ = some (.int .i64 si) ∧ u.cell? ⟨w.heap.size, 5, none⟩ = some (.int .i64 ap) ∧ u.cell? ⟨w.heap.size, 6, none⟩ = some (.int .i64 bd) ∧ u.cell? ⟨w.heap.size, 7, none⟩ = some (.int .i64 ix) ∧ u.cell? ⟨w.heap.size, 8, none⟩ = some (.int .i64 pa) ∧ u.cell? ⟨w.heap.size, 9, none⟩ = some (.int .i64 co) ∧ u.cell? ⟨w.heap.size, 10, none⟩ = some (.slice ra rn rc) ∧ u.cell? ⟨w.heap.size, 11, none⟩ = some (.slice da dn dc) ∧ u.cell? ⟨B, 2, none⟩ = some (.func (.func c) #[] #[]))
      (first | (with_reducible exact ⟨by with_reducible assumption, by with_reducible assumption, by with_reducible assumption, by with_reducible assumption, by with_reducible assumption, by with_reducible assumption, by with_reducible assumption, by with_reducible assumption, by with_reducible assumption, by with_reducible assumption, by with_reducible assumption, by with_reducible assumption, by with_reducible assumption⟩) | go_keep) (first
      | (go_at_call 20; (with_reducible refine Calls.mono (P0.out _ HQd.out) ?_); rintro e x0 ⟨⟨a0, c0, rfl, ok0, bl0⟩, q0⟩; have HO0 : Hid (BOk x0 a0 1 c0 L0) := ok0; have HQ0 : Hid (QM w #[.int .i64 k, .int .u32 bo, .int .i64 fi, .int .u32 su, .int .i64 si, .int .i64 ap, .int .i64 bd, .int .i64 ix, .int .i64 pa, .int .i64 co, .slice ra rn rc, .slice da dn dc] x0) := q0; have HK0 : Hid (x0.heap[B]? = some (.cells #[.func (.func a) #[] #[], .func (.func b) #[] #[], .func (.func c) #[] #[], .func (.func d) #[] #[]] 45 (0, 0))) := (bl0.block B (lt_of_block HK9.out)).trans HK9.out; obtain ⟨s0, s1, s2, s3, s4, s5, s6, s7, s8, s9, s10, s11⟩ := twelve_cells q0.2; obtain ⟨s20, s21, s22, s23⟩ := kd_cells HK0.out; clear ok0 bl0 q0)
      | (go_at_call 20; (with_reducible refine Calls.mono (P1.out _ HQ0.out) ?_); rintro e x1 ⟨⟨a1, c1, rfl, ok1, bl1⟩, q1⟩; have HO1 : Hid (BOk x1 a1 4 c1 L1) := ok1; have HO01 : Hid (BOk x1 a0 1 c0 L0) := HO0.out.old bl1; have HQ1b : Hid (QM w #[.int .i64 k, .int .u32 bo, .int .i64 fi, .int .u32 su, .int .i64 si, .int .i64 ap, .int .i64 bd, .int .i64 ix, .int .i64 pa, .int .i64 co, .slice ra rn rc, .slice da dn dc] x1) := q1; have HK1 : Hid (x1.heap[B]? = some (.cells #[.func (.func a) #[] #[], .func (.func b) #[] #[], .func (.func c) #[] #[], .func (.func d) #[] #[]] 45 (0, 0))) := (bl1.block B (lt_of_block HK0.out)).trans HK0.out; obtain ⟨t0, t1, t2, t3, t4, t5, t6, t7, t8, t9, t10, t11⟩ := twelve_cells q1.2; obtain ⟨t20, t21, t22, t23⟩ := kd_cells HK1.out; clear ok1 bl1 q1)
      | ((with_reducible refine Calls.mono (HP.out _ HQ1b.out) ?_); rintro e x2 ⟨⟨a2, c2, rfl, ok2, bl2⟩, q2⟩; have HO2 : Hid (BOk x2 a2 LN c2 L2) := ok2; have HO02 : Hid (BOk x2 a0 1 c0 L0) := HO01.out.old bl2; have HO12 : Hid (BOk x2 a1 4 c1 L1) := HO1.out.old bl2; have HQ2 : Hid (QM w #[.int .i64 k, .int .u32 bo, .int .i64 fi, .int .u32 su, .int .i64 si, .int .i64 ap, .int .i64 bd, .int .i64 ix, .int .i64 pa, .int .i64 co, .slice ra rn rc, .slice da dn dc] x2) := q2; have HK2 : Hid (x2.heap[B]? = some (.cells #[.func (.func a) #[] #[], .func (.func b) #[] #[], .func (.func c) #[] #[], .func (.func d) #[] #[]] 45 (0, 0))) := (bl2.block B (lt_of_block HK1.out)).trans HK1.out; obtain ⟨v0, v1, v2, v3, v4, v5, v6, v7, v8, v9, v10, v11⟩ := twelve_cells q2.2; obtain ⟨v20, v21, v22, v23⟩ := kd_cells HK2.out; clear ok2 bl2 q2)
      | (go_at_call 19; (with_reducible refine Calls.mono (conc3s _ _ _ _ _ _ _ _ _ _ _ _ _ x2 rfl HO02.out HO12.out HO2.out (by omega) (by omega) (5 + LN) (by omega)) ?_); rintro e x3 ⟨a3, c3, g3, rfl, sl3, l3, by3, fr3, bl3⟩; have HS3 : Hid (Sl x3 5 (.slice a3 (5 + LN) c3) g3 (vals (L0 ++ L1 ++ L2))) := sl3; have HL3 : Hid ((L0 ++ L1 ++ L2).length = 5 + LN ∧ Bytes (L0 ++ L1 ++ L2)) := ⟨l3, by3⟩; have HF3 : Hid (∀ k, g3 = some k → w.heap.size ≤ k) := (fun k hk => by have := fr3 k hk; have := HQ2.out.1.size; omega); have HQ3 : Hid (QM w #[.int .i64 k, .int .u32 bo, .int .i64 fi, .int .u32 su, .int .i64 si, .int .i64 ap, .int .i64 bd, .int .i64 ix, .int .i64 pa, .int .i64 co, .slice ra rn rc, .slice da dn dc] x3) := HQ2.out.old bl3; have HK3 : Hid (x3.heap[B]? = some (.cells #[.func (.func a) #[] #[], .func (.func b) #[] #[], .func (.func c) #[] #[], .func (.func d) #[] #[]] 45 (0, 0))) := (bl3.block B (lt_of_block HK2.out)).trans HK2.out; obtain ⟨z0, z1, z2, z3, z4, z5, z6, z7, z8, z9, z10, z11⟩ := twelve_cells HQ3.out.2; obtain ⟨z20, z21, z22, z23⟩ := kd_cells HK3.out; clear sl3 l3 by3 fr3 bl3)
      | fail)
    obtain ⟨X, hX⟩ : ∃ X, (crcM (BitVec.ofNat 32 0) (L0 ++ L1 ++ L2)).toNat = X := ⟨_, rfl⟩
    have hXlt : X < 4294967296 := by rw [← hX]; exact (crcM (BitVec.ofNat 32 0) (L0 ++ L1 ++ L2)).isLt
    have HX : Hid ((crcM (BitVec.ofNat 32 0) (L0 ++ L1 ++ L2)).toNat = X) := hX
    have HBk : Hid (BOk x3 a3 (5 + LN) c3 (L0 ++ L1 ++ L2)) := HS3.out.bok HL3.out.1 HL3.out.2 (by omega)
    have C1 := of_one x3 _ rfl a3 (5 + LN) c3 _ HBk.out
    rw [hX] at C1
    have HC1 : Hid _ := C1
    have hAl : Below x3.heap.size x3 (x3.alloc (.cells #[.slice a3 (5 + LN) c3] 24)) := (Below.refl _ _).alloc (Nat.le_refl _) _
    have HS4 : Hid (Sl (x3.alloc (.cells #[.slice a3 (5 + LN) c3] 24)) 5 (.slice a3 (5 + LN) c3) g3 (vals (L0 ++ L1 ++ L2))) := HS3.out.same (fun k hk => hAl.block k (HS3.out.lt hk))
    have HB4 : Hid (Below w.heap.size w (x3.alloc (.cells #[.slice a3 (5 + LN) c3] 24))) := HQ3.out.1.trans (hAl.mono HQ3.out.1.size)
    clear C1 hX hAl HS3 HQ3 HK3 HQ2 HK2 HQ1b HK1 HQ0 HK0 HQd HQ9 HK9 HO0 HO1 HO01 HO02 HO12 HO2 P0 P1 HP HM HK HBk
    go_wp2_with (first
      | (go_at_call 22; refine Calls.mono HC1.out ?_; rintro e x4 ⟨rfl, rfl⟩; clear HC1)
      | (go_at_call 21; refine (putl_bp 4 (by omega) (X : Int) _).mono ?_; rintro e x5 ⟨a5, c5, rfl, ok5, bl5⟩; have HO5 : Hid (BOk x5 a5 4 c5 (octs (X : Int) 4)) := ok5; have HS5 : Hid (Sl x5 5 (.slice a3 (5 + LN) c3) g3 (vals (L0 ++ L1 ++ L2))) := HS4.out.same (fun k hk => bl5.block k (HS4.out.lt hk)); have HB5 : Hid (Below w.heap.size w x5) := HB4.out.trans (bl5.mono HB4.out.size); clear ok5 bl5)
      | (at_builtin; refine wpList_more rfl _ _ rfl _ g3 (L0 ++ L1 ++ L2) rfl HS5.out a5 4 c5 (octs (X : Int) 4) rfl HO5.out.2.2.2.2.1 HO5.out.1 HO5.out.2.2.2.2.2 (by rw [HL3.out.1]; omega) ?_; intro v6 x6 g6 sl6 hg6 hw6; obtain ⟨a6, c6, hv6, -⟩ := sl6.shape; have hln7 : (vals (L0 ++ L1 ++ L2 ++ octs (X : Int) 4)).length = 9 + LN := (by rw [vals_len, List.length_append, HL3.out.1]; simp [octs]; omega); rw [hln7] at hv6; clear hln7; have HR : Hid (WrP w (9 + LN) (sealM (L0 ++ L1 ++ L2)) (.returned (.tuple #[v6, .int .i64 0])) x6) := (by
          have hln : (L0 ++ L1 ++ L2 ++ octs (X : Int) 4).length = 9 + LN := by rw [List.length_append, HL3.out.1]; simp [octs]; omega
          have hs : sealM (L0 ++ L1 ++ L2) = L0 ++ L1 ++ L2 ++ octs (X : Int) 4 := by unfold sealM; rw [HX.out]
          rw [hs]
          refine ⟨a6, c6, g6, by rw [hv6], by rw [← hv6]; exact sl6, hln, HL3.out.2.append (octs_byte _ _), ?_, HB5.out.grown hw6 HB5.out.size HF3.out⟩
          intro k hk
          rcases hg6 with rfl | ⟨q, rfl, hq⟩
          · exact HF3.out k hk
          · cases hk; exact Nat.le_trans HB5.out.size hq); subst hv6; clear sl6 hg6 hw6))
    go_ret2
    exact HR.out
end Go.Proofs.Ytaibojmaghmfnaa
