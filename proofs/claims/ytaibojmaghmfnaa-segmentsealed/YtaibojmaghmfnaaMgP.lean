/- A kind's bytes: the program. -/
import Derived.Test.YtaibojmaghmfnaaMgE2
import Derived.Deep.RegionHeld3
import Derived.Deep.DeepCutAuto
import Derived.Deep.CutBlock
namespace Go.Proofs.Ytaibojmaghmfnaa
open Go.RowKit
/-- A number's bytes, the highest first. -/
def bg (n : Nat) (v : Int) : List Int := (octs v n).reverse
theorem bg_len (n : Nat) (v : Int) : (bg n v).length = n := by simp [bg, octs]
theorem bg_byte (n : Nat) (v : Int) : Bytes (bg n v) := by
  intro z hz
  simp only [bg, octs, List.mem_reverse, List.mem_map] at hz
  obtain ⟨i, _, rfl⟩ := hz
  exact oct_byte v i
/-- What telling n new bytes comes to. -/
def BP (w : World) (n : Nat) (l : List Int) (e : Ending) (w' : World) : Prop := ∃ a cap, e = .returned (.slice a n cap) ∧ BOk w' a n cap l ∧ Below w.heap.size w w'
theorem put_bp (n : Nat) (hn : n ≤ 8) (v : Int) (w : World) : Calls Try.prog 20 #[.int .i64 n, .int .i64 v] w fun e w' => BP w n (bg n v) e w' := by
  have e8 : put8 (n : Int) = n := by unfold put8; omega
  refine (putBig_any n v w).mono ?_
  rintro e w' ⟨a, cap, rfl, h1, h2, h3, h4, h5⟩
  rw [e8] at h1 h4 ⊢
  have hl : (octs v n).reverse.length = n := by simp [octs]
  rw [hl] at h1 ⊢
  unfold maxLen at h2
  exact ⟨a, cap, rfl, ⟨hl, bg_byte n v, h1, by omega, h3, h4⟩, h5⟩
theorem concat_bp (s : Nat) (len : Nat) (F : Nat → Pt) (L : List Int) (w : World) (h : PtArg w (some ⟨s, 0, none⟩) len len F) (hL : catF F len = L) (h1 : 1 ≤ L.length) (h2 : L.length ≤ 1000000) (hB : Bytes L) :
    Calls Try.prog 19 #[.slice (some ⟨s, 0, none⟩) len len] w fun e w' => BP w L.length L e w' := by
  subst hL
  refine (concat_any _ len len F w h h1 h2).mono ?_
  rintro e w' ⟨a, cap, rfl, q1, q2, q3, q4, q5⟩
  unfold maxLen at q2
  exact ⟨a, cap, rfl, ⟨rfl, hB, q1, by omega, q3, q4⟩, q5⟩
theorem conc2 (s : Nat) (aa : Option Addr) (nA cA : Nat) (A : List Int) (bb : Option Addr) (nB cB : Nat) (B : List Int) (w : World) (hs : s = w.heap.size) (hA : BOk w aa nA cA A) (hB : BOk w bb nB cB B) (h1 : 1 ≤ nA + nB) (h2 : nA + nB ≤ 1000000) (N : Nat) (hN : nA + nB = N) :
    Calls Try.prog 19 #[.slice (some ⟨s, 0, none⟩) 2 2] (w.alloc (.cells #[.slice aa nA cA, .slice bb nB cB] 24)) fun e w' => BP w N (A ++ B) e w' := by
  subst hs
  have hl : (A ++ B).length = N := by simp only [List.length_append, hA.1, hB.1]; omega
  have C := concat_bp w.heap.size 2 (fun i => if i = 0 then ⟨aa, cA, A⟩ else ⟨bb, cB, B⟩) (A ++ B) (w.alloc (.cells #[.slice aa nA cA, .slice bb nB cB] 24)) ⟨Nat.le_refl _, by unfold maxLen; omega, fun _ => ⟨_, 0, rfl, fun i hi => by
    rw [World.cell?_alloc_mark]
    match i, hi with
    | 0, _ => exact ⟨by show some (Value.slice aa nA cA) = some (.slice aa A.length cA); rw [hA.1], (hA.alloc _).pt⟩
    | 1, _ => exact ⟨by show some (Value.slice bb nB cB) = some (.slice bb B.length cB); rw [hB.1], (hB.alloc _).pt⟩
    ⟩⟩ (by simp [catF]) (by rw [hl]; omega) (by rw [hl]; omega) ((hA.2.1).append hB.2.1)
  rw [hl] at C
  refine C.mono ?_
  rintro e w' ⟨a, cap, rfl, q1, q2⟩
  exact ⟨a, cap, rfl, q1, ((Below.refl _ _).alloc (Nat.le_refl _) _).trans (q2.mono (by simp))⟩
theorem conc3 (s : Nat) (aa : Option Addr) (nA cA : Nat) (A : List Int) (bb : Option Addr) (nB cB : Nat) (B : List Int) (cc : Option Addr) (nC cC : Nat) (C : List Int) (w : World) (hs : s = w.heap.size) (hA : BOk w aa nA cA A) (hB : BOk w bb nB cB B) (hC : BOk w cc nC cC C) (h1 : 1 ≤ nA + nB + nC) (h2 : nA + nB + nC ≤ 1000000) (N : Nat) (hN : nA + nB + nC = N) :
    Calls Try.prog 19 #[.slice (some ⟨s, 0, none⟩) 3 3] (w.alloc (.cells #[.slice aa nA cA, .slice bb nB cB, .slice cc nC cC] 24)) fun e w' => BP w N (A ++ B ++ C) e w' := by
  subst hs
  have hl : (A ++ B ++ C).length = N := by simp only [List.length_append, hA.1, hB.1, hC.1]; omega
  have C := concat_bp w.heap.size 3 (fun i => if i = 0 then ⟨aa, cA, A⟩ else if i = 1 then ⟨bb, cB, B⟩ else ⟨cc, cC, C⟩) (A ++ B ++ C) (w.alloc (.cells #[.slice aa nA cA, .slice bb nB cB, .slice cc nC cC] 24)) ⟨Nat.le_refl _, by unfold maxLen; omega, fun _ => ⟨_, 0, rfl, fun i hi => by
    rw [World.cell?_alloc_mark]
    match i, hi with
    | 0, _ => exact ⟨by show some (Value.slice aa nA cA) = some (.slice aa A.length cA); rw [hA.1], (hA.alloc _).pt⟩
    | 1, _ => exact ⟨by show some (Value.slice bb nB cB) = some (.slice bb B.length cB); rw [hB.1], (hB.alloc _).pt⟩
    | 2, _ => exact ⟨by show some (Value.slice cc nC cC) = some (.slice cc C.length cC); rw [hC.1], (hC.alloc _).pt⟩
    ⟩⟩ (by simp [catF]) (by rw [hl]; omega) (by rw [hl]; omega) (((hA.2.1).append hB.2.1).append hC.2.1)
  rw [hl] at C
  refine C.mono ?_
  rintro e w' ⟨a, cap, rfl, q1, q2⟩
  exact ⟨a, cap, rfl, q1, ((Below.refl _ _).alloc (Nat.le_refl _) _).trans (q2.mono (by simp))⟩
theorem conc4 (s : Nat) (aa : Option Addr) (nA cA : Nat) (A : List Int) (bb : Option Addr) (nB cB : Nat) (B : List Int) (cc : Option Addr) (nC cC : Nat) (C : List Int) (dd : Option Addr) (nD cD : Nat) (D : List Int) (w : World) (hs : s = w.heap.size) (hA : BOk w aa nA cA A) (hB : BOk w bb nB cB B) (hC : BOk w cc nC cC C) (hD : BOk w dd nD cD D) (h1 : 1 ≤ nA + nB + nC + nD) (h2 : nA + nB + nC + nD ≤ 1000000) (N : Nat) (hN : nA + nB + nC + nD = N) :
    Calls Try.prog 19 #[.slice (some ⟨s, 0, none⟩) 4 4] (w.alloc (.cells #[.slice aa nA cA, .slice bb nB cB, .slice cc nC cC, .slice dd nD cD] 24)) fun e w' => BP w N (A ++ B ++ C ++ D) e w' := by
  subst hs
  have hl : (A ++ B ++ C ++ D).length = N := by simp only [List.length_append, hA.1, hB.1, hC.1, hD.1]; omega
  have C := concat_bp w.heap.size 4 (fun i => if i = 0 then ⟨aa, cA, A⟩ else if i = 1 then ⟨bb, cB, B⟩ else if i = 2 then ⟨cc, cC, C⟩ else ⟨dd, cD, D⟩) (A ++ B ++ C ++ D) (w.alloc (.cells #[.slice aa nA cA, .slice bb nB cB, .slice cc nC cC, .slice dd nD cD] 24)) ⟨Nat.le_refl _, by unfold maxLen; omega, fun _ => ⟨_, 0, rfl, fun i hi => by
    rw [World.cell?_alloc_mark]
    match i, hi with
    | 0, _ => exact ⟨by show some (Value.slice aa nA cA) = some (.slice aa A.length cA); rw [hA.1], (hA.alloc _).pt⟩
    | 1, _ => exact ⟨by show some (Value.slice bb nB cB) = some (.slice bb B.length cB); rw [hB.1], (hB.alloc _).pt⟩
    | 2, _ => exact ⟨by show some (Value.slice cc nC cC) = some (.slice cc C.length cC); rw [hC.1], (hC.alloc _).pt⟩
    | 3, _ => exact ⟨by show some (Value.slice dd nD cD) = some (.slice dd D.length cD); rw [hD.1], (hD.alloc _).pt⟩
    ⟩⟩ (by simp [catF]) (by rw [hl]; omega) (by rw [hl]; omega) ((((hA.2.1).append hB.2.1).append hC.2.1).append hD.2.1)
  rw [hl] at C
  refine C.mono ?_
  rintro e w' ⟨a, cap, rfl, q1, q2⟩
  exact ⟨a, cap, rfl, q1, ((Below.refl _ _).alloc (Nat.le_refl _) _).trans (q2.mono (by simp))⟩
def by_ask (m : Ms) : List Int := bg 1 m.fi ++ bg 4 m.su ++ bg 4 m.ap
set_option maxHeartbeats 3200000 in
theorem put_ask (m : Ms) (w : World) (hsu : 0 ≤ m.su ∧ m.su < 4294967296) : Calls Try.prog 58 #[m.V] w fun e w' => BP w 9 (by_ask m) e w' := by
  have HQ : Hid (QM w m.c12 _) := QM.box w m.c12
  have P00 : Hid (∀ u, QM w m.c12 u → Calls Try.prog 20 #[.int .i64 1, .int .i64 m.fi] u fun e w' => BP u 1 (bg 1 m.fi) e w' ∧ QM w m.c12 w') := fun u hu => (put_bp 1 (by omega) m.fi u).mono fun e w' q => ⟨q, by obtain ⟨_, _, _, _, b⟩ := q; exact hu.old b⟩
  have P01 : Hid (∀ u, QM w m.c12 u → Calls Try.prog 20 #[.int .i64 4, .int .i64 m.su] u fun e w' => BP u 4 (bg 4 m.su) e w' ∧ QM w m.c12 w') := fun u hu => (put_bp 4 (by omega) m.su u).mono fun e w' q => ⟨q, by obtain ⟨_, _, _, _, b⟩ := q; exact hu.old b⟩
  have P02 : Hid (∀ u, QM w m.c12 u → Calls Try.prog 20 #[.int .i64 4, .int .i64 m.ap] u fun e w' => BP u 4 (bg 4 m.ap) e w' ∧ QM w m.c12 w') := fun u hu => (put_bp 4 (by omega) m.ap u).mono fun e w' q => ⟨q, by obtain ⟨_, _, _, _, b⟩ := q; exact hu.old b⟩
  obtain ⟨k, bo, fi, su, si, ap, bd, ix, pa, co, ra, rn, rc, da, dn, dc⟩ := m
  unfold by_ask
  unfold Ms.V at *
  unfold Ms.c12 at *
  simp only at *
  obtain ⟨L00, e00⟩ : ∃ L, bg 1 fi = L := ⟨_, rfl⟩
  rw [e00] at P00 ⊢
  clear e00
  obtain ⟨L01, e01⟩ : ∃ L, bg 4 su = L := ⟨_, rfl⟩
  rw [e01] at P01 ⊢
  clear e01
  obtain ⟨L02, e02⟩ : ∃ L, bg 4 ap = L := ⟨_, rfl⟩
  rw [e02] at P02 ⊢
  clear e02
  have hsw : IntKind.i64.wrap su = su := by rw [IntKind.wrap_i64]; omega
  clear hsu
  go_enter Try.func58, Try.ntmps58
  have q0 := HQ.out.2
  obtain ⟨d0, d1, d2, d3, d4, d5, d6, d7, d8, d9, d10, d11⟩ := twelve_cells q0
  clear q0
  go_upto_region 1 with fail
  have HQ0 : Hid (QM w #[.int .i64 k, .int .u32 bo, .int .i64 fi, .int .u32 su, .int .i64 si, .int .i64 ap, .int .i64 bd, .int .i64 ix, .int .i64 pa, .int .i64 co, .slice ra rn rc, .slice da dn dc] (w.alloc (.cells #[.int .i64 k, .int .u32 bo, .int .i64 fi, .int .u32 su, .int .i64 si, .int .i64 ap, .int .i64 bd, .int .i64 ix, .int .i64 pa, .int .i64 co, .slice ra rn rc, .slice da dn dc] 26)).drew) := HQ.out.old ⟨rfl, rfl, rfl, Nat.le_refl _, fun _ _ => rfl⟩
  go_region_held3 (fun u => u.cell? ⟨w.heap.size, 2, none⟩ = some (.int .i64 fi) ∧ u.cell? ⟨w.heap.size, 3, none⟩ = some (.int .u32 su) ∧ u.cell? ⟨w.heap.size, 5, none⟩ = some (.int .i64 ap))
    (first | (with_reducible exact ⟨by with_reducible assumption, by with_reducible assumption, by with_reducible assumption⟩) | go_keep) (first
      | (go_at_call 20; (with_reducible refine Calls.mono (P00.out _ HQ0.out) ?_); rintro e x00 ⟨⟨a00, c00, rfl, ok00, bl00⟩, q00⟩; have HO00 : Hid (BOk x00 a00 1 c00 L00) := ok00; have HB00 : Hid (Below _ _ x00) := bl00; have HQ00 : Hid (QM w #[.int .i64 k, .int .u32 bo, .int .i64 fi, .int .u32 su, .int .i64 si, .int .i64 ap, .int .i64 bd, .int .i64 ix, .int .i64 pa, .int .i64 co, .slice ra rn rc, .slice da dn dc] x00) := q00; obtain ⟨g00_0, g00_1, g00_2, g00_3, g00_4, g00_5, g00_6, g00_7, g00_8, g00_9, g00_10, g00_11⟩ := twelve_cells q00.2; clear ok00 bl00 q00)
      | (go_at_call 20; (with_reducible refine Calls.mono (P01.out _ HQ00.out) ?_); rintro e x01 ⟨⟨a01, c01, rfl, ok01, bl01⟩, q01⟩; have HO01 : Hid (BOk x01 a01 4 c01 L01) := ok01; have HB01 : Hid (Below _ _ x01) := bl01; have HQ01 : Hid (QM w #[.int .i64 k, .int .u32 bo, .int .i64 fi, .int .u32 su, .int .i64 si, .int .i64 ap, .int .i64 bd, .int .i64 ix, .int .i64 pa, .int .i64 co, .slice ra rn rc, .slice da dn dc] x01) := q01; obtain ⟨g01_0, g01_1, g01_2, g01_3, g01_4, g01_5, g01_6, g01_7, g01_8, g01_9, g01_10, g01_11⟩ := twelve_cells q01.2; clear ok01 bl01 q01)
      | (go_at_call 20; (with_reducible refine Calls.mono (P02.out _ HQ01.out) ?_); rintro e x02 ⟨⟨a02, c02, rfl, ok02, bl02⟩, q02⟩; have HO02 : Hid (BOk x02 a02 4 c02 L02) := ok02; have HB02 : Hid (Below _ _ x02) := bl02; have HQ02 : Hid (QM w #[.int .i64 k, .int .u32 bo, .int .i64 fi, .int .u32 su, .int .i64 si, .int .i64 ap, .int .i64 bd, .int .i64 ix, .int .i64 pa, .int .i64 co, .slice ra rn rc, .slice da dn dc] x02) := q02; obtain ⟨g02_0, g02_1, g02_2, g02_3, g02_4, g02_5, g02_6, g02_7, g02_8, g02_9, g02_10, g02_11⟩ := twelve_cells q02.2; clear ok02 bl02 q02)
      | (go_at_call 19; (with_reducible refine Calls.mono (conc3 _ _ _ _ _ _ _ _ _ _ _ _ _ x02 rfl ((HO00.out.old HB01.out).old HB02.out) (HO01.out.old HB02.out) HO02.out (by omega) (by omega) 9 (by omega)) ?_); rintro e wB ⟨aB, cB, rfl, okB, blB⟩; have HOB : Hid (BOk wB aB 9 cB _) := okB; have HQB : Hid (QM w #[.int .i64 k, .int .u32 bo, .int .i64 fi, .int .u32 su, .int .i64 si, .int .i64 ap, .int .i64 bd, .int .i64 ix, .int .i64 pa, .int .i64 co, .slice ra rn rc, .slice da dn dc] wB) := HQ02.out.old blB; obtain ⟨h0_0, h0_1, h0_2, h0_3, h0_4, h0_5, h0_6, h0_7, h0_8, h0_9, h0_10, h0_11⟩ := twelve_cells HQB.out.2; clear okB blB)
      | fail)
  go_wp2
  go_ret
  exact ⟨_, _, rfl, HOB.out, HQB.out.1⟩
def by_no (m : Ms) : List Int := bg 1 m.fi ++ bg 1 m.co
set_option maxHeartbeats 3200000 in
theorem put_no (m : Ms) (w : World) : Calls Try.prog 77 #[m.V] w fun e w' => BP w 2 (by_no m) e w' := by
  have HQ : Hid (QM w m.c12 _) := QM.box w m.c12
  have P00 : Hid (∀ u, QM w m.c12 u → Calls Try.prog 20 #[.int .i64 1, .int .i64 m.fi] u fun e w' => BP u 1 (bg 1 m.fi) e w' ∧ QM w m.c12 w') := fun u hu => (put_bp 1 (by omega) m.fi u).mono fun e w' q => ⟨q, by obtain ⟨_, _, _, _, b⟩ := q; exact hu.old b⟩
  have P01 : Hid (∀ u, QM w m.c12 u → Calls Try.prog 20 #[.int .i64 1, .int .i64 m.co] u fun e w' => BP u 1 (bg 1 m.co) e w' ∧ QM w m.c12 w') := fun u hu => (put_bp 1 (by omega) m.co u).mono fun e w' q => ⟨q, by obtain ⟨_, _, _, _, b⟩ := q; exact hu.old b⟩
  obtain ⟨k, bo, fi, su, si, ap, bd, ix, pa, co, ra, rn, rc, da, dn, dc⟩ := m
  unfold by_no
  unfold Ms.V at *
  unfold Ms.c12 at *
  simp only at *
  obtain ⟨L00, e00⟩ : ∃ L, bg 1 fi = L := ⟨_, rfl⟩
  rw [e00] at P00 ⊢
  clear e00
  obtain ⟨L01, e01⟩ : ∃ L, bg 1 co = L := ⟨_, rfl⟩
  rw [e01] at P01 ⊢
  clear e01
  go_enter Try.func77, Try.ntmps77
  have q0 := HQ.out.2
  obtain ⟨d0, d1, d2, d3, d4, d5, d6, d7, d8, d9, d10, d11⟩ := twelve_cells q0
  clear q0
  go_upto_region 1 with fail
  have HQ0 : Hid (QM w #[.int .i64 k, .int .u32 bo, .int .i64 fi, .int .u32 su, .int .i64 si, .int .i64 ap, .int .i64 bd, .int .i64 ix, .int .i64 pa, .int .i64 co, .slice ra rn rc, .slice da dn dc] (w.alloc (.cells #[.int .i64 k, .int .u32 bo, .int .i64 fi, .int .u32 su, .int .i64 si, .int .i64 ap, .int .i64 bd, .int .i64 ix, .int .i64 pa, .int .i64 co, .slice ra rn rc, .slice da dn dc] 26)).drew) := HQ.out.old ⟨rfl, rfl, rfl, Nat.le_refl _, fun _ _ => rfl⟩
  go_region_held3 (fun u => u.cell? ⟨w.heap.size, 2, none⟩ = some (.int .i64 fi) ∧ u.cell? ⟨w.heap.size, 9, none⟩ = some (.int .i64 co))
    (first | (with_reducible exact ⟨by with_reducible assumption, by with_reducible assumption⟩) | go_keep) (first
      | (go_at_call 20; (with_reducible refine Calls.mono (P00.out _ HQ0.out) ?_); rintro e x00 ⟨⟨a00, c00, rfl, ok00, bl00⟩, q00⟩; have HO00 : Hid (BOk x00 a00 1 c00 L00) := ok00; have HB00 : Hid (Below _ _ x00) := bl00; have HQ00 : Hid (QM w #[.int .i64 k, .int .u32 bo, .int .i64 fi, .int .u32 su, .int .i64 si, .int .i64 ap, .int .i64 bd, .int .i64 ix, .int .i64 pa, .int .i64 co, .slice ra rn rc, .slice da dn dc] x00) := q00; obtain ⟨g00_0, g00_1, g00_2, g00_3, g00_4, g00_5, g00_6, g00_7, g00_8, g00_9, g00_10, g00_11⟩ := twelve_cells q00.2; clear ok00 bl00 q00)
      | (go_at_call 20; (with_reducible refine Calls.mono (P01.out _ HQ00.out) ?_); rintro e x01 ⟨⟨a01, c01, rfl, ok01, bl01⟩, q01⟩; have HO01 : Hid (BOk x01 a01 1 c01 L01) := ok01; have HB01 : Hid (Below _ _ x01) := bl01; have HQ01 : Hid (QM w #[.int .i64 k, .int .u32 bo, .int .i64 fi, .int .u32 su, .int .i64 si, .int .i64 ap, .int .i64 bd, .int .i64 ix, .int .i64 pa, .int .i64 co, .slice ra rn rc, .slice da dn dc] x01) := q01; obtain ⟨g01_0, g01_1, g01_2, g01_3, g01_4, g01_5, g01_6, g01_7, g01_8, g01_9, g01_10, g01_11⟩ := twelve_cells q01.2; clear ok01 bl01 q01)
      | (go_at_call 19; (with_reducible refine Calls.mono (conc2 _ _ _ _ _ _ _ _ _ x01 rfl (HO00.out.old HB01.out) HO01.out (by omega) (by omega) 2 (by omega)) ?_); rintro e wB ⟨aB, cB, rfl, okB, blB⟩; have HOB : Hid (BOk wB aB 2 cB _) := okB; have HQB : Hid (QM w #[.int .i64 k, .int .u32 bo, .int .i64 fi, .int .u32 su, .int .i64 si, .int .i64 ap, .int .i64 bd, .int .i64 ix, .int .i64 pa, .int .i64 co, .slice ra rn rc, .slice da dn dc] wB) := HQ01.out.old blB; obtain ⟨h0_0, h0_1, h0_2, h0_3, h0_4, h0_5, h0_6, h0_7, h0_8, h0_9, h0_10, h0_11⟩ := twelve_cells HQB.out.2; clear okB blB)
      | fail)
  go_wp2
  go_ret
  exact ⟨_, _, rfl, HOB.out, HQB.out.1⟩
def by_data (m : Ms) (D : List Int) : List Int := bg 4 m.ix ++ bg 1 m.pa ++ D
set_option maxHeartbeats 3200000 in
theorem put_data (m : Ms) (w : World) (D : List Int) (hd : BOk w m.da m.dn m.dc D) (hdn : m.dn ≤ 1024) : Calls Try.prog 67 #[m.V] w fun e w' => BP w (5 + m.dn) (by_data m D) e w' := by
  have HQ : Hid (QM w m.c12 _) := QM.box w m.c12
  have HD : Hid (∀ u, QM w m.c12 u → BOk u m.da m.dn m.dc D) := fun u hu => hd.old hu.1
  clear hd
  have P00 : Hid (∀ u, QM w m.c12 u → Calls Try.prog 20 #[.int .i64 4, .int .i64 m.ix] u fun e w' => BP u 4 (bg 4 m.ix) e w' ∧ QM w m.c12 w') := fun u hu => (put_bp 4 (by omega) m.ix u).mono fun e w' q => ⟨q, by obtain ⟨_, _, _, _, b⟩ := q; exact hu.old b⟩
  have P01 : Hid (∀ u, QM w m.c12 u → Calls Try.prog 20 #[.int .i64 1, .int .i64 m.pa] u fun e w' => BP u 1 (bg 1 m.pa) e w' ∧ QM w m.c12 w') := fun u hu => (put_bp 1 (by omega) m.pa u).mono fun e w' q => ⟨q, by obtain ⟨_, _, _, _, b⟩ := q; exact hu.old b⟩
  obtain ⟨k, bo, fi, su, si, ap, bd, ix, pa, co, ra, rn, rc, da, dn, dc⟩ := m
  unfold by_data
  unfold Ms.V at *
  unfold Ms.c12 at *
  simp only at *
  obtain ⟨L00, e00⟩ : ∃ L, bg 4 ix = L := ⟨_, rfl⟩
  rw [e00] at P00 ⊢
  clear e00
  obtain ⟨L01, e01⟩ : ∃ L, bg 1 pa = L := ⟨_, rfl⟩
  rw [e01] at P01 ⊢
  clear e01
  go_enter Try.func67, Try.ntmps67
  have q0 := HQ.out.2
  obtain ⟨d0, d1, d2, d3, d4, d5, d6, d7, d8, d9, d10, d11⟩ := twelve_cells q0
  clear q0
  go_upto_region 1 with fail
  have HQ0 : Hid (QM w #[.int .i64 k, .int .u32 bo, .int .i64 fi, .int .u32 su, .int .i64 si, .int .i64 ap, .int .i64 bd, .int .i64 ix, .int .i64 pa, .int .i64 co, .slice ra rn rc, .slice da dn dc] (w.alloc (.cells #[.int .i64 k, .int .u32 bo, .int .i64 fi, .int .u32 su, .int .i64 si, .int .i64 ap, .int .i64 bd, .int .i64 ix, .int .i64 pa, .int .i64 co, .slice ra rn rc, .slice da dn dc] 26)).drew) := HQ.out.old ⟨rfl, rfl, rfl, Nat.le_refl _, fun _ _ => rfl⟩
  go_region_held3 (fun u => u.cell? ⟨w.heap.size, 7, none⟩ = some (.int .i64 ix) ∧ u.cell? ⟨w.heap.size, 8, none⟩ = some (.int .i64 pa) ∧ u.cell? ⟨w.heap.size, 11, none⟩ = some (.slice da dn dc))
    (first | (with_reducible exact ⟨by with_reducible assumption, by with_reducible assumption, by with_reducible assumption⟩) | go_keep) (first
      | (go_at_call 20; (with_reducible refine Calls.mono (P00.out _ HQ0.out) ?_); rintro e x00 ⟨⟨a00, c00, rfl, ok00, bl00⟩, q00⟩; have HO00 : Hid (BOk x00 a00 4 c00 L00) := ok00; have HB00 : Hid (Below _ _ x00) := bl00; have HQ00 : Hid (QM w #[.int .i64 k, .int .u32 bo, .int .i64 fi, .int .u32 su, .int .i64 si, .int .i64 ap, .int .i64 bd, .int .i64 ix, .int .i64 pa, .int .i64 co, .slice ra rn rc, .slice da dn dc] x00) := q00; obtain ⟨g00_0, g00_1, g00_2, g00_3, g00_4, g00_5, g00_6, g00_7, g00_8, g00_9, g00_10, g00_11⟩ := twelve_cells q00.2; clear ok00 bl00 q00)
      | (go_at_call 20; (with_reducible refine Calls.mono (P01.out _ HQ00.out) ?_); rintro e x01 ⟨⟨a01, c01, rfl, ok01, bl01⟩, q01⟩; have HO01 : Hid (BOk x01 a01 1 c01 L01) := ok01; have HB01 : Hid (Below _ _ x01) := bl01; have HQ01 : Hid (QM w #[.int .i64 k, .int .u32 bo, .int .i64 fi, .int .u32 su, .int .i64 si, .int .i64 ap, .int .i64 bd, .int .i64 ix, .int .i64 pa, .int .i64 co, .slice ra rn rc, .slice da dn dc] x01) := q01; obtain ⟨g01_0, g01_1, g01_2, g01_3, g01_4, g01_5, g01_6, g01_7, g01_8, g01_9, g01_10, g01_11⟩ := twelve_cells q01.2; clear ok01 bl01 q01)
      | (go_at_call 19; (with_reducible refine Calls.mono (conc3 _ _ _ _ _ _ _ _ _ _ _ _ _ x01 rfl (HO00.out.old HB01.out) HO01.out (HD.out _ HQ01.out) (by omega) (by omega) (5 + dn) (by omega)) ?_); rintro e wB ⟨aB, cB, rfl, okB, blB⟩; have HOB : Hid (BOk wB aB (5 + dn) cB _) := okB; have HQB : Hid (QM w #[.int .i64 k, .int .u32 bo, .int .i64 fi, .int .u32 su, .int .i64 si, .int .i64 ap, .int .i64 bd, .int .i64 ix, .int .i64 pa, .int .i64 co, .slice ra rn rc, .slice da dn dc] wB) := HQ01.out.old blB; obtain ⟨h0_0, h0_1, h0_2, h0_3, h0_4, h0_5, h0_6, h0_7, h0_8, h0_9, h0_10, h0_11⟩ := twelve_cells HQB.out.2; clear okB blB)
      | fail)
  go_wp2
  go_ret
  exact ⟨_, _, rfl, HOB.out, HQB.out.1⟩
def by_offer (m : Ms) : List Int := bg 1 m.fi ++ bg 4 m.su ++ bg 4 m.si ++ bg 4 m.ap ++ bg 2 m.bd
set_option maxHeartbeats 3200000 in
theorem put_offer (m : Ms) (w : World) (hsu : 0 ≤ m.su ∧ m.su < 4294967296) : Calls Try.prog 62 #[m.V] w fun e w' => BP w 15 (by_offer m) e w' := by
  have HQ : Hid (QM w m.c12 _) := QM.box w m.c12
  have P00 : Hid (∀ u, QM w m.c12 u → Calls Try.prog 20 #[.int .i64 1, .int .i64 m.fi] u fun e w' => BP u 1 (bg 1 m.fi) e w' ∧ QM w m.c12 w') := fun u hu => (put_bp 1 (by omega) m.fi u).mono fun e w' q => ⟨q, by obtain ⟨_, _, _, _, b⟩ := q; exact hu.old b⟩
  have P01 : Hid (∀ u, QM w m.c12 u → Calls Try.prog 20 #[.int .i64 4, .int .i64 m.su] u fun e w' => BP u 4 (bg 4 m.su) e w' ∧ QM w m.c12 w') := fun u hu => (put_bp 4 (by omega) m.su u).mono fun e w' q => ⟨q, by obtain ⟨_, _, _, _, b⟩ := q; exact hu.old b⟩
  have P11 : Hid (∀ u, QM w m.c12 u → Calls Try.prog 20 #[.int .i64 4, .int .i64 m.si] u fun e w' => BP u 4 (bg 4 m.si) e w' ∧ QM w m.c12 w') := fun u hu => (put_bp 4 (by omega) m.si u).mono fun e w' q => ⟨q, by obtain ⟨_, _, _, _, b⟩ := q; exact hu.old b⟩
  have P12 : Hid (∀ u, QM w m.c12 u → Calls Try.prog 20 #[.int .i64 4, .int .i64 m.ap] u fun e w' => BP u 4 (bg 4 m.ap) e w' ∧ QM w m.c12 w') := fun u hu => (put_bp 4 (by omega) m.ap u).mono fun e w' q => ⟨q, by obtain ⟨_, _, _, _, b⟩ := q; exact hu.old b⟩
  have P13 : Hid (∀ u, QM w m.c12 u → Calls Try.prog 20 #[.int .i64 2, .int .i64 m.bd] u fun e w' => BP u 2 (bg 2 m.bd) e w' ∧ QM w m.c12 w') := fun u hu => (put_bp 2 (by omega) m.bd u).mono fun e w' q => ⟨q, by obtain ⟨_, _, _, _, b⟩ := q; exact hu.old b⟩
  obtain ⟨k, bo, fi, su, si, ap, bd, ix, pa, co, ra, rn, rc, da, dn, dc⟩ := m
  unfold by_offer
  unfold Ms.V at *
  unfold Ms.c12 at *
  simp only at *
  obtain ⟨L00, e00⟩ : ∃ L, bg 1 fi = L := ⟨_, rfl⟩
  rw [e00] at P00 ⊢
  clear e00
  obtain ⟨L01, e01⟩ : ∃ L, bg 4 su = L := ⟨_, rfl⟩
  rw [e01] at P01 ⊢
  clear e01
  obtain ⟨L11, e11⟩ : ∃ L, bg 4 si = L := ⟨_, rfl⟩
  rw [e11] at P11 ⊢
  clear e11
  obtain ⟨L12, e12⟩ : ∃ L, bg 4 ap = L := ⟨_, rfl⟩
  rw [e12] at P12 ⊢
  clear e12
  obtain ⟨L13, e13⟩ : ∃ L, bg 2 bd = L := ⟨_, rfl⟩
  rw [e13] at P13 ⊢
  clear e13
  have hsw : IntKind.i64.wrap su = su := by rw [IntKind.wrap_i64]; omega
  clear hsu
  go_enter Try.func62, Try.ntmps62
  have q0 := HQ.out.2
  obtain ⟨d0, d1, d2, d3, d4, d5, d6, d7, d8, d9, d10, d11⟩ := twelve_cells q0
  clear q0
  go_upto_region 1 with fail
  have HQ0 : Hid (QM w #[.int .i64 k, .int .u32 bo, .int .i64 fi, .int .u32 su, .int .i64 si, .int .i64 ap, .int .i64 bd, .int .i64 ix, .int .i64 pa, .int .i64 co, .slice ra rn rc, .slice da dn dc] (w.alloc (.cells #[.int .i64 k, .int .u32 bo, .int .i64 fi, .int .u32 su, .int .i64 si, .int .i64 ap, .int .i64 bd, .int .i64 ix, .int .i64 pa, .int .i64 co, .slice ra rn rc, .slice da dn dc] 26)).drew) := HQ.out.old ⟨rfl, rfl, rfl, Nat.le_refl _, fun _ _ => rfl⟩
  go_region_held3 (fun u => u.cell? ⟨w.heap.size, 2, none⟩ = some (.int .i64 fi) ∧ u.cell? ⟨w.heap.size, 3, none⟩ = some (.int .u32 su))
    (first | (with_reducible exact ⟨by with_reducible assumption, by with_reducible assumption⟩) | go_keep) (first
      | (go_at_call 20; (with_reducible refine Calls.mono (P00.out _ HQ0.out) ?_); rintro e x00 ⟨⟨a00, c00, rfl, ok00, bl00⟩, q00⟩; have HO00 : Hid (BOk x00 a00 1 c00 L00) := ok00; have HB00 : Hid (Below _ _ x00) := bl00; have HQ00 : Hid (QM w #[.int .i64 k, .int .u32 bo, .int .i64 fi, .int .u32 su, .int .i64 si, .int .i64 ap, .int .i64 bd, .int .i64 ix, .int .i64 pa, .int .i64 co, .slice ra rn rc, .slice da dn dc] x00) := q00; obtain ⟨g00_0, g00_1, g00_2, g00_3, g00_4, g00_5, g00_6, g00_7, g00_8, g00_9, g00_10, g00_11⟩ := twelve_cells q00.2; clear ok00 bl00 q00)
      | (go_at_call 20; (with_reducible refine Calls.mono (P01.out _ HQ00.out) ?_); rintro e x01 ⟨⟨a01, c01, rfl, ok01, bl01⟩, q01⟩; have HO01 : Hid (BOk x01 a01 4 c01 L01) := ok01; have HB01 : Hid (Below _ _ x01) := bl01; have HQ01 : Hid (QM w #[.int .i64 k, .int .u32 bo, .int .i64 fi, .int .u32 su, .int .i64 si, .int .i64 ap, .int .i64 bd, .int .i64 ix, .int .i64 pa, .int .i64 co, .slice ra rn rc, .slice da dn dc] x01) := q01; obtain ⟨g01_0, g01_1, g01_2, g01_3, g01_4, g01_5, g01_6, g01_7, g01_8, g01_9, g01_10, g01_11⟩ := twelve_cells q01.2; clear ok01 bl01 q01)
      | (go_at_call 19; (with_reducible refine Calls.mono (conc2 _ _ _ _ _ _ _ _ _ x01 rfl (HO00.out.old HB01.out) HO01.out (by omega) (by omega) 5 (by omega)) ?_); rintro e wB ⟨aB, cB, rfl, okB, blB⟩; have HOB : Hid (BOk wB aB 5 cB _) := okB; have HQB : Hid (QM w #[.int .i64 k, .int .u32 bo, .int .i64 fi, .int .u32 su, .int .i64 si, .int .i64 ap, .int .i64 bd, .int .i64 ix, .int .i64 pa, .int .i64 co, .slice ra rn rc, .slice da dn dc] wB) := HQ01.out.old blB; obtain ⟨h0_0, h0_1, h0_2, h0_3, h0_4, h0_5, h0_6, h0_7, h0_8, h0_9, h0_10, h0_11⟩ := twelve_cells HQB.out.2; clear okB blB)
      | fail)
  go_upto_region 2 with fail
  have HQ1z : Hid (QM w #[.int .i64 k, .int .u32 bo, .int .i64 fi, .int .u32 su, .int .i64 si, .int .i64 ap, .int .i64 bd, .int .i64 ix, .int .i64 pa, .int .i64 co, .slice ra rn rc, .slice da dn dc] wB.drew) := HQB.out.old ⟨rfl, rfl, rfl, Nat.le_refl _, fun _ _ => rfl⟩
  obtain ⟨f0, f1, f2, f3, f4, f5, f6, f7, f8, f9, f10, f11⟩ := twelve_cells HQB.out.2
  go_region_held3 (fun u => u.cell? ⟨w.heap.size, 4, none⟩ = some (.int .i64 si) ∧ u.cell? ⟨w.heap.size, 5, none⟩ = some (.int .i64 ap) ∧ u.cell? ⟨w.heap.size, 6, none⟩ = some (.int .i64 bd))
    (first | (with_reducible exact ⟨by with_reducible assumption, by with_reducible assumption, by with_reducible assumption⟩) | go_keep) (first
      | (go_at_call 20; (with_reducible refine Calls.mono (P11.out _ HQ1z.out) ?_); rintro e x11 ⟨⟨a11, c11, rfl, ok11, bl11⟩, q11⟩; have HO11 : Hid (BOk x11 a11 4 c11 L11) := ok11; have HB11 : Hid (Below _ _ x11) := bl11; have HQ11 : Hid (QM w #[.int .i64 k, .int .u32 bo, .int .i64 fi, .int .u32 su, .int .i64 si, .int .i64 ap, .int .i64 bd, .int .i64 ix, .int .i64 pa, .int .i64 co, .slice ra rn rc, .slice da dn dc] x11) := q11; obtain ⟨g11_0, g11_1, g11_2, g11_3, g11_4, g11_5, g11_6, g11_7, g11_8, g11_9, g11_10, g11_11⟩ := twelve_cells q11.2; clear ok11 bl11 q11)
      | (go_at_call 20; (with_reducible refine Calls.mono (P12.out _ HQ11.out) ?_); rintro e x12 ⟨⟨a12, c12, rfl, ok12, bl12⟩, q12⟩; have HO12 : Hid (BOk x12 a12 4 c12 L12) := ok12; have HB12 : Hid (Below _ _ x12) := bl12; have HQ12 : Hid (QM w #[.int .i64 k, .int .u32 bo, .int .i64 fi, .int .u32 su, .int .i64 si, .int .i64 ap, .int .i64 bd, .int .i64 ix, .int .i64 pa, .int .i64 co, .slice ra rn rc, .slice da dn dc] x12) := q12; obtain ⟨g12_0, g12_1, g12_2, g12_3, g12_4, g12_5, g12_6, g12_7, g12_8, g12_9, g12_10, g12_11⟩ := twelve_cells q12.2; clear ok12 bl12 q12)
      | (go_at_call 20; (with_reducible refine Calls.mono (P13.out _ HQ12.out) ?_); rintro e x13 ⟨⟨a13, c13, rfl, ok13, bl13⟩, q13⟩; have HO13 : Hid (BOk x13 a13 2 c13 L13) := ok13; have HB13 : Hid (Below _ _ x13) := bl13; have HQ13 : Hid (QM w #[.int .i64 k, .int .u32 bo, .int .i64 fi, .int .u32 su, .int .i64 si, .int .i64 ap, .int .i64 bd, .int .i64 ix, .int .i64 pa, .int .i64 co, .slice ra rn rc, .slice da dn dc] x13) := q13; obtain ⟨g13_0, g13_1, g13_2, g13_3, g13_4, g13_5, g13_6, g13_7, g13_8, g13_9, g13_10, g13_11⟩ := twelve_cells q13.2; clear ok13 bl13 q13)
      | (go_at_call 19; (with_reducible refine Calls.mono (conc4 _ _ _ _ _ _ _ _ _ _ _ _ _ _ _ _ _ x13 rfl ((((HOB.out.old (show Below wB.heap.size wB wB.drew from ⟨rfl, rfl, rfl, Nat.le_refl _, fun _ _ => rfl⟩)).old HB11.out).old HB12.out).old HB13.out) ((HO11.out.old HB12.out).old HB13.out) (HO12.out.old HB13.out) HO13.out (by omega) (by omega) 15 (by omega)) ?_); rintro e wB2 ⟨aB2, cB2, rfl, okB2, blB2⟩; have HOB2 : Hid (BOk wB2 aB2 15 cB2 _) := okB2; have HQB2 : Hid (QM w #[.int .i64 k, .int .u32 bo, .int .i64 fi, .int .u32 su, .int .i64 si, .int .i64 ap, .int .i64 bd, .int .i64 ix, .int .i64 pa, .int .i64 co, .slice ra rn rc, .slice da dn dc] wB2) := HQ13.out.old blB2; obtain ⟨h1_0, h1_1, h1_2, h1_3, h1_4, h1_5, h1_6, h1_7, h1_8, h1_9, h1_10, h1_11⟩ := twelve_cells HQB2.out.2; clear okB2 blB2)
      | fail)
  go_wp2
  go_ret
  exact ⟨_, _, rfl, HOB2.out, HQB2.out.1⟩
end Go.Proofs.Ytaibojmaghmfnaa
