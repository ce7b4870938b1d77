/- The program's Write. -/
import Derived.Test.YtinmkhdangknbaaTkF
namespace Go.Proofs.Ytinmkhdangknbaa
open Go.RowKit
/-- What Write comes to. -/
def WrT (w : World) (N : Nat) (l : List Int) (e : Ending) (w' : World) : Prop := ∃ a cap g, e = .returned (.tuple #[.slice a N cap, .int .i64 0]) ∧ Sl w' 5 (.slice a N cap) g (vals l) ∧ l.length = N ∧ Bytes l ∧ (∀ k, g = some k → w.heap.size ≤ k) ∧ Below w.heap.size w w'
theorem write_no (f s : Int) (a : Option Addr) (n c : Nat) (w : World) (hm : mayT f n = false) : Calls Try.prog 10 #[.agg #[.int .i64 f, .int .u32 s, .slice a n c]] w fun e w' => e = .returned (.tuple #[.slice none 0 0, .int .i64 1]) ∧ Below w.heap.size w w' := by
  have HQ : Hid (QT w #[.int .i64 f, .int .u32 s, .slice a n c] _) := QT.box w #[.int .i64 f, .int .u32 s, .slice a n c]
  have HM : Hid (∀ u, Calls Try.prog 26 #[.agg #[.int .i64 f, .int .u32 s, .slice a n c]] u fun e w' => e = .returned (.bool false) ∧ Below u.heap.size u w') := fun u => by have := maybe_any f s a n c u; rwa [hm] at this
  clear hm
  go_enter Try.func10, Try.ntmps10
  obtain ⟨d0, d1, d2⟩ := three_cells HQ.out.2
  go_wp2_with fail
  refine Calls.mono (HM.out _) ?_
  rintro e w1 ⟨rfl, b1⟩
  have HB : Hid (Below w.heap.size w w1) := (HQ.out.old b1).1
  clear b1
  go_wp2
  go_ret2
  exact ⟨rfl, HB.out⟩
set_option maxHeartbeats 6400000 in
theorem write_yes (f s : Int) (a : Option Addr) (n c : Nat) (D : List Int) (w : World) (hm : mayT f n = true) (hd : BOk w a n c D) (hs : 0 ≤ s ∧ s < 4294967296) : Calls Try.prog 10 #[.agg #[.int .i64 f, .int .u32 s, .slice a n c]] w fun e w' => WrT w (13 + n) (sealM (txT f s D)) e w' := by
  have HQ : Hid (QT w #[.int .i64 f, .int .u32 s, .slice a n c] _) := QT.box w #[.int .i64 f, .int .u32 s, .slice a n c]
  have HM : Hid (∀ u, Calls Try.prog 26 #[.agg #[.int .i64 f, .int .u32 s, .slice a n c]] u fun e w' => e = .returned (.bool true) ∧ Below u.heap.size u w') := fun u => by have := maybe_any f s a n c u; rwa [hm] at this
  have HD : Hid (BOk w a n c D) := hd
  obtain ⟨m0, m1, m2⟩ := mayT_iff.1 hm
  have P0 : Hid (∀ u, QT w #[.int .i64 f, .int .u32 s, .slice a n c] u → Calls Try.prog 28 #[.int .i64 1, .int .i64 f] u fun e w' => BP u 1 (bg 1 f) e w' ∧ QT w #[.int .i64 f, .int .u32 s, .slice a n c] w') := fun u hu => (put_bp 1 (by omega) f u).mono fun e w' q => ⟨q, by obtain ⟨_, _, _, _, b⟩ := q; exact hu.old b⟩
  have P1 : Hid (∀ u, QT w #[.int .i64 f, .int .u32 s, .slice a n c] u → Calls Try.prog 28 #[.int .i64 4, .int .i64 s] u fun e w' => BP u 4 (bg 4 s) e w' ∧ QT w #[.int .i64 f, .int .u32 s, .slice a n c] w') := fun u hu => (put_bp 4 (by omega) s u).mono fun e w' q => ⟨q, by obtain ⟨_, _, _, _, b⟩ := q; exact hu.old b⟩
  have P2 : Hid (∀ u, QT w #[.int .i64 f, .int .u32 s, .slice a n c] u → Calls Try.prog 28 #[.int .i64 4, .int .i64 (n : Int)] u fun e w' => BP u 4 (bg 4 (n : Int)) e w' ∧ QT w #[.int .i64 f, .int .u32 s, .slice a n c] w') := fun u hu => (put_bp 4 (by omega) n u).mono fun e w' q => ⟨q, by obtain ⟨_, _, _, _, b⟩ := q; exact hu.old b⟩
  have hL : txT f s D = bg 1 f ++ bg 4 s ++ bg 4 (n : Int) ++ D := by unfold txT; rw [hd.1]
  rw [hL]
  obtain ⟨L0, e0⟩ : ∃ L, bg 1 f = L := ⟨_, rfl⟩
  obtain ⟨L1, e1⟩ : ∃ L, bg 4 s = L := ⟨_, rfl⟩
  obtain ⟨L2, e2⟩ : ∃ L, bg 4 (n : Int) = L := ⟨_, rfl⟩
  rw [e0] at P0 ⊢
  rw [e1] at P1 ⊢
  rw [e2] at P2 ⊢
  clear hL e0 e1 e2
  have hsw : IntKind.i64.wrap s = s := by rw [IntKind.wrap_i64]; omega
  clear hs hm hd m0 m1
  go_enter Try.func10, Try.ntmps10
  obtain ⟨d0, d1, d2⟩ := three_cells HQ.out.2
  go_wp2_with fail
  refine Calls.mono (HM.out _) ?_
  rintro e wm ⟨rfl, bm⟩
  have HQm : Hid (QT w #[.int .i64 f, .int .u32 s, .slice a n c] wm) := HQ.out.old bm
  clear bm d0 d1 d2 HQ
  go_upto_region 3 with fail
  have HQd : Hid (QT w #[.int .i64 f, .int .u32 s, .slice a n c] wm.drew) := HQm.out.old ⟨rfl, rfl, rfl, Nat.le_refl _, fun _ _ => rfl⟩
  obtain ⟨d0, d1, d2⟩ := three_cells HQm.out.2
  obtain ⟨r0, r1, r2⟩ := three_cells HQd.out.2
  go_region_held3 (fun u => u.cell? ⟨w.heap.size, 0, none⟩ = some (.int .i64 f) ∧ u.cell? ⟨w.heap.size, 1, none⟩ = some (.int .u32 s) ∧ u.cell? ⟨w.heap.size, 2, none⟩ = some (.slice a n c))
    (first | (with_reducible exact ⟨by with_reducible assumption, by with_reducible assumption, by with_reducible assumption⟩) | go_keep) (first
      | (go_at_call 28; (with_reducible refine Calls.mono (P0.out _ HQd.out) ?_); rintro e x0 ⟨⟨a0, c0, rfl, ok0, bl0⟩, q0⟩; have HO0 : Hid (BOk x0 a0 1 c0 L0) := ok0; have HQ0 : Hid (QT w #[.int .i64 f, .int .u32 s, .slice a n c] x0) := q0; obtain ⟨s0, s1, s2⟩ := three_cells q0.2; clear ok0 bl0 q0)
      | (go_at_call 28; (with_reducible refine Calls.mono (P1.out _ HQ0.out) ?_); rintro e x1 ⟨⟨a1, c1, rfl, ok1, bl1⟩, q1⟩; have HO1 : Hid (BOk x1 a1 4 c1 L1) := ok1; have HO01 : Hid (BOk x1 a0 1 c0 L0) := HO0.out.old bl1; have HQ1 : Hid (QT w #[.int .i64 f, .int .u32 s, .slice a n c] x1) := q1; obtain ⟨t0, t1, t2⟩ := three_cells q1.2; clear ok1 bl1 q1)
      | (go_at_call 28; (with_reducible refine Calls.mono (P2.out _ HQ1.out) ?_); rintro e x2 ⟨⟨a2, c2, rfl, ok2, bl2⟩, q2⟩; have HO2 : Hid (BOk x2 a2 4 c2 L2) := ok2; have HO02 : Hid (BOk x2 a0 1 c0 L0) := HO01.out.old bl2; have HO12 : Hid (BOk x2 a1 4 c1 L1) := HO1.out.old bl2; have HQ2 : Hid (QT w #[.int .i64 f, .int .u32 s, .slice a n c] x2) := q2; obtain ⟨v0, v1, v2⟩ := three_cells q2.2; clear ok2 bl2 q2)
      | (go_at_call 27; (refine Calls.mono (conc4s _ _ _ _ _ _ _ _ _ _ _ _ _ _ _ _ _ x2 rfl HO02.out HO12.out HO2.out (HD.out.old HQ2.out.1) (by omega) (by omega) (9 + n) (by omega)) ?_); rintro e x3 ⟨a3, c3, g3, rfl, sl3, l3, by3, fr3, bl3⟩; have HS3 : Hid (Sl x3 5 (.slice a3 (9 + n) c3) g3 (vals (L0 ++ L1 ++ L2 ++ D))) := sl3; have HL3 : Hid ((L0 ++ L1 ++ L2 ++ D).length = 9 + n ∧ Bytes (L0 ++ L1 ++ L2 ++ D)) := ⟨l3, by3⟩; have HF3 : Hid (∀ k, g3 = some k → w.heap.size ≤ k) := (fun k hk => by have := fr3 k hk; have := HQ2.out.1.size; omega); have HQ3 : Hid (QT w #[.int .i64 f, .int .u32 s, .slice a n c] x3) := HQ2.out.old bl3; obtain ⟨z0, z1, z2⟩ := three_cells HQ3.out.2; clear sl3 l3 by3 fr3 bl3)
      )
  obtain ⟨X, hX⟩ : ∃ X, (crcM (BitVec.ofNat 32 0) (L0 ++ L1 ++ L2 ++ D)).toNat = X := ⟨_, rfl⟩
  have hXlt : X < 4294967296 := by rw [← hX]; exact (crcM (BitVec.ofNat 32 0) (L0 ++ L1 ++ L2 ++ D)).isLt
  have HX : Hid ((crcM (BitVec.ofNat 32 0) (L0 ++ L1 ++ L2 ++ D)).toNat = X) := hX
  have HBk : Hid (BOk x3 a3 (9 + n) c3 (L0 ++ L1 ++ L2 ++ D)) := HS3.out.bok HL3.out.1 HL3.out.2 (by omega)
  have C1 := of_one x3 _ rfl a3 (9 + n) c3 _ HBk.out
  rw [hX] at C1
  have HC1 : Hid _ := C1
  have hAl : Below x3.heap.size x3 (x3.alloc (.cells #[.slice a3 (9 + n) c3] 23)) := (Below.refl _ _).alloc (Nat.le_refl _) _
  have HS4 : Hid (Sl (x3.alloc (.cells #[.slice a3 (9 + n) c3] 23)) 5 (.slice a3 (9 + n) c3) g3 (vals (L0 ++ L1 ++ L2 ++ D))) := HS3.out.same (fun k hk => hAl.block k (HS3.out.lt hk))
  have HB4 : Hid (Below w.heap.size w (x3.alloc (.cells #[.slice a3 (9 + n) c3] 23))) := HQ3.out.1.trans (hAl.mono HQ3.out.1.size)
  clear C1 hX hAl HS3 HQ3 HQ2 HQ1 HQ0 HQd HQm HO0 HO1 HO01 HO02 HO12 HO2 P0 P1 P2 HM HBk HD
  go_wp2_with (first
      | (go_at_call 30; refine Calls.mono HC1.out ?_; rintro e x4 ⟨rfl, rfl⟩; clear HC1)
      | (go_at_call 29; refine (putl_bp 4 (by omega) (X : Int) _).mono ?_; rintro e x5 ⟨a5, c5, rfl, ok5, bl5⟩; have HO5 : Hid (BOk x5 a5 4 c5 (octs (X : Int) 4)) := ok5; have HS5 : Hid (Sl x5 5 (.slice a3 (9 + n) c3) g3 (vals (L0 ++ L1 ++ L2 ++ D))) := HS4.out.same (fun k hk => bl5.block k (HS4.out.lt hk)); have HB5 : Hid (Below w.heap.size w x5) := HB4.out.trans (bl5.mono HB4.out.size); clear ok5 bl5)
      | (at_builtin; refine wpList_more rfl _ _ rfl _ g3 (L0 ++ L1 ++ L2 ++ D) rfl HS5.out a5 4 c5 (octs (X : Int) 4) rfl HO5.out.2.2.2.2.1 HO5.out.1 HO5.out.2.2.2.2.2 (by rw [HL3.out.1]; omega) ?_; intro v6 x6 g6 sl6 hg6 hw6; obtain ⟨a6, c6, hv6, -⟩ := sl6.shape; have hln7 : (vals (L0 ++ L1 ++ L2 ++ D ++ octs (X : Int) 4)).length = 13 + n := (by rw [vals_len, List.length_append, HL3.out.1]; simp [octs]; omega); rw [hln7] at hv6; clear hln7; have HR : Hid (WrT w (13 + n) (sealM (L0 ++ L1 ++ L2 ++ D)) (.returned (.tuple #[v6, .int .i64 0])) x6) := (by
          have hln : (L0 ++ L1 ++ L2 ++ D ++ octs (X : Int) 4).length = 13 + n := by rw [List.length_append, HL3.out.1]; simp [octs]; omega
          have hs : sealM (L0 ++ L1 ++ L2 ++ D) = L0 ++ L1 ++ L2 ++ D ++ octs (X : Int) 4 := by unfold sealM; rw [HX.out]
          rw [hs]
          refine ⟨a6, c6, g6, by rw [hv6], by rw [← hv6]; exact sl6, hln, HL3.out.2.append (octs_byte _ _), ?_, HB5.out.grown hw6 HB5.out.size HF3.out⟩
          intro k hk
          rcases hg6 with rfl | ⟨q, rfl, hq⟩
          · exact HF3.out k hk
          · cases hk; exact Nat.le_trans HB5.out.size hq); subst hv6; clear sl6 hg6 hw6))
  go_ret2
  exact HR.out
end Go.Proofs.Ytinmkhdangknbaa
