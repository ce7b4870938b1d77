/- The document's Write. -/
import Derived.Test.YtinmkhdangknbaaTkW
namespace Go.Proofs.Ytinmkhdangknbaa
open Go.RowKit
theorem Sl.one (w : World) (x : Int) : Sl (w.alloc (.cells #[.int .u8 x] 5)) 5 (.slice (some ⟨w.heap.size, 0, none⟩) 1 1) (some w.heap.size) (vals [x]) :=
  .inr ⟨w.heap.size, 0, 1, #[.int .u8 x], rfl, rfl, heap_alloc_newT _ _, by simp, by simp [vals], by unfold maxLen; omega, fun i hi => by
    obtain rfl : i = 0 := by simp [vals] at hi; omega
    rfl⟩
theorem below_drewQ (w : World) : Below w.heap.size w w.drew := ⟨rfl, rfl, rfl, Nat.le_refl _, fun _ _ => rfl⟩
theorem below_allocQ (w : World) (o : Obj) : Below w.heap.size w (w.alloc o) := (Below.refl _ _).alloc (Nat.le_refl _) _
/-- A row that grows, beside a token's box. -/
structure WsI (w : World) (c : Array Value) (v : Value) (g : Option Nat) (l : List Int) (wr : World) : Prop where
  sl : Sl wr 5 v g (vals l)
  qt : QT w c wr
  fr : ∀ k, g = some k → w.heap.size + 1 ≤ k
theorem WsI.old {w wr w' : World} {c : Array Value} {v : Value} {g : Option Nat} {l : List Int} (h : WsI w c v g l wr) (b : Below wr.heap.size wr w') : WsI w c v g l w' := ⟨h.sl.same fun k hk => b.block k (h.sl.lt hk), h.qt.old b, h.fr⟩
theorem WsI.more {w wr w' : World} {c : Array Value} {v v' : Value} {g g' : Option Nat} {l l' : List Int} (h : WsI w c v g l wr) (s : Sl w' 5 v' g' (vals l')) (hg : g' = g ∨ ∃ k, g' = some k ∧ wr.heap.size ≤ k) (gr : wr.grownBy w' g) : WsI w c v' g' l' w' := by
  refine ⟨s, ⟨h.qt.1.grown gr h.qt.1.size (fun k hk => by have := h.fr k hk; omega), (gr.block _ (lt_of_block h.qt.2) (fun e => by have := h.fr _ e.symm; omega)).trans h.qt.2⟩, ?_⟩
  intro k hk
  rcases hg with rfl | ⟨q, rfl, hq⟩
  · exact h.fr k hk
  · cases hk; have := lt_of_block h.qt.2; omega
theorem rwrite_no (f s : Int) (a : Option Addr) (n c : Nat) (w : World) (hm : mayT f n = false) : Calls Try.prog 11 #[.agg #[.int .i64 f, .int .u32 s, .slice a n c]] w fun e w' => e = .returned (.tuple #[.slice none 0 0, .int .i64 1]) ∧ Below w.heap.size w w' := by
  have HQ : Hid (QT w #[.int .i64 f, .int .u32 s, .slice a n c] _) := QT.box w #[.int .i64 f, .int .u32 s, .slice a n c]
  have HM : Hid (∀ u, Calls Try.prog 31 #[.agg #[.int .i64 f, .int .u32 s, .slice a n c]] u fun e w' => e = .returned (.bool false) ∧ Below u.heap.size u w') := fun u => by have := rmay_any f s a n c u; rwa [hm] at this
  clear hm
  go_enter Try.func11, Try.ntmps11
  obtain ⟨d0, d1, d2⟩ := three_cells HQ.out.2
  go_wp2_with fail
  refine Calls.mono (HM.out _) ?_
  rintro e w1 ⟨rfl, b1⟩
  have HB : Hid (Below w.heap.size w w1) := (HQ.out.old b1).1
  clear b1
  go_wp2
  go_ret2
  exact ⟨rfl, HB.out⟩
set_option maxHeartbeats 6400000 in
theorem rwrite_yes (f s : Int) (a : Option Addr) (n c : Nat) (D : List Int) (w : World) (hm : mayT f n = true) (hd : BOk w a n c D) (hs : 0 ≤ s ∧ s < 4294967296) (hn : n ≤ 4000) : Calls Try.prog 11 #[.agg #[.int .i64 f, .int .u32 s, .slice a n c]] w fun e w' => WrT w (13 + n) (sealM (txT f s D)) e w' := by
  have HQ : Hid (QT w #[.int .i64 f, .int .u32 s, .slice a n c] _) := QT.box w #[.int .i64 f, .int .u32 s, .slice a n c]
  have HM : Hid (∀ u, Calls Try.prog 31 #[.agg #[.int .i64 f, .int .u32 s, .slice a n c]] u fun e w' => e = .returned (.bool true) ∧ Below u.heap.size u w') := fun u => by have := rmay_any f s a n c u; rwa [hm] at this
  have HD : Hid (BOk w a n c D) := hd
  obtain ⟨m0, m1, m2⟩ := mayT_iff.1 hm
  have P1 : Hid (∀ u, Calls Try.prog 32 #[.int .i64 4, .int .i64 s] u fun e w' => BP u 4 (bg 4 s) e w') := fun u => rputb_bp 4 (by omega) s u
  have P2 : Hid (∀ u, Calls Try.prog 32 #[.int .i64 4, .int .i64 (n : Int)] u fun e w' => BP u 4 (bg 4 (n : Int)) e w') := fun u => rputb_bp 4 (by omega) n u
  have hL : txT f s D = [f] ++ bg 4 s ++ bg 4 (n : Int) ++ D := by
    have e : bg 1 f = [f] := by unfold bg; simp [octs, oct, List.range_succ]; omega
    unfold txT; rw [hd.1, e]
  have HL1 : Hid ((bg 4 s).length = 4 ∧ Bytes (bg 4 s)) := ⟨bg_len 4 s, bg_byte 4 s⟩
  have HL2 : Hid ((bg 4 (n : Int)).length = 4 ∧ Bytes (bg 4 (n : Int))) := ⟨bg_len 4 _, bg_byte 4 _⟩
  have HFb : Hid (Bytes [f]) := fun z hz => by simp at hz; omega
  rw [hL]
  obtain ⟨L1, e1⟩ : ∃ L, bg 4 s = L := ⟨_, rfl⟩
  obtain ⟨L2, e2⟩ : ∃ L, bg 4 (n : Int) = L := ⟨_, rfl⟩
  rw [e1] at P1 HL1 ⊢
  rw [e2] at P2 HL2 ⊢
  clear hL e1 e2
  have hsw : IntKind.i64.wrap s = s := by rw [IntKind.wrap_i64]; omega
  have hfw : IntKind.u8.wrap f = f := by rw [IntKind.wrap_u8]; omega
  clear hs hm hd m0 m1
  go_enter Try.func11, Try.ntmps11
  obtain ⟨d0, d1, d2⟩ := three_cells HQ.out.2
  go_wp2_with fail
  refine Calls.mono (HM.out _) ?_
  rintro e wm ⟨rfl, bm⟩
  have HQm : Hid (QT w #[.int .i64 f, .int .u32 s, .slice a n c] wm) := HQ.out.old bm
  clear bm d0 d1 d2 HQ
  go_upto_region 3 with fail
  have HQd : Hid (QT w #[.int .i64 f, .int .u32 s, .slice a n c] wm.drew) := HQm.out.old (below_drewQ wm)
  have HQa : Hid (WsI w #[.int .i64 f, .int .u32 s, .slice a n c] (.slice (some ⟨wm.heap.size, 0, none⟩) 1 1) (some wm.heap.size) [f] (wm.drew.alloc (.cells #[.int .u8 f] 5))) := ⟨Sl.one wm.drew f, HQd.out.old (below_allocQ _ _), fun k hk => by cases hk; exact lt_of_block HQm.out.2⟩
  have HN3 : Hid ((vals ([f] ++ L1)).length = 5) := by show _ = _; rw [vals_len, List.length_append, HL1.out.1]; rfl
  obtain ⟨d0, d1, d2⟩ := three_cells HQm.out.2
  obtain ⟨r0, r1, r2⟩ := three_cells HQd.out.2
  obtain ⟨s0, s1, s2⟩ := three_cells HQa.out.qt.2
  go_region_held3 (fun u => u.cell? ⟨w.heap.size, 0, none⟩ = some (.int .i64 f) ∧ u.cell? ⟨w.heap.size, 1, none⟩ = some (.int .u32 s))
    (first | (with_reducible exact ⟨by with_reducible assumption, by with_reducible assumption⟩) | go_keep) (first
      | (go_at_call 32; refine Calls.mono (P1.out (wm.drew.alloc (.cells #[.int .u8 f] 5))) ?_; rintro e x1 ⟨a1, c1, rfl, ok1, bl1⟩; have HO1 : Hid (BOk x1 a1 4 c1 L1) := ok1; have HW1 : Hid (WsI w #[.int .i64 f, .int .u32 s, .slice a n c] (.slice (some ⟨wm.heap.size, 0, none⟩) 1 1) (some wm.heap.size) [f] x1) := HQa.out.old bl1; obtain ⟨t0, t1, t2⟩ := three_cells HW1.out.qt.2; clear ok1 bl1)
      | (go_at_call 32; refine Calls.mono (P1.out wm.drew) ?_; rintro e x1 ⟨a1, c1, rfl, ok1, bl1⟩; have HO1 : Hid (BOk (x1.alloc (.cells #[.int .u8 f] 5)) a1 4 c1 L1) := ok1.old (below_allocQ _ _); have HQ1 : Hid (QT w #[.int .i64 f, .int .u32 s, .slice a n c] x1) := HQd.out.old bl1; have HW1 : Hid (WsI w #[.int .i64 f, .int .u32 s, .slice a n c] (.slice (some ⟨x1.heap.size, 0, none⟩) 1 1) (some x1.heap.size) [f] (x1.alloc (.cells #[.int .u8 f] 5))) := ⟨Sl.one x1 f, HQ1.out.old (below_allocQ _ _), fun k hk => by cases hk; exact lt_of_block HQ1.out.2⟩; obtain ⟨t0, t1, t2⟩ := three_cells HQ1.out.2; obtain ⟨t3, t4, t5⟩ := three_cells HW1.out.qt.2; clear ok1 bl1)
      | (refine step_more rfl _ _ rfl (.slice (some ⟨wm.heap.size, 0, none⟩) 1 1) (some wm.heap.size) [f] rfl HW1.out.sl a1 4 c1 L1 rfl HO1.out.2.2.2.2.1 HO1.out.1 HO1.out.2.2.2.2.2 (by simp) ?_; intro v3 x3 g3 sl3 hg3 hw3; obtain ⟨a3, c3, hv3, -⟩ := sl3.shape; rw [HN3.out] at hv3; subst hv3; have HW3 : Hid (WsI w #[.int .i64 f, .int .u32 s, .slice a n c] (.slice a3 5 c3) g3 ([f] ++ L1) x3) := HW1.out.more sl3 hg3 hw3; obtain ⟨z0, z1, z2⟩ := three_cells HW3.out.qt.2; clear sl3 hg3 hw3)
      | (refine step_more rfl _ _ rfl (.slice (some ⟨x1.heap.size, 0, none⟩) 1 1) (some x1.heap.size) [f] rfl HW1.out.sl a1 4 c1 L1 rfl HO1.out.2.2.2.2.1 HO1.out.1 HO1.out.2.2.2.2.2 (by simp) ?_; intro v3 x3 g3 sl3 hg3 hw3; obtain ⟨a3, c3, hv3, -⟩ := sl3.shape; rw [HN3.out] at hv3; subst hv3; have HW3 : Hid (WsI w #[.int .i64 f, .int .u32 s, .slice a n c] (.slice a3 5 c3) g3 ([f] ++ L1) x3) := HW1.out.more sl3 hg3 hw3; obtain ⟨z0, z1, z2⟩ := three_cells HW3.out.qt.2; clear sl3 hg3 hw3)
      )
  ·
    have HW3d : Hid (WsI w #[.int .i64 f, .int .u32 s, .slice a n c] (.slice a3 5 c3) g3 ([f] ++ L1) x3.drew) := HW3.out.old (below_drewQ _)
    obtain ⟨d3, d4, d5⟩ := three_cells HW3d.out.qt.2
    have hn4 : (vals ([f] ++ L1 ++ L2)).length = 9 := by rw [vals_len, List.length_append, List.length_append, HL1.out.1, HL2.out.1]; rfl
    have hn5 : (vals ([f] ++ L1 ++ L2 ++ D)).length = 9 + n := by
      rw [vals_len] at hn4 ⊢
      rw [List.length_append, hn4, HD.out.1]
    have HN4 : Hid ((vals ([f] ++ L1 ++ L2)).length = 9 ∧ (vals ([f] ++ L1 ++ L2 ++ D)).length = 9 + n) := ⟨hn4, hn5⟩
    clear hn4 hn5
    go_upto_region 4 with fail
    clear HQm HQd HQa HN3 P1
    go_region_held3 (fun u => u.cell? ⟨w.heap.size, 2, none⟩ = some (.slice a n c))
      (first | (with_reducible assumption) | go_keep) (first
      | (go_at_call 32; refine Calls.mono (P2.out x3.drew) ?_; rintro e x4 ⟨a4, c4, rfl, ok4, bl4⟩; have HO4 : Hid (BOk x4 a4 4 c4 L2) := ok4; have HW4 : Hid (WsI w #[.int .i64 f, .int .u32 s, .slice a n c] (.slice a3 5 c3) g3 ([f] ++ L1) x4) := HW3d.out.old bl4; obtain ⟨u0, u1, u2⟩ := three_cells HW4.out.qt.2; clear ok4 bl4)
      | (refine step_more rfl _ _ rfl (.slice a3 5 c3) g3 ([f] ++ L1) rfl HW4.out.sl a4 4 c4 L2 rfl HO4.out.2.2.2.2.1 HO4.out.1 HO4.out.2.2.2.2.2 (by rw [List.length_append, HL1.out.1]; simp) ?_; intro v5 x5 g5 sl5 hg5 hw5; obtain ⟨a5, c5, hv5, -⟩ := sl5.shape; rw [HN4.out.1] at hv5; subst hv5; have HW5 : Hid (WsI w #[.int .i64 f, .int .u32 s, .slice a n c] (.slice a5 9 c5) g5 ([f] ++ L1 ++ L2) x5) := HW4.out.more sl5 hg5 hw5; obtain ⟨p0, p1, p2⟩ := three_cells HW5.out.qt.2; clear sl5 hg5 hw5)
      | (refine step_more rfl _ _ rfl (.slice a5 9 c5) g5 ([f] ++ L1 ++ L2) rfl HW5.out.sl a n c D rfl HD.out.2.2.2.2.1 HD.out.1 (HD.out.old HW5.out.qt.1).2.2.2.2.2 (by simp only [List.length_append, HL1.out.1, HL2.out.1, List.length_cons, List.length_nil]; omega) ?_; intro v6 x6 g6 sl6 hg6 hw6; obtain ⟨a6, c6, hv6, -⟩ := sl6.shape; rw [HN4.out.2] at hv6; subst hv6; have HW6 : Hid (WsI w #[.int .i64 f, .int .u32 s, .slice a n c] (.slice a6 (9 + n) c6) g6 ([f] ++ L1 ++ L2 ++ D) x6) := HW5.out.more sl6 hg6 hw6; obtain ⟨q0, q1, q2⟩ := three_cells HW6.out.qt.2; clear sl6 hg6 hw6)
      )
    have HLb : Hid (([f] ++ L1 ++ L2 ++ D).length = 9 + n ∧ Bytes ([f] ++ L1 ++ L2 ++ D)) := ⟨by have := HN4.out.2; rwa [vals_len] at this, ((HFb.out.append HL1.out.2).append HL2.out.2).append HD.out.2.1⟩
    obtain ⟨L, hL⟩ : ∃ L, [f] ++ L1 ++ L2 ++ D = L := ⟨_, rfl⟩
    rw [hL] at HLb HW6
    have HLe : Hid ([f] ++ L1 ++ L2 ++ D = L) := hL
    have HBk : Hid (BOk x6 a6 (9 + n) c6 L) := HW6.out.sl.bok HLb.out.1 HLb.out.2 (by omega)
    obtain ⟨X, hX⟩ : ∃ X, (crcM (BitVec.ofNat 32 0) L).toNat = X := ⟨_, rfl⟩
    have hXlt : X < 4294967296 := by rw [← hX]; exact (crcM (BitVec.ofNat 32 0) L).isLt
    have C1 := rof_any a6 (9 + n) c6 L x6 HLb.out.1 (by omega) HLb.out.2 HBk.out.2.2.2.2.2
    rw [hX] at C1
    have HC1 : Hid _ := C1
    have HX : Hid (sealM L = L ++ octs (X : Int) 4) := (by unfold sealM; rw [hX] : sealM L = L ++ octs (X : Int) 4)
    clear C1 hX hL HN4 HW3 HW3d HW4 HW5 P2 HBk
    go_wp2_with (first
      | (go_at_call 34; refine Calls.mono HC1.out ?_; rintro e x ⟨rfl, hx⟩; have hx2 := hx.symm; clear hx; subst hx2; clear HC1)
      | (go_at_call 33; refine (rputl_bp 4 (by omega) (X : Int) _).mono ?_; rintro e x7 ⟨a7, c7, rfl, ok7, bl7⟩; have HO7 : Hid (BOk x7 a7 4 c7 (octs (X : Int) 4)) := ok7; have HW7 : Hid (WsI w #[.int .i64 f, .int .u32 s, .slice a n c] (.slice a6 (9 + n) c6) g6 L x7) := HW6.out.old bl7; clear ok7 bl7)
      | (at_builtin; refine wpList_more rfl _ _ rfl _ g6 L rfl HW7.out.sl a7 4 c7 (octs (X : Int) 4) rfl HO7.out.2.2.2.2.1 HO7.out.1 HO7.out.2.2.2.2.2 (by rw [HLb.out.1]; omega) ?_; intro v8 x8 g8 sl8 hg8 hw8; obtain ⟨a8, c8, hv8, -⟩ := sl8.shape; have hln8 : (vals (L ++ octs (X : Int) 4)).length = 13 + n := (by rw [vals_len, List.length_append, HLb.out.1, octs_len]; omega); rw [hln8] at hv8; have HR : Hid (WrT w (13 + n) (sealM ([f] ++ L1 ++ L2 ++ D)) (.returned (.tuple #[v8, .int .i64 0])) x8) := (by
          have hI := HW7.out.more sl8 hg8 hw8
          rw [HLe.out, HX.out]
          refine ⟨a8, c8, g8, by rw [hv8], by rw [← hv8]; exact sl8, by rw [← hln8, vals_len], HLb.out.2.append (octs_byte _ _), fun k hk => by have := hI.fr k hk; omega, hI.qt.1⟩); subst hv8; clear sl8 hg8 hw8 hln8))
    go_ret2
    exact HR.out
  ·
    have HW3d : Hid (WsI w #[.int .i64 f, .int .u32 s, .slice a n c] (.slice a3 5 c3) g3 ([f] ++ L1) x3.drew) := HW3.out.old (below_drewQ _)
    obtain ⟨d3, d4, d5⟩ := three_cells HW3d.out.qt.2
    have hn4 : (vals ([f] ++ L1 ++ L2)).length = 9 := by rw [vals_len, List.length_append, List.length_append, HL1.out.1, HL2.out.1]; rfl
    have hn5 : (vals ([f] ++ L1 ++ L2 ++ D)).length = 9 + n := by
      rw [vals_len] at hn4 ⊢
      rw [List.length_append, hn4, HD.out.1]
    have HN4 : Hid ((vals ([f] ++ L1 ++ L2)).length = 9 ∧ (vals ([f] ++ L1 ++ L2 ++ D)).length = 9 + n) := ⟨hn4, hn5⟩
    clear hn4 hn5
    go_upto_region 4 with fail
    clear HQm HQd HQa HN3 P1
    go_region_held3 (fun u => u.cell? ⟨w.heap.size, 2, none⟩ = some (.slice a n c))
      (first | (with_reducible assumption) | go_keep) (first
      | (go_at_call 32; refine Calls.mono (P2.out x3.drew) ?_; rintro e x4 ⟨a4, c4, rfl, ok4, bl4⟩; have HO4 : Hid (BOk x4 a4 4 c4 L2) := ok4; have HW4 : Hid (WsI w #[.int .i64 f, .int .u32 s, .slice a n c] (.slice a3 5 c3) g3 ([f] ++ L1) x4) := HW3d.out.old bl4; obtain ⟨u0, u1, u2⟩ := three_cells HW4.out.qt.2; clear ok4 bl4)
      | (refine step_more rfl _ _ rfl (.slice a3 5 c3) g3 ([f] ++ L1) rfl HW4.out.sl a4 4 c4 L2 rfl HO4.out.2.2.2.2.1 HO4.out.1 HO4.out.2.2.2.2.2 (by rw [List.length_append, HL1.out.1]; simp) ?_; intro v5 x5 g5 sl5 hg5 hw5; obtain ⟨a5, c5, hv5, -⟩ := sl5.shape; rw [HN4.out.1] at hv5; subst hv5; have HW5 : Hid (WsI w #[.int .i64 f, .int .u32 s, .slice a n c] (.slice a5 9 c5) g5 ([f] ++ L1 ++ L2) x5) := HW4.out.more sl5 hg5 hw5; obtain ⟨p0, p1, p2⟩ := three_cells HW5.out.qt.2; clear sl5 hg5 hw5)
      | (refine step_more rfl _ _ rfl (.slice a5 9 c5) g5 ([f] ++ L1 ++ L2) rfl HW5.out.sl a n c D rfl HD.out.2.2.2.2.1 HD.out.1 (HD.out.old HW5.out.qt.1).2.2.2.2.2 (by simp only [List.length_append, HL1.out.1, HL2.out.1, List.length_cons, List.length_nil]; omega) ?_; intro v6 x6 g6 sl6 hg6 hw6; obtain ⟨a6, c6, hv6, -⟩ := sl6.shape; rw [HN4.out.2] at hv6; subst hv6; have HW6 : Hid (WsI w #[.int .i64 f, .int .u32 s, .slice a n c] (.slice a6 (9 + n) c6) g6 ([f] ++ L1 ++ L2 ++ D) x6) := HW5.out.more sl6 hg6 hw6; obtain ⟨q0, q1, q2⟩ := three_cells HW6.out.qt.2; clear sl6 hg6 hw6)
      )
    have HLb : Hid (([f] ++ L1 ++ L2 ++ D).length = 9 + n ∧ Bytes ([f] ++ L1 ++ L2 ++ D)) := ⟨by have := HN4.out.2; rwa [vals_len] at this, ((HFb.out.append HL1.out.2).append HL2.out.2).append HD.out.2.1⟩
    obtain ⟨L, hL⟩ : ∃ L, [f] ++ L1 ++ L2 ++ D = L := ⟨_, rfl⟩
    rw [hL] at HLb HW6
    have HLe : Hid ([f] ++ L1 ++ L2 ++ D = L) := hL
    have HBk : Hid (BOk x6 a6 (9 + n) c6 L) := HW6.out.sl.bok HLb.out.1 HLb.out.2 (by omega)
    obtain ⟨X, hX⟩ : ∃ X, (crcM (BitVec.ofNat 32 0) L).toNat = X := ⟨_, rfl⟩
    have hXlt : X < 4294967296 := by rw [← hX]; exact (crcM (BitVec.ofNat 32 0) L).isLt
    have C1 := rof_any a6 (9 + n) c6 L x6 HLb.out.1 (by omega) HLb.out.2 HBk.out.2.2.2.2.2
    rw [hX] at C1
    have HC1 : Hid _ := C1
    have HX : Hid (sealM L = L ++ octs (X : Int) 4) := (by unfold sealM; rw [hX] : sealM L = L ++ octs (X : Int) 4)
    clear C1 hX hL HN4 HW3 HW3d HW4 HW5 P2 HBk
    go_wp2_with (first
      | (go_at_call 34; refine Calls.mono HC1.out ?_; rintro e x ⟨rfl, hx⟩; have hx2 := hx.symm; clear hx; subst hx2; clear HC1)
      | (go_at_call 33; refine (rputl_bp 4 (by omega) (X : Int) _).mono ?_; rintro e x7 ⟨a7, c7, rfl, ok7, bl7⟩; have HO7 : Hid (BOk x7 a7 4 c7 (octs (X : Int) 4)) := ok7; have HW7 : Hid (WsI w #[.int .i64 f, .int .u32 s, .slice a n c] (.slice a6 (9 + n) c6) g6 L x7) := HW6.out.old bl7; clear ok7 bl7)
      | (at_builtin; refine wpList_more rfl _ _ rfl _ g6 L rfl HW7.out.sl a7 4 c7 (octs (X : Int) 4) rfl HO7.out.2.2.2.2.1 HO7.out.1 HO7.out.2.2.2.2.2 (by rw [HLb.out.1]; omega) ?_; intro v8 x8 g8 sl8 hg8 hw8; obtain ⟨a8, c8, hv8, -⟩ := sl8.shape; have hln8 : (vals (L ++ octs (X : Int) 4)).length = 13 + n := (by rw [vals_len, List.length_append, HLb.out.1, octs_len]; omega); rw [hln8] at hv8; have HR : Hid (WrT w (13 + n) (sealM ([f] ++ L1 ++ L2 ++ D)) (.returned (.tuple #[v8, .int .i64 0])) x8) := (by
          have hI := HW7.out.more sl8 hg8 hw8
          rw [HLe.out, HX.out]
          refine ⟨a8, c8, g8, by rw [hv8], by rw [← hv8]; exact sl8, by rw [← hln8, vals_len], HLb.out.2.append (octs_byte _ _), fun k hk => by have := hI.fr k hk; omega, hI.qt.1⟩); subst hv8; clear sl8 hg8 hw8 hln8))
    go_ret2
    exact HR.out
end Go.Proofs.Ytinmkhdangknbaa
