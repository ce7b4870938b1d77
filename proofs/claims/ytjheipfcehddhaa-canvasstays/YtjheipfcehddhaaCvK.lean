/- A view of what is known: the walk. -/
import Derived.Test.YtjheipfcehddhaaCvJ
namespace Go.Proofs.Ytjheipfcehddhaa
open Go.RowKit
attribute [local go_sem] Oper.semAt_some
theorem VwI.next {w0 : World} {c p k cx rb vb g cp cb : Nat} {W H : Int} {N : Nat} {F : Nat → Col} {M : Nat → Bool} {n : Int} {L : List (Nat × Nat)} {G G' : Nat → Col} {rs : List Nat} {wr : World} {D : Nat} (h : VwI w0 c p k cx rb vb g cp cb W H N F M n L G rs wr) (he : G' = G) (hD : w0.heap.size ≤ D) (hd : wr.heap[D]? = some (.deferred (some []))) (hn : D ∉ rs) : VwI w0 c p k cx rb vb g cp cb W H N F M n L G' (D :: rs) wr := by
  subst he
  refine ⟨h.be, h.cv, h.bx, h.re, h.vw, h.px, h.ct, fun r hr => ?_, List.nodup_cons.2 ⟨hn, h.nd⟩, h.lo, h.cl, h.cm⟩
  rcases List.mem_cons.1 hr with rfl | hr
  · exact ⟨hD, hd⟩
  · exact h.ms r hr
theorem set3_heap {w : World} {r : Nat} {a b c : Value} {t : TypeId} (h : w.heap[r]? = some (.cells #[a, b, c] t (0, 0))) (x y z : Value) : (((w.setCell ⟨r, 0, none⟩ x).setCell ⟨r, 1, none⟩ y).setCell ⟨r, 2, none⟩ z).heap[r]? = some (.cells #[x, y, z] t (0, 0)) := by
  have e0 := heap_setCell_same w r 0 _ _ x h
  have e1 := heap_setCell_same _ r 1 _ _ y e0
  have e2 := heap_setCell_same _ r 2 _ _ z e1
  exact e2
theorem set3_other {w : World} {r j : Nat} (x y z : Value) (hj : j ≠ r) : (((w.setCell ⟨r, 0, none⟩ x).setCell ⟨r, 1, none⟩ y).setCell ⟨r, 2, none⟩ z).heap[j]? = w.heap[j]? := by
  rw [Below.heap_setCell _ _ _ _ hj, Below.heap_setCell _ _ _ _ hj, Below.heap_setCell _ _ _ _ hj]
theorem VwI.finM {w0 : World} {c p k cx rb vb g cp cb : Nat} {W H : Int} {N : Nat} {F : Nat → Col} {M : Nat → Bool} {n : Int} {L : List (Nat × Nat)} {G : Nat → Col} {rs : List Nat} {wr : World} (h : VwI w0 c p k cx rb vb g cp cb W H N F M n L G rs wr) {x y z : Value} : (∀ r ∈ rs, (((wr.setCell ⟨rb, 0, none⟩ x).setCell ⟨rb, 1, none⟩ y).setCell ⟨rb, 2, none⟩ z).heap[r]? = some (.deferred (some []))) ∧ rs.Nodup ∧ rb ∉ rs := by
  have hn : rb ∉ rs := fun q => by have := (h.ms rb q).2; rw [h.re] at this; cases this
  refine ⟨fun r hr => ?_, h.nd, hn⟩
  rw [set3_other _ _ _ (by rintro rfl; exact hn hr)]
  exact (h.ms r hr).2
theorem VwI.fin {w0 : World} {c p k cx vb g cp cb : Nat} {W H : Int} {N : Nat} {F : Nat → Col} {M : Nat → Bool} {n : Int} {L : List (Nat × Nat)} {G G' : Nat → Col} {rs : List Nat} {wr : World} (h : VwI w0 c p k cx (w0.heap.size + 1) vb g cp cb W H N F M n L G rs wr) (he : ∀ q, q < N → G q = G' q) : ImT w0 W H N G' (.returned (.agg #[.int .i64 W, .int .i64 H, .slice (some ⟨g, 0, none⟩) N cp])) (shut (((wr.setCell ⟨w0.heap.size + 1, 0, none⟩ (.int .i64 W)).setCell ⟨w0.heap.size + 1, 1, none⟩ (.int .i64 H)).setCell ⟨w0.heap.size + 1, 2, none⟩ (.slice (some ⟨g, 0, none⟩) N cp)) rs) := by
  obtain ⟨cur, hg, _⟩ := h.px
  have hgr : g ≠ w0.heap.size + 1 := by
    intro e
    have := h.re
    rw [← e, hg] at this
    simp at this
  have hgs : g ∉ rs := fun q => by have := (h.ms g q).2; rw [hg] at this; cases this
  refine ⟨g, cp, rfl, h.cl, h.cm, (h.px.same ?_).congr he, h.lo.1, ?_⟩
  · rw [shut_heap _ _ hgs, set3_other _ _ _ hgr]
  · have hb : Below w0.heap.size w0 (((wr.setCell ⟨w0.heap.size + 1, 0, none⟩ (.int .i64 W)).setCell ⟨w0.heap.size + 1, 1, none⟩ (.int .i64 H)).setCell ⟨w0.heap.size + 1, 2, none⟩ (.slice (some ⟨g, 0, none⟩) N cp)) :=
      ((h.be.setCell (p := ⟨w0.heap.size + 1, 0, none⟩) (by show w0.heap.size ≤ w0.heap.size + 1; omega) _).setCell (p := ⟨w0.heap.size + 1, 1, none⟩) (by show w0.heap.size ≤ w0.heap.size + 1; omega) _).setCell (p := ⟨w0.heap.size + 1, 2, none⟩) (by show w0.heap.size ≤ w0.heap.size + 1; omega) _
    generalize ((wr.setCell ⟨w0.heap.size + 1, 0, none⟩ (.int .i64 W)).setCell ⟨w0.heap.size + 1, 1, none⟩ (.int .i64 H)).setCell ⟨w0.heap.size + 1, 2, none⟩ (.slice (some ⟨g, 0, none⟩) N cp) = w9 at *
    obtain ⟨o1, o2, o3⟩ := shut_os rs w9
    exact ⟨o1.trans hb.os, o2.trans hb.tape, o3.trans hb.output, by rw [shut_size]; exact hb.size, fun j hj => by rw [shut_heap _ _ (fun q => absurd (h.ms j q).1 (by omega))]; exact hb.block j hj⟩
theorem callFnA {f : FuncId} {fn : Func} (hf : Try.prog.funcs[f]? = some fn) (hn : (fn.name == "runtime.NumGoroutine") = false) (hb : fn.body.isNone = false) (args : Array Value) (w : World) : (callFunc f args).run Try.prog w = .ok (.enter f args) w := by
  have h1 : fn.name ≠ "runtime.NumGoroutine" := by simpa using hn
  have h2 : fn.body ≠ none := by intro e; rw [e] at hb; cases hb
  simp [callFunc, hf, h1, h2]
set_option maxHeartbeats 3200000 in
set_option maxRecDepth 20000 in
theorem view_any {w : World} {c p k : Nat} {W H : Int} {N : Nat} {F : Nat → Col} {M : Nat → Bool} {n : Int} (h : Cv w c p k W H N F M n) (b : Bool) : Calls Try.prog 16 #[.pointer (some ⟨c, 0, none⟩), .bool b] w fun e w' => ImT w W H N (vwG W H F M (cuL b)) e w' := by
  have HLT : Hid (c < w.heap.size ∧ p < w.heap.size ∧ k < w.heap.size) := ⟨lt_of_block h.st, h.px.lt, h.kn.lt⟩
  obtain ⟨w1, hw1⟩ : ∃ w1, (w.alloc (.cells #[.pointer (some ⟨c, 0, none⟩)] 24)).alloc (.cells #[.int .i64 0, .int .i64 0, .slice none 0 0] 41) = w1 := ⟨_, rfl⟩
  have HB1 : Hid (Below w.heap.size w w1 ∧ w1.heap[w.heap.size]? = some (.cells #[.pointer (some ⟨c, 0, none⟩)] 24 (0, 0)) ∧ w1.heap[w.heap.size + 1]? = some (.cells #[.int .i64 0, .int .i64 0, .slice none 0 0] 41 (0, 0))) := by
    rw [← hw1]
    refine ⟨((Below.refl _ w).alloc (Nat.le_refl _) _).alloc (by simp) _, ?_, ?_⟩
    · rw [Below.heap_alloc _ _ _ (by simp)]; exact World.alloc_heap_new w _
    · have := World.alloc_heap_new (w.alloc (.cells #[.pointer (some ⟨c, 0, none⟩)] 24)) (.cells #[.int .i64 0, .int .i64 0, .slice none 0 0] 41); rwa [World.size_alloc] at this
  have x0 : w1.cell? ⟨w.heap.size, 0, none⟩ = some (.pointer (some ⟨c, 0, none⟩)) := by simp [World.cell?, HB1.out.2.1]
  have CI := cimage_any (h.old HB1.out.1)
  have HC : Hid (Cv w c p k W H N F M n) := h
  clear h
  refine calls_of_wp_marks Try.func16 rfl ?_
  simp only [Try.ntmps16, List.size_toArray, List.length_cons, List.length_nil, Nat.reduceAdd, Nat.reduceSub, Array.replicate_succ, Array.replicate_zero, List.push_toArray, List.append_toArray, List.nil_append, List.cons_append]
  go_wp2_with fail
  go_step3
  go_wp2_with fail
  refine CI.mono ?_
  clear CI
  rintro e w2 ⟨g, cp, rfl, hg1, hg2, hg3, hg4, hg5⟩
  have HI2 : Hid (N ≤ cp ∧ PxM w2 g N F ∧ w1.heap.size ≤ g ∧ Below w1.heap.size w1 w2) := ⟨hg1, hg3, hg4, hg5⟩
  clear hg3 hg4 hg5 x0 hw1
  go_wp2_with fail
  obtain ⟨w3, hw3⟩ : ∃ w3, w2.alloc (.cells #[.int .i64 W, .int .i64 H, .slice (some ⟨g, 0, none⟩) N cp] 41) = w3 := ⟨_, rfl⟩
  rw [hw3]
  have HB3 : Hid (Below w2.heap.size w2 w3 ∧ w3.heap[w2.heap.size]? = some (.cells #[.int .i64 W, .int .i64 H, .slice (some ⟨g, 0, none⟩) N cp] 41 (0, 0))) := by rw [← hw3]; exact ⟨below_new _ _, World.alloc_heap_new w2 _⟩
  clear hw3
  refine (cuts_any b w3).mono ?_
  rintro e w4 ⟨rfl, hw4⟩
  have HL : Hid ((∀ i, (cuX (cuL b) i).1 ≤ 3 ∧ (cuX (cuL b) i).2 ≤ 3) ∧ (cuL b).length ≤ 7) := ⟨cuL_le b, by cases b <;> decide⟩
  obtain ⟨L, hLb⟩ : ∃ L, cuL b = L := ⟨_, rfl⟩
  have HLb : Hid (cuL b = L) := hLb
  rw [hLb] at hw4 HL ⊢
  clear hLb
  have HV4 : Hid (VwI w c p k w.heap.size (w.heap.size + 1) w2.heap.size g cp w3.heap.size W H N F M n L F [] w4) := by
    have b4 : Below w3.heap.size w3 w4 := by rw [hw4]; exact below_new _ _
    have c4 : w4.heap[w3.heap.size]? = some (.cells (cuA L) 85 (0, 0)) := by rw [hw4]; exact World.alloc_heap_new w3 _
    obtain ⟨i1, i2, i3, i4⟩ := HI2.out
    have b24 : Below w2.heap.size w2 w4 := HB3.out.1.trans (b4.mono HB3.out.1.size)
    have b14 : Below w1.heap.size w1 w4 := i4.trans (b24.mono i4.size)
    have b04 : Below w.heap.size w w4 := HB1.out.1.trans (b14.mono HB1.out.1.size)
    have hs := HB1.out.1.size
    exact ⟨b04, HC.out.old b04, (b14.block _ (lt_of_block HB1.out.2.1)).trans HB1.out.2.1, (b14.block _ (lt_of_block HB1.out.2.2)).trans HB1.out.2.2, (b4.block _ (lt_of_block HB3.out.2)).trans HB3.out.2, i2.same (b24.block _ i2.lt), c4, fun r hr => absurd hr (by simp), List.nodup_nil, ⟨by omega, HLT.out.2.1, HLT.out.1, HLT.out.2.2⟩, i1, hg2⟩
  clear hw4 HB3 HI2 HB1 HC hg1 hg2
  generalize w3.heap.size = cb at *
  generalize w2.heap.size = vb at *
  have hN := HV4.out.cv.sz.m
  have v2 : w4.cell? ⟨vb, 2, none⟩ = some (.slice (some ⟨g, 0, none⟩) N cp) := by simp [World.cell?, HV4.out.vw]
  go_wp2_with fail
  go_step3
  go_wp2_with fail
  refine wp_loop (fun a wr => ∃ (i : Nat) (rs : List Nat) (u7 u20 u21 u22 u23 u24 u25 u26 u27 u28 u29 u30 u31 u47 : Value), i ≤ N ∧ a = { tmps := #[.pointer (some ⟨c, 0, none⟩), .bool b, .pointer (some ⟨w.heap.size, 0, none⟩), undef, .pointer (some ⟨w.heap.size + 1, 0, none⟩), .pointer (some ⟨vb, 0, none⟩), .slice (some ⟨cb, 0, none⟩) L.length L.length, u7, undef, undef, undef, undef, .pointer (some ⟨c, 0, none⟩), .agg #[.int .i64 W, .int .i64 H, .slice (some ⟨g, 0, none⟩) N cp], .bool b, .slice (some ⟨cb, 0, none⟩) L.length L.length, .pointer (some ⟨vb, 2, none⟩), .slice (some ⟨g, 0, none⟩) N cp, .int .i64 N, .int .i64 (i : Int), u20, u21, u22, u23, u24, u25, u26, u27, u28, u29, u30, u31, undef, undef, undef, undef, undef, undef, undef, undef, undef, undef, undef, undef, undef, undef, undef, u47, undef], defers := marks rs } ∧ Hid (VwI w c p k w.heap.size (w.heap.size + 1) vb g cp cb W H N F M n L (vwS (vwG W H F M L) F i) rs wr)) (fun a _ => N - (intOf (a.tmps.getD 19 undef)).toNat) ?start ?round
  case start =>
    refine ⟨0, [], undef, undef, undef, undef, undef, undef, undef, undef, undef, undef, undef, undef, undef, undef, Nat.zero_le _, rfl, ?_⟩
    have e : vwS (vwG W H F M L) F 0 = F := by funext q; unfold vwS; rw [if_neg (by omega)]
    rw [e]
    exact HV4
  case round =>
    clear HV4 v2
    rintro a wr ⟨i, rs, u7, u20, u21, u22, u23, u24, u25, u26, u27, u28, u29, u30, u31, u47, hi, rfl, HV⟩
    by_cases hlt : i < N
    · have HBa : Hid (Below wr.heap.size wr (wr.alloc (.cells #[.int .i64 (i : Int)] 3)) ∧ (wr.alloc (.cells #[.int .i64 (i : Int)] 3)).heap[wr.heap.size]? = some (.cells #[.int .i64 (i : Int)] 3 (0, 0))) := ⟨below_new _ _, World.alloc_heap_new wr _⟩
      go_upto_region 6 with fail
      generalize wr.alloc (.cells #[.int .i64 (i : Int)] 3) = wa at *
      have HVa : Hid (VwI w c p k w.heap.size (w.heap.size + 1) vb g cp cb W H N F M n L (vwS (vwG W H F M L) F i) rs wa) := HV.out.old HBa.out.1
      have y0 : wa.cell? ⟨wr.heap.size, 0, none⟩ = some (.int .i64 (i : Int)) := by simp [World.cell?, HBa.out.2]
      have y1 : wa.cell? ⟨vb, 0, none⟩ = some (.int .i64 W) := by simp [World.cell?, HVa.out.vw]
      have hW0 : ¬ W = 0 := by have := HVa.out.cv.sz.w1; omega
      have hWp := HVa.out.cv.sz.w1
      refine wp_region_still_tail 9 (by kernel_rfl) (by kernel_rfl) ?_
      simp only [List.take_succ_cons, List.take_zero, List.drop_succ_cons, List.drop_zero]
      rw [show ({ wa with drawn := wa.drawn + 1 } : World) = wa.drew from rfl]
      obtain ⟨X, hX⟩ : ∃ X, (i : Int) % W = X := ⟨_, rfl⟩
      obtain ⟨Y, hY⟩ : ∃ Y, (i : Int) / W = Y := ⟨_, rfl⟩
      have HXY : Hid ((i : Int) % W = X ∧ (i : Int) / W = Y) := ⟨hX, hY⟩
      have hX0 : 0 ≤ X ∧ X ≤ 65536 := by rw [← hX]; exact ⟨Int.emod_nonneg _ hW0, by have := Int.emod_lt_of_pos (i : Int) (show 0 < W by omega); have := HVa.out.cv.sz.w2; omega⟩
      have hY0 : 0 ≤ Y ∧ Y ≤ 65536 := by rw [← hY]; exact ⟨Int.ediv_nonneg (by omega) (by omega), by have := Int.ediv_le_self W (show (0 : Int) ≤ (i : Int) by omega); omega⟩
      have hXt : (i : Int).tmod W = X := by rw [Int.tmod_eq_emod_of_nonneg (by omega)]; exact hX
      have hYt : IntKind.i64.wrap ((i : Int) / W) = Y := by rw [hY, IntKind.wrap_i64]; omega
      clear hX hY
      repeat still_step
      refine wpStill_nil ?_
      go_wp2_with fail
      refine (places_any X Y _ _ _ _).mono ?_
      rintro e w5 ⟨rfl, hw5⟩
      have HB5 : Hid (Bp w5 wa.heap.size X Y cb L ∧ Below wa.heap.size wa w5) := by
        have hb : Below wa.drew.heap.size wa.drew w5 := by rw [hw5]; exact below_bpW ..
        exact ⟨by rw [hw5]; exact Bp.new (w := wa.drew) HVa.out.ct, hb.os, hb.tape, hb.output, hb.size, hb.block⟩
      clear hw5 y0 y1 hXt hYt
      unfold bpF
      rw [show wa.drew.heap.size = wa.heap.size from rfl]
      have HII : Hid (VwI w c p k w.heap.size (w.heap.size + 1) vb g cp cb W H N F M n L (vwS (vwG W H F M L) F i) rs w5 ∧ w5.heap[wr.heap.size]? = some (.cells #[.int .i64 (i : Int)] 3 (0, 0))) := ⟨HVa.out.old HB5.out.2, (HB5.out.2.block _ (lt_of_block HBa.out.2)).trans HBa.out.2⟩
      have HRS : Hid (∀ r ∈ rs, r < w5.heap.size) := fun r hr => lt_of_block (HII.out.1.ms r hr).2
      have HS5 : Hid (w.heap.size ≤ w5.heap.size) := HII.out.1.be.size
      clear HVa HBa
      generalize wa.heap.size = s at *
      generalize wr.heap.size = ib at *
      go_wp2
      refine wp_range_ix (gf := 41) rfl (callFnA Try.func41 (by kernel_rfl) (by kernel_rfl)) (places_iter s cb X Y L HL.out.1 HL.out.2 hX0 hY0) (fun _ => rfl)
        (fun j Wj => VwI w c p k w.heap.size (w.heap.size + 1) vb g cp cb W H N F M n L (vwS (vwG W H F M L) F i) rs Wj ∧ Bp Wj s X Y cb L ∧ Wj.heap[ib]? = some (.cells #[.int .i64 (i : Int)] 3 (0, 0)) ∧ ∀ q, q < j → atB W H M (lowN (cuX L q).1 X, lowN (cuX L q).2 Y) = false)
        (fun cd Wj => cd = .exit 1 ∧ VwI w c p k w.heap.size (w.heap.size + 1) vb g cp cb W H N F M n L (vwS (vwG W H F M L) F (i + 1)) rs Wj)
        (fun j Wa Wb h hg => ⟨h.1.ig hg (by have := HS5.out; omega) HS5.out ⟨fun q => absurd (HRS.out _ q) (by omega), fun q => absurd (HRS.out _ q) (by omega)⟩, h.2.1.same (fun _ _ _ _ hk _ => hg.cells hk), hg.cells h.2.2.1, h.2.2.2⟩)
        (fun cd Wa Wb h hg => ⟨h.1, h.2.ig hg (by have := HS5.out; omega) HS5.out ⟨fun q => absurd (HRS.out _ q) (by omega), fun q => absurd (HRS.out _ q) (by omega)⟩⟩)
        (fun j Wa h => h.2.1) ⟨HII.out.1, HB5.out.1, HII.out.2, fun q hq => absurd hq (by omega)⟩ ?body ?done ?stop
      case body =>
        rintro j Wa hj ⟨hI1, hI2, hI3, hI4⟩ ⟨lr, hlp⟩ ⟨dr, hdf⟩
        unfold plE
        simp only [List.zip_toArray, List.zip_cons_cons, List.zip_nil_right, List.foldl_toArray, List.foldl_cons, List.foldl_nil, List.setIfInBounds_toArray, List.set_cons_succ, List.set_cons_zero]
        have HIa : Hid (VwI w c p k w.heap.size (w.heap.size + 1) vb g cp cb W H N F M n L (vwS (vwG W H F M L) F i) rs Wa ∧ Bp Wa s X Y cb L ∧ Wa.heap[ib]? = some (.cells #[.int .i64 (i : Int)] 3 (0, 0)) ∧ ∀ q, q < j → atB W H M (lowN (cuX L q).1 X, lowN (cuX L q).2 Y) = false) := ⟨hI1, hI2, hI3, hI4⟩
        clear hI1 hI2 hI3 hI4 HII HB5
        obtain ⟨qx, hqx⟩ : ∃ qx, lowN (cuX L j).1 X = qx := ⟨_, rfl⟩
        obtain ⟨qy, hqy⟩ : ∃ qy, lowN (cuX L j).2 Y = qy := ⟨_, rfl⟩
        have HQ : Hid (lowN (cuX L j).1 X = qx ∧ lowN (cuX L j).2 Y = qy) := ⟨hqx, hqy⟩
        rw [hqx, hqy]
        clear hqx hqy
        gi_wp2
        refine ⟨trivial, trivial, ?_⟩
        intro o hig ho hdf ho2
        obtain ⟨lo, rfl⟩ := ho2
        obtain ⟨do2, hdf2⟩ := hdf
        have HC : Hid (VwI w c p k w.heap.size (w.heap.size + 1) vb g cp cb W H N F M n L (vwS (vwG W H F M L) F i) rs (Wa.putObj (w5.heap.size + 1) (.loop lo)) ∧ Bp (Wa.putObj (w5.heap.size + 1) (.loop lo)) s X Y cb L ∧ (Wa.putObj (w5.heap.size + 1) (.loop lo)).heap[ib]? = some (.cells #[.int .i64 (i : Int)] 3 (0, 0)) ∧ (Wa.putObj (w5.heap.size + 1) (.loop lo)).heap[w5.heap.size + 1]? = some (.loop lo) ∧ (Wa.putObj (w5.heap.size + 1) (.loop lo)).heap[w5.heap.size]? = some (.deferred do2)) :=
          ⟨HIa.out.1.ig hig (by have := HS5.out; omega) HS5.out ⟨fun q => absurd (HRS.out _ q) (by omega), fun q => absurd (HRS.out _ q) (by omega)⟩, HIa.out.2.1.same (fun _ _ _ _ hk _ => hig.cells hk), hig.cells HIa.out.2.2.1, ho, hdf2⟩
        have HNo : Hid (∀ q, q < j → atB W H M (lowN (cuX L q).1 X, lowN (cuX L q).2 Y) = false) := HIa.out.2.2.2
        clear hig ho hdf2 HIa hlp hdf
        generalize Wa.putObj (w5.heap.size + 1) (.loop lo) = Wc at *
        have z0 : Wc.cell? ⟨w.heap.size, 0, none⟩ = some (.pointer (some ⟨c, 0, none⟩)) := by simp [World.cell?, HC.out.1.bx]
        have CA := at_any HC.out.1.cv qx qy
        gi_wp2_with fail
        refine ⟨trivial, CallsIn.inRound _ (callsIn_wide.2 (Calls.mono CA ?_))⟩
        clear CA z0
        rintro e w6 ⟨rfl, hb6⟩
        unfold colV
        obtain ⟨ok, hok⟩ : ∃ ok, atB W H M (qx, qy) = ok := ⟨_, rfl⟩
        have HOK : Hid (atB W H M (qx, qy) = ok) := hok
        obtain ⟨⟨c1, c2, c3, c4⟩, hcl⟩ : ∃ cl : Col, atV W H F M (qx, qy) = cl := ⟨_, rfl⟩
        have HCL : Hid (atV W H F M (qx, qy) = (c1, c2, c3, c4)) := hcl
        rw [hok, hcl]
        clear hok hcl
        simp only
        obtain ⟨w7, hw7⟩ : ∃ w7, w6.alloc (.cells #[.int .u16 c1, .int .u16 c2, .int .u16 c3, .int .u16 c4] 49) = w7 := ⟨_, rfl⟩
        have hb7 : Below Wc.heap.size Wc w7 := by rw [← hw7]; exact hb6.trans ((below_new w6 _).mono hb6.size)
        have hn7 : w7.heap[w6.heap.size]? = some (.cells #[.int .u16 c1, .int .u16 c2, .int .u16 c3, .int .u16 c4] 49 (0, 0)) := by rw [← hw7]; exact World.alloc_heap_new w6 _
        have H7 : Hid (VwI w c p k w.heap.size (w.heap.size + 1) vb g cp cb W H N F M n L (vwS (vwG W H F M L) F i) rs w7 ∧ Bp w7 s X Y cb L ∧ w7.heap[ib]? = some (.cells #[.int .i64 (i : Int)] 3 (0, 0)) ∧ w7.heap[w5.heap.size + 1]? = Wc.heap[w5.heap.size + 1]? ∧ w7.heap[w5.heap.size]? = Wc.heap[w5.heap.size]?) :=
          ⟨HC.out.1.old hb7, HC.out.2.1.old hb7, (hb7.block _ (lt_of_block HC.out.2.2.1)).trans HC.out.2.2.1, hb7.block _ (lt_of_block HC.out.2.2.2.1), hb7.block _ (lt_of_block HC.out.2.2.2.2)⟩
        obtain ⟨n0, n1, n2, n3, -⟩ := four_cells hn7
        have y2 : w7.cell? ⟨vb, 2, none⟩ = some (.slice (some ⟨g, 0, none⟩) N cp) := by simp [World.cell?, H7.out.1.vw]
        have yi : w7.cell? ⟨ib, 0, none⟩ = some (.int .i64 (i : Int)) := by simp [World.cell?, H7.out.2.2.1]
        obtain ⟨p0, p1, p2, p3⟩ := H7.out.1.px.cells hlt
        have f0 := H7.out.1.px.frozen (i * 4)
        have f1 := H7.out.1.px.frozen (i * 4 + 1)
        have f2 := H7.out.1.px.frozen (i * 4 + 2)
        have f3 := H7.out.1.px.frozen (i * 4 + 3)
        generalize vwS (vwG W H F M L) F i i = pf at *
        obtain ⟨pf1, pf2, pf3, pf4⟩ := pf
        simp only at p0 p1 p2 p3
        clear hb7 hn7 hb6
        cases ok with
        | true =>
          have HE : Hid ((setPx w7 g i (c1, c2, c3, c4)).heap[w5.heap.size + 1]? = Wc.heap[w5.heap.size + 1]? ∧ (setPx w7 g i (c1, c2, c3, c4)).heap[w5.heap.size]? = Wc.heap[w5.heap.size]? ∧ VwI w c p k w.heap.size (w.heap.size + 1) vb g cp cb W H N F M n L (vwS (vwG W H F M L) F (i + 1)) rs (setPx w7 g i (c1, c2, c3, c4))) := by
            obtain ⟨h1, h2, h3, h4, h5⟩ := H7.out
            obtain ⟨cur, hg, _⟩ := h1.px
            have l1 : w5.heap.size + 1 ≠ g := fun e => by rw [e, hg] at h4; rw [← e, HC.out.2.2.2.1] at h4; simp at h4
            have l2 : w5.heap.size ≠ g := fun e => by rw [e, hg] at h5; rw [← e, HC.out.2.2.2.2] at h5; simp at h5
            refine ⟨(heap_setPx w7 g i _ l1).trans h4, (heap_setPx w7 g i _ l2).trans h5, ?_⟩
            have hs := h1.set hlt (c1, c2, c3, c4)
            have e : upd (vwS (vwG W H F M L) F i) i (c1, c2, c3, c4) = vwS (vwG W H F M L) F (i + 1) := by
              have eg : vwG W H F M L i = (c1, c2, c3, c4) := by
                unfold vwG
                rw [HXY.out.1, HXY.out.2, vwC_some L j hj HNo.out (by rw [HQ.out.1, HQ.out.2]; exact HOK.out), HQ.out.1, HQ.out.2, ← HCL.out]
                unfold atV
                rw [HOK.out]; rfl
              funext q
              unfold upd vwS
              by_cases h1 : q = i
              · subst h1; rw [if_pos rfl, if_pos (by omega), eg]
              · rw [if_neg h1]
                by_cases h2 : q < i
                · rw [if_pos h2, if_pos (by omega)]
                · rw [if_neg h2, if_neg (by omega)]
            rw [e] at hs
            exact hs
          clear H7 HC
          gi_wp2
          exact ⟨HE.out.1, HE.out.2.1, rfl, HE.out.2.2⟩
        | false =>
          have HE : Hid (w7.heap[w5.heap.size + 1]? = Wc.heap[w5.heap.size + 1]? ∧ w7.heap[w5.heap.size]? = Wc.heap[w5.heap.size]? ∧ VwI w c p k w.heap.size (w.heap.size + 1) vb g cp cb W H N F M n L (vwS (vwG W H F M L) F i) rs w7 ∧ Bp w7 s X Y cb L ∧ w7.heap[ib]? = some (.cells #[.int .i64 (i : Int)] 3 (0, 0)) ∧ ∀ q, q < j + 1 → atB W H M (lowN (cuX L q).1 X, lowN (cuX L q).2 Y) = false) := by
            obtain ⟨h1, h2, h3, h4, h5⟩ := H7.out
            refine ⟨h4, h5, h1, h2, h3, fun q hq => ?_⟩
            by_cases hqj : q < j
            · exact HNo.out q hqj
            · obtain rfl : q = j := by omega
              rw [HQ.out.1, HQ.out.2]; exact HOK.out
          clear H7 HC
          gi_wp2
          exact HE.out
      case done =>
        rintro Wa ⟨hI1, hI2, hI3, hI4⟩ hD hlp
        have HN : Hid (VwI w c p k w.heap.size (w.heap.size + 1) vb g cp cb W H N F M n L (vwS (vwG W H F M L) F (i + 1)) (w5.heap.size :: rs) Wa) := by
          refine hI1.next ?_ HS5.out hD (fun q => absurd (HRS.out _ q) (by omega))
          have e : vwG W H F M L i = F i := by unfold vwG; rw [HXY.out.1, HXY.out.2]; exact vwC_none L hI4
          funext q
          unfold vwS
          by_cases h1 : q < i
          · rw [if_pos h1, if_pos (by omega)]
          · by_cases h2 : q = i
            · subst h2; rw [if_neg h1, if_pos (by omega), e]
            · rw [if_neg h1, if_neg (by omega)]
        clear hI1 hI2 hI3 hI4 hD hlp HII HB5
        go_wp2
        refine ⟨⟨i + 1, w5.heap.size :: rs, _, _, _, _, _, _, _, _, _, _, _, _, _, _, by omega, rfl, HN⟩, ?_⟩
        simp [intOf]; omega
      case stop =>
        rintro cd Wa ⟨rfl, hv⟩ hD hlp
        have HN : Hid (VwI w c p k w.heap.size (w.heap.size + 1) vb g cp cb W H N F M n L (vwS (vwG W H F M L) F (i + 1)) (w5.heap.size :: rs) Wa) := hv.next rfl HS5.out hD (fun q => absurd (HRS.out _ q) (by omega))
        clear hv hD hlp HII HB5
        go_wp2
        refine ⟨⟨i + 1, w5.heap.size :: rs, _, _, _, _, _, _, _, _, _, _, _, _, _, _, by omega, rfl, HN⟩, ?_⟩
        simp [intOf]; omega
    · obtain rfl : i = N := by omega
      obtain ⟨y0, y1, y2, -⟩ := three_cells HV.out.vw
      obtain ⟨r0, r1, r2, fz⟩ := three_cells HV.out.re
      have f0 := fz 0
      have f1 := fz 1
      have f2 := fz 2
      have HE : Hid (ImT w W H i (vwG W H F M (cuL b)) (.returned (.agg #[.int .i64 W, .int .i64 H, .slice (some ⟨g, 0, none⟩) i cp])) (shut (((wr.setCell ⟨w.heap.size + 1, 0, none⟩ (.int .i64 W)).setCell ⟨w.heap.size + 1, 1, none⟩ (.int .i64 H)).setCell ⟨w.heap.size + 1, 2, none⟩ (.slice (some ⟨g, 0, none⟩) i cp)) rs)) := by
        rw [HLb.out]
        exact HV.out.fin (fun q hq => by unfold vwS; rw [if_pos hq])
      have HM : Hid ((∀ r ∈ rs, (((wr.setCell ⟨w.heap.size + 1, 0, none⟩ (.int .i64 W)).setCell ⟨w.heap.size + 1, 1, none⟩ (.int .i64 H)).setCell ⟨w.heap.size + 1, 2, none⟩ (.slice (some ⟨g, 0, none⟩) i cp)).heap[r]? = some (.deferred (some []))) ∧ rs.Nodup ∧ w.heap.size + 1 ∉ rs) := HV.out.finM
      have HR : Hid ((((wr.setCell ⟨w.heap.size + 1, 0, none⟩ (.int .i64 W)).setCell ⟨w.heap.size + 1, 1, none⟩ (.int .i64 H)).setCell ⟨w.heap.size + 1, 2, none⟩ (.slice (some ⟨g, 0, none⟩) i cp)).heap[w.heap.size + 1]? = some (.cells #[.int .i64 W, .int .i64 H, .slice (some ⟨g, 0, none⟩) i cp] 41 (0, 0))) := set3_heap HV.out.re _ _ _
      clear fz HV
      go_wp2
      rw [Exit.noGoto_ret]
      generalize ((wr.setCell ⟨w.heap.size + 1, 0, none⟩ (.int .i64 W)).setCell ⟨w.heap.size + 1, 1, none⟩ (.int .i64 H)).setCell ⟨w.heap.size + 1, 2, none⟩ (.slice (some ⟨g, 0, none⟩) i cp) = w9 at *
      refine leaves_marks (by simp) rs w9 HM.out.1 HM.out.2.1 ?_
      obtain ⟨s0, s1, s2, -⟩ := three_cells ((shut_heap rs w9 HM.out.2.2).trans HR.out)
      generalize shut w9 rs = wz at *
      refine ⟨.agg #[.int .i64 W, .int .i64 H, .slice (some ⟨g, 0, none⟩) i cp], ?_, HE.out⟩
      rw [results_cellA rfl]
      go_simp
end Go.Proofs.Ytjheipfcehddhaa
