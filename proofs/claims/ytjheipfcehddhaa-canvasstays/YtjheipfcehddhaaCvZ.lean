/- The law CanvasStays. -/
import Derived.Test.YtjheipfcehddhaaCvV
import Derived.Test.YtjheipfcehddhaaCvY
namespace Go.Proofs.Ytjheipfcehddhaa
open Go.RowKit
theorem PxM.set0 {w : World} {g N : Nat} {F : Nat → Col} (h : PxM w g N F) {k : Nat} (hk : k < N) (r : Int) : PxM (w.setCell ⟨g, k * 4, none⟩ (.int .u16 r)) g N (upd F k (r, (F k).2)) := by
  obtain ⟨cur, hh, hc⟩ := h
  have e0 := heap_setCell_same w g (k * 4) _ _ (.int .u16 r) hh
  refine ⟨_, e0, fun i hi => ?_⟩
  obtain ⟨c0, c1, c2, c3⟩ := hc i hi
  have hz : k * 4 < cur.size := by
    have d := (hc k hk).1
    by_cases hq : k * 4 < cur.size
    · exact hq
    · rw [Array.getElem?_eq_none (by omega)] at d; cases d
  unfold upd
  by_cases hik : i = k
  · subst hik
    simp only [if_true]
    refine ⟨Array.getElem?_setIfInBounds_self_of_lt hz, ?_, ?_, ?_⟩
    · rw [Array.getElem?_setIfInBounds_ne (by omega)]; exact c1
    · rw [Array.getElem?_setIfInBounds_ne (by omega)]; exact c2
    · rw [Array.getElem?_setIfInBounds_ne (by omega)]; exact c3
  · rw [if_neg hik]
    refine ⟨?_, ?_, ?_, ?_⟩
    · rw [Array.getElem?_setIfInBounds_ne (by omega)]; exact c0
    · rw [Array.getElem?_setIfInBounds_ne (by omega)]; exact c1
    · rw [Array.getElem?_setIfInBounds_ne (by omega)]; exact c2
    · rw [Array.getElem?_setIfInBounds_ne (by omega)]; exact c3
theorem PxM.set1 {w : World} {g N : Nat} {F : Nat → Col} (h : PxM w g N F) {k : Nat} (hk : k < N) (r : Int) : PxM (w.setCell ⟨g, k * 4 + 1, none⟩ (.int .u16 r)) g N (upd F k ((F k).1, r, (F k).2.2)) := by
  obtain ⟨cur, hh, hc⟩ := h
  have e0 := heap_setCell_same w g (k * 4 + 1) _ _ (.int .u16 r) hh
  refine ⟨_, e0, fun i hi => ?_⟩
  obtain ⟨c0, c1, c2, c3⟩ := hc i hi
  have hz : k * 4 + 1 < cur.size := by
    have d := (hc k hk).2.1
    by_cases hq : k * 4 + 1 < cur.size
    · exact hq
    · rw [Array.getElem?_eq_none (by omega)] at d; cases d
  unfold upd
  by_cases hik : i = k
  · subst hik
    simp only [if_true]
    refine ⟨?_, Array.getElem?_setIfInBounds_self_of_lt hz, ?_, ?_⟩
    · rw [Array.getElem?_setIfInBounds_ne (by omega)]; exact c0
    · rw [Array.getElem?_setIfInBounds_ne (by omega)]; exact c2
    · rw [Array.getElem?_setIfInBounds_ne (by omega)]; exact c3
  · rw [if_neg hik]
    refine ⟨?_, ?_, ?_, ?_⟩
    · rw [Array.getElem?_setIfInBounds_ne (by omega)]; exact c0
    · rw [Array.getElem?_setIfInBounds_ne (by omega)]; exact c1
    · rw [Array.getElem?_setIfInBounds_ne (by omega)]; exact c2
    · rw [Array.getElem?_setIfInBounds_ne (by omega)]; exact c3
/-- The canvas between two lines. -/
structure Ps (w : World) (c p k : Nat) (W H : Int) (N : Nat) (F : Nat → Col) (M : Nat → Bool) (n : Int) (u : World) : Prop where
  be : Below w.heap.size w u
  cv : Cv u c p k W H N F M n
  iv : Iv N F M n
  lo : w.heap.size ≤ c ∧ w.heap.size ≤ p ∧ w.heap.size ≤ k
theorem Ps.old {w : World} {c p k : Nat} {W H : Int} {N : Nat} {F : Nat → Col} {M : Nat → Bool} {n : Int} {u u' : World} (h : Ps w c p k W H N F M n u) (hb : Below u.heap.size u u') : Ps w c p k W H N F M n u' :=
  ⟨h.be.trans (hb.mono h.be.size), h.cv.old hb, h.iv, h.lo⟩
theorem Ps.lts {w : World} {c p k : Nat} {W H : Int} {N : Nat} {F : Nat → Col} {M : Nat → Bool} {n : Int} {u : World} (h : Ps w c p k W H N F M n u) : c < u.heap.size ∧ p < u.heap.size ∧ k < u.heap.size := ⟨lt_of_block h.cv.st, h.cv.px.lt, h.cv.kn.lt⟩
/-- One new block was written over. -/
theorem Ps.over {w : World} {c p k : Nat} {W H : Int} {N : Nat} {F : Nat → Col} {M : Nat → Bool} {n : Int} {u u' : World} {g B : Nat} (h : Ps w c p k W H N F M n u) (hf : F3 g g g u u') (hB : c < B ∧ p < B ∧ k < B ∧ w.heap.size ≤ B) (hg : B ≤ g) : Ps w c p k W H N F M n u' := by
  obtain ⟨h1, h2, h3⟩ := h.lts
  have q : ∀ j, j < u.heap.size → j < B → u'.heap[j]? = u.heap[j]? := fun j hj hb => hf.block j hj (by omega) (by omega) (by omega)
  exact ⟨F3.below h.be hf (by omega) (by omega) (by omega) h.be.size, h.cv.same (q _ h1 hB.1) (q _ h2 hB.2.1) (q _ h3 hB.2.2.1), h.iv, h.lo⟩
set_option maxHeartbeats 12800000 in
set_option maxRecDepth 100000 in
theorem cstays_walk (A B' : Int) (a : Option Addr) (len cap : Nat) (G : Nat → Ln) (w : World) (hA : (Lit.int .u8 A).wf = true) (hB : (Lit.int .u8 B').wf = true) (hG : LnArg w a len cap G) :
    Calls Try.prog 5 #[.int .u8 A, .int .u8 B', .slice a len cap] w fun e w' => e = .returned (.bool true) ∧ Below w.heap.size w w' := by
  have HG : Hid (LnArg w a len cap G) := hG
  have hA2 : 0 ≤ A ∧ A < 256 := by have := bounds_u8 hA; omega
  have hB2 : 0 ≤ B' ∧ B' < 256 := by have := bounds_u8 hB; omega
  obtain ⟨W, hW, hW1⟩ := u8_side A 30 (by omega)
  obtain ⟨H, hH, hH1⟩ := u8_side B' 30 (by omega)
  have HZ : Hid (Sz (W : Int) (H : Int) (W * H)) := small_sz hW1 hH1
  have CN := fun w => new_yes HZ.out w
  have hN := HZ.out.m
  obtain ⟨N, hNe⟩ : ∃ N, W * H = N := ⟨_, rfl⟩
  rw [hNe] at HZ CN hN
  have HWH : Hid (1 + A % 30 = (W : Int) ∧ 1 + B' % 30 = (H : Int)) := ⟨hW, hH⟩
  clear hNe hG hA hB hW hH
  go_enter Try.func5, Try.ntmps5
  go_wp2_with fail
  refine (cvfixed_any _).mono ?_
  rintro e w1 ⟨rfl, hb1⟩
  have H1 : Hid (Below w.heap.size w w1) := hb1
  clear hb1
  go_upto_region 4 with fail
  rw [HWH.out.1, HWH.out.2]
  clear HWH
  go_wp2_with fail
  refine (CN w1).mono ?_
  clear CN
  rintro e w2 ⟨c, p, k, rfl, hv2, hc, hpp, hk, hb2⟩
  have HP : Hid (Ps w c p k W H N (fun _ => z4) (fun _ => false) 0 w2) := by
    have s1 := H1.out.size
    exact ⟨H1.out.trans (hb2.mono s1), hv2, Iv.new N, by omega, by omega, by omega⟩
  clear hv2 hc hpp hk hb2 H1
  have CF := lfew_any (HG.out.old HP.out.be)
  go_wp2_with fail
  refine CF.mono ?_
  clear CF
  rintro e w4 ⟨b, rfl, hfew, hb4⟩
  cases b with
  | false =>
    have HE : Hid (Below w.heap.size w w4) := HP.out.be.trans (hb4.mono HP.out.be.size)
    clear HP hb4 hfew
    go_wp2
    go_ret
    exact ⟨rfl, HE.out⟩
  | true =>
    have HP4 : Hid (Ps w c p k W H N (fun _ => z4) (fun _ => false) 0 w4) := HP.out.old hb4
    obtain ⟨hl61, hfew⟩ := hfew rfl
    have HFEW : Hid (∀ i, i < len → (G i).S.length ≤ 3000 ∧ (G i).C.length ≤ 3000) := hfew
    clear HP hb4 hfew
    go_wp2
    go_loopw [47] (fun v wr => ∃ i : Nat, i ≤ len ∧ v = .int .i64 i ∧ Hid (∃ F M n, Ps w c p k W H N F M n wr)) (fun v _ => len - (intOf v).toNat)
    case atStart => exact ⟨0, Nat.zero_le _, rfl, _, _, _, HP4.out⟩
    case round =>
      clear HP4
      obtain ⟨i, hi, rfl, HI⟩ := hrel
      obtain ⟨F, M, n, hI0⟩ := HI.out
      clear HI
      have HI : Hid (Ps w c p k W H N F M n wr) := hI0
      clear hI0
      by_cases hlt : i < len
      · obtain ⟨b, off, rfl, hc⟩ := (HG.out.old HI.out.be).2.2 (by omega)
        obtain ⟨c0, c1, c2, hlm, hlb⟩ := hc i hlt
        have HLK : Hid (LnOk (G i) ∧ ((G i).sa = none → (G i).sc = 0) ∧ ((G i).ca = none → (G i).cc = 0) ∧ LnM wr (G i)) := ⟨⟨hlb.sl, by have := HFEW.out i hlt; omega, hlb.cl, by have := HFEW.out i hlt; omega⟩, hlb.sn, hlb.cn, hlm⟩
        clear hlm hlb hc
        obtain ⟨l, hl⟩ : ∃ l, G i = l := ⟨_, rfl⟩
        rw [hl] at c0 c1 c2 HLK
        clear hl
        have HB5 : Hid (Below wr.heap.size wr (wr.alloc (.cells #[.int .i64 l.ps, .slice l.sa l.S.length l.sc, .slice l.ca l.C.length l.cc] 35)) ∧ (wr.alloc (.cells #[.int .i64 l.ps, .slice l.sa l.S.length l.sc, .slice l.ca l.C.length l.cc] 35)).heap[wr.heap.size]? = some (.cells #[.int .i64 l.ps, .slice l.sa l.S.length l.sc, .slice l.ca l.C.length l.cc] 35 (0, 0))) := ⟨below_new _ _, World.alloc_heap_new wr _⟩
        go_upto_region 12 with fail
        generalize wr.alloc (.cells #[.int .i64 l.ps, .slice l.sa l.S.length l.sc, .slice l.ca l.C.length l.cc] 35) = w5 at *
        obtain ⟨lb, hlb⟩ : ∃ lb, wr.heap.size = lb := ⟨_, rfl⟩
        rw [hlb] at HB5 ⊢
        have H5 : Hid (Ps w c p k W H N F M n w5 ∧ w5.heap[lb]? = some (.cells #[.int .i64 l.ps, .slice l.sa l.S.length l.sc, .slice l.ca l.C.length l.cc] 35 (0, 0)) ∧ LnM w5 l) := ⟨HI.out.old (by rw [hlb]; exact HB5.out.1), HB5.out.2, HLK.out.2.2.2.old (by rw [hlb]; exact HB5.out.1)⟩
        have HO5 : Hid (c < lb ∧ p < lb ∧ k < lb ∧ lb < w5.heap.size) := by
          obtain ⟨n1, n2, n3⟩ := HI.out.lts
          exact ⟨by omega, by omega, by omega, lt_of_block HB5.out.2⟩
        have HLK2 : Hid (LnOk l ∧ (l.sa = none → l.sc = 0) ∧ (l.ca = none → l.cc = 0)) := ⟨HLK.out.1, HLK.out.2.1, HLK.out.2.2.1⟩
        clear HB5 HI hlb c0 c1 c2 HLK
        have CI := cimage_any H5.out.1.cv
        go_wp2_with fail
        refine CI.mono ?_
        clear CI
        rintro e w6 ⟨g1, k1, rfl, -, -, q3, q4, q5⟩
        have H6 : Hid (Ps w c p k W H N F M n w6 ∧ w6.heap[lb]? = some (.cells #[.int .i64 l.ps, .slice l.sa l.S.length l.sc, .slice l.ca l.C.length l.cc] 35 (0, 0)) ∧ LnM w6 l ∧ PxM w6 g1 N F) := ⟨H5.out.1.old q5, (q5.block _ (lt_of_block H5.out.2.1)).trans H5.out.2.1, H5.out.2.2.old q5, q3⟩
        have HO6 : Hid (c < lb ∧ p < lb ∧ k < lb ∧ lb < g1 ∧ lb < w6.heap.size) := by
          obtain ⟨n1, n2, n3, n4⟩ := HO5.out
          have := q5.size
          exact ⟨n1, n2, n3, by omega, by omega⟩
        clear q3 q4 q5 H5 HO5
        have CM := cmask_any H6.out.1.cv
        go_wp2_with fail
        refine CM.mono ?_
        clear CM
        rintro e w7 ⟨g2, k2, rfl, -, hk2m, q3, q4, q5⟩
        have H7 : Hid (Ps w c p k W H N F M n w7 ∧ w7.heap[lb]? = some (.cells #[.int .i64 l.ps, .slice l.sa l.S.length l.sc, .slice l.ca l.C.length l.cc] 35 (0, 0)) ∧ LnM w7 l ∧ PxM w7 g1 N F ∧ KnM w7 g2 N M) := ⟨H6.out.1.old q5, (q5.block _ (lt_of_block H6.out.2.1)).trans H6.out.2.1, H6.out.2.2.1.old q5, H6.out.2.2.2.same (q5.block _ H6.out.2.2.2.lt), q3⟩
        have HO : Hid (c < lb ∧ p < lb ∧ k < lb ∧ lb < g1 ∧ lb < g2 ∧ lb < w7.heap.size) := by
          obtain ⟨n1, n2, n3, n4, n5⟩ := HO6.out
          have := q5.size
          exact ⟨n1, n2, n3, n4, by omega, by omega⟩
        clear q3 q4 q5 H6 HO6
        have HB8 : Hid (∀ o, Below w7.heap.size w7 (w7.alloc o) ∧ (w7.alloc o).heap[w7.heap.size]? = some o) := fun o => ⟨below_new _ _, World.alloc_heap_new w7 _⟩
        go_upto_region 13 with fail
        have H8 := HB8.out (.cells #[.int .i64 W, .int .i64 H, .slice (some ⟨g1, 0, none⟩) N k1] 41)
        generalize w7.alloc (.cells #[.int .i64 W, .int .i64 H, .slice (some ⟨g1, 0, none⟩) N k1] 41) = w8 at *
        obtain ⟨ib, hib⟩ : ∃ ib, w7.heap.size = ib := ⟨_, rfl⟩
        rw [hib] at H8 HO ⊢
        have H8d : Hid (Ps w c p k W H N F M n w8.drew ∧ w8.drew.heap[lb]? = some (.cells #[.int .i64 l.ps, .slice l.sa l.S.length l.sc, .slice l.ca l.C.length l.cc] 35 (0, 0)) ∧ LnM w8.drew l ∧ PxM w8.drew g1 N F ∧ KnM w8.drew g2 N M ∧ w8.drew.heap[ib]? = some (.cells #[.int .i64 W, .int .i64 H, .slice (some ⟨g1, 0, none⟩) N k1] 41 (0, 0))) := by
          obtain ⟨x1, x2, x3, x4, x5⟩ := H7.out
          have hb : Below w7.heap.size w7 w8 := by rw [hib]; exact H8.1
          exact ⟨(x1.old hb).old (below_drew _), (hb.block _ (lt_of_block x2)).trans x2, (x3.old hb).old (below_drew _), x4.same (hb.block _ x4.lt), x5.same (hb.block _ x5.lt), H8.2⟩
        clear H8 HB8 H7 hib
        obtain ⟨l0, l1, l2, -⟩ := three_cells H8d.out.2.1
        refine wp_region_any (by kernel_rfl) ?_
        refine own_region (w5 := w8.drew) (l := l) (lb := lb) rfl rfl l1 l2 H8d.out.2.2.1 HLK2.out.1 HLK2.out.2.1 HLK2.out.2.2 ?_
        intro v55 v56 v57 v59 v60 v61 v63 u ob gs ks gc kc hbe hob hgs hgc hks hkc hown hsp hpx
        clear l0 l1 l2
        simp only [Act.put, List.setIfInBounds_toArray, List.set_cons_zero, List.set_cons_succ]
        obtain ⟨B8, hB8⟩ : ∃ B8, w8.drew.heap.size = B8 := ⟨_, rfl⟩
        rw [hB8] at hbe hob hgs hgc
        have HU : Hid ((Ps w c p k W H N F M n u ∧ u.heap[lb]? = some (.cells #[.int .i64 l.ps, .slice l.sa l.S.length l.sc, .slice l.ca l.C.length l.cc] 35 (0, 0)) ∧ PxM u g1 N F ∧ KnM u g2 N M ∧ u.heap[ib]? = some (.cells #[.int .i64 W, .int .i64 H, .slice (some ⟨g1, 0, none⟩) N k1] 41 (0, 0)) ∧ u.heap[ob]? = some (.cells #[.int .i64 0, .slice (some ⟨gs, 0, none⟩) l.S.length ks, .slice (some ⟨gc, 0, none⟩) l.C.length kc] 35 (0, 0)) ∧ SpM u gs l.S ∧ PxM u gc l.C.length (coA l.C)) ∧ c < B8 ∧ p < B8 ∧ k < B8 ∧ w.heap.size ≤ B8 ∧ lb < B8 ∧ g1 < B8 ∧ g2 < B8 ∧ ib < B8) := by
          obtain ⟨x1, x2, x3, x4, x5, x6⟩ := H8d.out
          have hb : Below w8.drew.heap.size w8.drew u := by rw [hB8]; exact hbe
          obtain ⟨n1, n2, n3⟩ := x1.lts
          have n4 := x1.be.size
          have n5 := lt_of_block x2
          have n6 := x4.lt
          have n7 := x5.lt
          have n8 := lt_of_block x6
          exact ⟨⟨x1.old hb, (hb.block _ n5).trans x2, x4.same (hb.block _ n6), x5.same (hb.block _ n7), (hb.block _ n8).trans x6, hown, hsp, hpx⟩, by omega, by omega, by omega, by omega, by omega, by omega, by omega, by omega⟩
        obtain ⟨o0, o1, o2, -⟩ := three_cells hown
        have HNG : Hid (B8 ≤ ob ∧ B8 ≤ gs ∧ B8 ≤ gc) := ⟨hob, hgs, hgc⟩
        have CL : Calls Try.prog 12 #[.pointer (some ⟨c, 0, none⟩), .agg #[.int .i64 0, .slice (some ⟨gs, 0, none⟩) l.S.length ks, .slice (some ⟨gc, 0, none⟩) l.C.length kc]] u fun e w' => e = .returned (.int .i64 (layE W H M l.S l.C.length)) ∧ F3 c p k u w' ∧ Cv w' c p k W H N (layF W H F M l.S l.C) (layM W H M l.S l.C.length) (layN W H M l.S l.C.length n) :=
          lay_any HU.out.1.1.cv ⟨0, some ⟨gs, 0, none⟩, ks, l.S, some ⟨gc, 0, none⟩, kc, l.C⟩ ⟨hks, HLK2.out.1.sm, hkc, HLK2.out.1.cm⟩ (fun w' hf => by
            obtain ⟨⟨x1, x2, x3, x4, x5, x6, x7, x8⟩, m1, m2, m3, m4, m5, m6, m7, m8⟩ := HU.out
            exact ⟨(x7.same (hf.block gs (by obtain ⟨cur, hh, _⟩ := x7; exact lt_of_block hh) (by omega) (by omega) (by omega))).row, (x8.same (hf.block gc x8.lt (by omega) (by omega) (by omega))).row⟩) (HU.out.1.1.iv.bd hN)
        have HIV := HU.out.1.1.iv.lay HU.out.1.1.cv.sz l.S l.C
        have HFF : Hid ((∀ j, M j = true → layF W H F M l.S l.C j = F j) ∧ (layE W H M l.S l.C.length ≠ 0 → layF W H F M l.S l.C = F ∧ layN W H M l.S l.C.length n = n) ∧ (layE W H M l.S l.C.length = 0 → layN W H M l.S l.C.length n = n + l.S.length)) := ⟨fun j hj => lay_stays hj, fun he => ⟨(lay_no (n := n) he).1, (lay_no (F := F) (n := n) he).2.2⟩, fun he => lay_yes he⟩
        have hnN : n = cntM M N := HU.out.1.1.iv.n
        generalize layF W H F M l.S l.C = F' at *
        generalize layM W H M l.S l.C.length = M' at *
        generalize layN W H M l.S l.C.length n = n' at *
        generalize layE W H M l.S l.C.length = E at *
        clear hown hsp hpx hbe hob hgs hgc hB8 H8d
        go_wp2_with fail
        refine CL.mono ?_
        clear CL
        rintro e w9 ⟨rfl, hf9, hv9⟩
        have H9 : Hid ((Ps w c p k W H N F' M' n' w9 ∧ w9.heap[lb]? = some (.cells #[.int .i64 l.ps, .slice l.sa l.S.length l.sc, .slice l.ca l.C.length l.cc] 35 (0, 0)) ∧ PxM w9 g1 N F ∧ KnM w9 g2 N M ∧ w9.heap[ib]? = some (.cells #[.int .i64 W, .int .i64 H, .slice (some ⟨g1, 0, none⟩) N k1] 41 (0, 0)) ∧ w9.heap[ob]? = some (.cells #[.int .i64 0, .slice (some ⟨gs, 0, none⟩) l.S.length ks, .slice (some ⟨gc, 0, none⟩) l.C.length kc] 35 (0, 0)) ∧ PxM w9 gc l.C.length (coA l.C)) ∧ c < B8 ∧ p < B8 ∧ k < B8 ∧ w.heap.size ≤ B8 ∧ lb < B8 ∧ g1 < B8 ∧ g2 < B8 ∧ ib < B8) := by
          obtain ⟨⟨x1, x2, x3, x4, x5, x6, x7, x8⟩, m⟩ := HU.out
          have m' := m
          obtain ⟨m1, m2, m3, m4, m5, m6, m7, m8⟩ := m
          obtain ⟨n1, n2, n3, n4, n5, n6⟩ := HO.out
          obtain ⟨r1, r2, r3⟩ := HNG.out
          have q : ∀ j, j < u.heap.size → lb ≤ j → w9.heap[j]? = u.heap[j]? := fun j hj hlj => hf9.block j hj (by omega) (by omega) (by omega)
          exact ⟨⟨⟨F3.below x1.be hf9 x1.lo.1 x1.lo.2.1 x1.lo.2.2 x1.be.size, hv9, HIV, x1.lo⟩, (q lb (lt_of_block x2) (Nat.le_refl _)).trans x2, x3.same (q g1 x3.lt (by omega)), x4.same (q g2 x4.lt (by omega)), (q ib (lt_of_block x5) (by omega)).trans x5, (q ob (lt_of_block x6) (by omega)).trans x6, x8.same (q gc x8.lt (by omega))⟩, m'⟩
        clear hf9 hv9 HU HIV o0 o1 o2
        obtain ⟨o0, o1, o2, -⟩ := three_cells H9.out.1.2.2.2.2.2.1
        go_wp2
        go_loopw [70] (fun v wq => ∃ t : Nat, t ≤ l.C.length ∧ v = .int .i64 t ∧ Hid (F3 gc gc gc w9 wq ∧ ∃ K, PxM wq gc l.C.length K)) (fun v _ => l.C.length - (intOf v).toNat)
        case atStart => exact ⟨0, Nat.zero_le _, rfl, F3.refl _ _ _ _, _, H9.out.1.2.2.2.2.2.2⟩
        case round =>
          clear o0 o1 o2
          obtain ⟨t, ht, rfl, HK⟩ := hrel
          obtain ⟨hfk, K, hpk⟩ := HK.out
          have hobk : wr.heap[ob]? = some (.cells #[.int .i64 0, .slice (some ⟨gs, 0, none⟩) l.S.length ks, .slice (some ⟨gc, 0, none⟩) l.C.length kc] 35 (0, 0)) := by
            have hx := H9.out.1.2.2.2.2.2.1
            have hne : ob ≠ gc := fun e => by obtain ⟨cur, hh, _⟩ := H9.out.1.2.2.2.2.2.2; rw [← e, hx] at hh; cases hh
            exact (hfk.block ob (lt_of_block hx) hne hne hne).trans hx
          by_cases htl : t < l.C.length
          · obtain ⟨o0, o1, o2, -⟩ := three_cells hobk
            obtain ⟨r0, r1, r2, r3⟩ := hpk.cells htl
            have hz := hpk.frozen (t * 4)
            have hti : (t : Int) < (l.C.length : Int) := by omega
            have hcm := HLK2.out.1.cm
            have HN : Hid (∀ r, F3 gc gc gc w9 (wr.setCell ⟨gc, t * 4, none⟩ (.int .u16 r)) ∧ PxM (wr.setCell ⟨gc, t * 4, none⟩ (.int .u16 r)) gc l.C.length (upd K t (r, (K t).2))) := fun r => ⟨hfk.trans (F3.set wr gc _ _ (.inl rfl)), hpk.set0 htl r⟩
            clear hfk hpk HK hobk
            go_wp2
            go_roundw
            case rel => exact ⟨t + 1, by omega, by go_num, (HN.out _).1, _, (HN.out _).2⟩
            case measure => simp [intOf]; omega
          · obtain rfl : t = l.C.length := by omega
            have H10 : Hid (Ps w c p k W H N F' M' n' wr ∧ wr.heap[lb]? = some (.cells #[.int .i64 l.ps, .slice l.sa l.S.length l.sc, .slice l.ca l.C.length l.cc] 35 (0, 0)) ∧ PxM wr g1 N F ∧ KnM wr g2 N M ∧ wr.heap[ib]? = some (.cells #[.int .i64 W, .int .i64 H, .slice (some ⟨g1, 0, none⟩) N k1] 41 (0, 0))) := by
              obtain ⟨⟨x1, x2, x3, x4, x5, x6, x7⟩, m1, m2, m3, m4, m5, m6, m7, m8⟩ := H9.out
              have r3 := HNG.out.2.2
              have q : ∀ j, j < w9.heap.size → j < B8 → wr.heap[j]? = w9.heap[j]? := fun j hj hlj => hfk.block j hj (by omega) (by omega) (by omega)
              exact ⟨x1.over hfk ⟨m1, m2, m3, m4⟩ r3, (q lb (lt_of_block x2) m5).trans x2, x3.same (q g1 x3.lt m6), x4.same (q g2 x4.lt m7), (q ib (lt_of_block x5) m8).trans x5⟩
            clear hfk hpk HK hobk H9 HNG ht htl hks hkc
            have CI := cimage_any H10.out.1.cv
            go_wp2_with fail
            refine CI.mono ?_
            clear CI
            rintro e w11 ⟨g3, k3, rfl, -, -, q3, q4, q5⟩
            have H11 : Hid ((Ps w c p k W H N F' M' n' w11 ∧ w11.heap[lb]? = some (.cells #[.int .i64 l.ps, .slice l.sa l.S.length l.sc, .slice l.ca l.C.length l.cc] 35 (0, 0)) ∧ PxM w11 g1 N F ∧ KnM w11 g2 N M ∧ w11.heap[ib]? = some (.cells #[.int .i64 W, .int .i64 H, .slice (some ⟨g1, 0, none⟩) N k1] 41 (0, 0))) ∧ PxM w11 g3 N F' ∧ lb < g3 ∧ g1 < g3 ∧ g2 < g3 ∧ ib < g3) := by
              obtain ⟨x1, x2, x3, x4, x5⟩ := H10.out
              have n1 := lt_of_block x2
              have n2 := x3.lt
              have n3 := x4.lt
              have n4 := lt_of_block x5
              exact ⟨⟨x1.old q5, (q5.block _ n1).trans x2, x3.same (q5.block _ n2), x4.same (q5.block _ n3), (q5.block _ n4).trans x5⟩, q3, by omega, by omega, by omega, by omega⟩
            clear q3 q4 q5 H10
            have CC := ccount_any H11.out.1.1.cv
            go_wp2_with fail
            refine CC.mono ?_
            clear CC
            rintro e w12 ⟨rfl, rfl⟩
            have HB13 : Hid (∀ o, Below w12.heap.size w12 (w12.alloc o) ∧ (w12.alloc o).heap[w12.heap.size]? = some o) := fun o => ⟨below_new _ _, World.alloc_heap_new w12 _⟩
            go_upto_region 21 with fail
            have h13 := HB13.out (.cells #[.int .i64 W, .int .i64 H, .slice (some ⟨g3, 0, none⟩) N k3] 41)
            generalize w12.alloc (.cells #[.int .i64 W, .int .i64 H, .slice (some ⟨g3, 0, none⟩) N k3] 41) = w13 at *
            obtain ⟨nb, hnb⟩ : ∃ nb, w12.heap.size = nb := ⟨_, rfl⟩
            rw [hnb] at h13 ⊢
            have H13 : Hid (((Ps w c p k W H N F' M' n' w13 ∧ w13.heap[lb]? = some (.cells #[.int .i64 l.ps, .slice l.sa l.S.length l.sc, .slice l.ca l.C.length l.cc] 35 (0, 0)) ∧ PxM w13 g1 N F ∧ KnM w13 g2 N M ∧ w13.heap[ib]? = some (.cells #[.int .i64 W, .int .i64 H, .slice (some ⟨g1, 0, none⟩) N k1] 41 (0, 0))) ∧ PxM w13 g3 N F' ∧ w13.heap[nb]? = some (.cells #[.int .i64 W, .int .i64 H, .slice (some ⟨g3, 0, none⟩) N k3] 41 (0, 0))) ∧ lb < g3 ∧ g1 < g3 ∧ g2 < g3 ∧ ib < g3 ∧ g3 < nb) := by
              obtain ⟨⟨x1, x2, x3, x4, x5⟩, x6, x7, x8, x9, x10⟩ := H11.out
              have q5 : Below w12.heap.size w12 w13 := by rw [hnb]; exact h13.1
              have n6 := x6.lt
              exact ⟨⟨⟨x1.old q5, (q5.block _ (lt_of_block x2)).trans x2, x3.same (q5.block _ x3.lt), x4.same (q5.block _ x4.lt), (q5.block _ (lt_of_block x5)).trans x5⟩, x6.same (q5.block _ n6), h13.2⟩, x7, x8, x9, x10, by omega⟩
            clear h13 HB13 H11 hnb
            obtain ⟨o0, o1, o2, -⟩ := three_cells H13.out.1.2.2
            go_wp2
            go_loopw [90] (fun v wq => ∃ t : Nat, t ≤ N ∧ v = .int .i64 t ∧ Hid (F3 g3 g3 g3 w13 wq ∧ ∃ K, PxM wq g3 N K ∧ ∀ j, t ≤ j → K j = F' j)) (fun v _ => N - (intOf v).toNat)
            case atStart => exact ⟨0, Nat.zero_le _, rfl, F3.refl _ _ _ _, _, H13.out.1.2.1, fun _ _ => rfl⟩
            case round =>
              clear o0 o1 o2
              obtain ⟨t, ht, rfl, HK⟩ := hrel
              have HA : Hid (((Ps w c p k W H N F' M' n' wr ∧ wr.heap[lb]? = some (.cells #[.int .i64 l.ps, .slice l.sa l.S.length l.sc, .slice l.ca l.C.length l.cc] 35 (0, 0)) ∧ PxM wr g1 N F ∧ KnM wr g2 N M ∧ wr.heap[ib]? = some (.cells #[.int .i64 W, .int .i64 H, .slice (some ⟨g1, 0, none⟩) N k1] 41 (0, 0))) ∧ wr.heap[nb]? = some (.cells #[.int .i64 W, .int .i64 H, .slice (some ⟨g3, 0, none⟩) N k3] 41 (0, 0))) ∧ F3 g3 g3 g3 w13 wr ∧ ∃ K, PxM wr g3 N K ∧ ∀ j, t ≤ j → K j = F' j) := by
                obtain ⟨hfk, hK⟩ := HK.out
                obtain ⟨⟨⟨x1, x2, x3, x4, x5⟩, x6, x7⟩, y1, y2, y3, y4, y5⟩ := H13.out
                obtain ⟨n1, n2, n3, n4, n5, n6⟩ := HO.out
                have q : ∀ j, j < w13.heap.size → j ≠ g3 → wr.heap[j]? = w13.heap[j]? := fun j hj hn => hfk.block j hj hn hn hn
                exact ⟨⟨⟨x1.over hfk ⟨n1, n2, n3, by have := x1.lo; omega⟩ (Nat.le_of_lt y1), (q lb (lt_of_block x2) (by omega)).trans x2, x3.same (q g1 x3.lt (by omega)), x4.same (q g2 x4.lt (by omega)), (q ib (lt_of_block x5) (by omega)).trans x5⟩, (q nb (lt_of_block x7) (by omega)).trans x7⟩, hfk, hK⟩
              clear HK
              by_cases htl : t < N
              · obtain ⟨⟨⟨x1, x2, x3, x4, x5⟩, x6⟩, hfk, K, hpk, hKF⟩ := HA.out
                obtain ⟨a0, a1, a2, -⟩ := three_cells x5
                obtain ⟨o0, o1, o2, -⟩ := three_cells x6
                obtain ⟨p0, p1, p2, p3⟩ := x3.cells htl
                obtain ⟨r0, r1, r2, r3⟩ := hpk.cells htl
                have hm := x4.cell htl
                have hz := hpk.frozen (t * 4 + 1)
                have hti : (t : Int) < (N : Int) := by omega
                have hKt := hKF t (Nat.le_refl _)
                have HN : Hid (∀ r, F3 g3 g3 g3 w13 (wr.drew.setCell ⟨g3, t * 4 + 1, none⟩ (.int .u16 r)) ∧ ∃ K', PxM (wr.drew.setCell ⟨g3, t * 4 + 1, none⟩ (.int .u16 r)) g3 N K' ∧ ∀ j, t + 1 ≤ j → K' j = F' j) := fun r => ⟨(hfk.trans (F3.of_below (below_drew wr))).trans (F3.set wr.drew g3 _ _ (.inl rfl)), _, (hpk.same (w' := wr.drew) rfl).set1 htl r, fun j hj => by unfold upd; rw [if_neg (by omega)]; exact hKF j (by omega)⟩
                have hFt : (M t = true ∨ E ≠ 0) → F' t = F t := fun h => by
                  rcases h with h | h
                  · exact HFF.out.1 t h
                  · rw [(HFF.out.2.1 h).1]
                clear x1 x2 x3 x4 x5 x6 hfk hpk hKF HA
                rw [hKt] at r0 r1 r2 r3
                clear hKt
                by_cases hE0 : E = 0
                · subst hE0
                  cases hMt : M t with
                  | true =>
                    rw [hMt] at hm
                    rw [hFt (.inl hMt)] at r0 r1 r2 r3
                    clear hFt
                    generalize F t = ft at *
                    obtain ⟨f1, f2, f3, f4⟩ := ft
                    simp only at p0 p1 p2 p3 r0 r1 r2 r3
                    go_upto_region 24 with fail
                    refine wp_region_still_tail 33 (by kernel_rfl) (by kernel_rfl) ?_
                    simp only [List.take_succ_cons, List.take_zero, List.drop_succ_cons, List.drop_zero]
                    rw [show ({ wr with drawn := wr.drawn + 1 } : World) = wr.drew from rfl]
                    iterate 33
                      ((with_reducible refine wpStill_step (fun K hK => ?_)); go_simp; (with_reducible refine hK _ ?_); clear hK K)
                    with_reducible refine wpStill_nil ?_
                    go_wp2
                    go_roundw
                    case rel => exact ⟨t + 1, by omega, by go_num, HN.out _⟩
                    case measure => simp [intOf]; omega
                  | false =>
                    rw [hMt] at hm
                    clear hFt
                    generalize F t = ft at *
                    obtain ⟨f1, f2, f3, f4⟩ := ft
                    generalize F' t = fu at *
                    obtain ⟨e1, e2, e3, e4⟩ := fu
                    simp only at p0 p1 p2 p3 r0 r1 r2 r3
                    go_upto_region 24 with fail
                    refine wp_region_still_tail 33 (by kernel_rfl) (by kernel_rfl) ?_
                    simp only [List.take_succ_cons, List.take_zero, List.drop_succ_cons, List.drop_zero]
                    rw [show ({ wr with drawn := wr.drawn + 1 } : World) = wr.drew from rfl]
                    iterate 33
                      ((with_reducible refine wpStill_step (fun K hK => ?_)); go_simp; (with_reducible refine hK _ ?_); clear hK K)
                    with_reducible refine wpStill_nil ?_
                    go_wp2
                    go_roundw
                    case rel => exact ⟨t + 1, by omega, by go_num, HN.out _⟩
                    case measure => simp [intOf]; omega
                · cases hMt : M t with
                  | true =>
                    rw [hMt] at hm
                    rw [hFt (.inl hMt)] at r0 r1 r2 r3
                    clear hFt
                    generalize F t = ft at *
                    obtain ⟨f1, f2, f3, f4⟩ := ft
                    simp only at p0 p1 p2 p3 r0 r1 r2 r3
                    go_upto_region 24 with fail
                    refine wp_region_still_tail 33 (by kernel_rfl) (by kernel_rfl) ?_
                    simp only [List.take_succ_cons, List.take_zero, List.drop_succ_cons, List.drop_zero]
                    rw [show ({ wr with drawn := wr.drawn + 1 } : World) = wr.drew from rfl]
                    iterate 33
                      ((with_reducible refine wpStill_step (fun K hK => ?_)); go_simp; (with_reducible refine hK _ ?_); clear hK K)
                    with_reducible refine wpStill_nil ?_
                    go_wp2
                    go_roundw
                    case rel => exact ⟨t + 1, by omega, by go_num, HN.out _⟩
                    case measure => simp [intOf]; omega
                  | false =>
                    rw [hMt] at hm
                    rw [hFt (.inr hE0)] at r0 r1 r2 r3
                    clear hFt
                    generalize F t = ft at *
                    obtain ⟨f1, f2, f3, f4⟩ := ft
                    simp only at p0 p1 p2 p3 r0 r1 r2 r3
                    go_upto_region 24 with fail
                    refine wp_region_still_tail 33 (by kernel_rfl) (by kernel_rfl) ?_
                    simp only [List.take_succ_cons, List.take_zero, List.drop_succ_cons, List.drop_zero]
                    rw [show ({ wr with drawn := wr.drawn + 1 } : World) = wr.drew from rfl]
                    iterate 33
                      ((with_reducible refine wpStill_step (fun K hK => ?_)); go_simp; (with_reducible refine hK _ ?_); clear hK K)
                    with_reducible refine wpStill_nil ?_
                    go_wp2
                    go_roundw
                    case rel => exact ⟨t + 1, by omega, by go_num, HN.out _⟩
                    case measure => simp [intOf]; omega
              · obtain rfl : t = N := by omega
                have H14 : Hid (Ps w c p k W H t F' M' n' wr ∧ wr.heap[lb]? = some (.cells #[.int .i64 l.ps, .slice l.sa l.S.length l.sc, .slice l.ca l.C.length l.cc] 35 (0, 0)) ∧ PxM wr g1 t F ∧ KnM wr g2 t M ∧ wr.heap[ib]? = some (.cells #[.int .i64 W, .int .i64 H, .slice (some ⟨g1, 0, none⟩) t k1] 41 (0, 0))) := HA.out.1.1
                clear HA H13 htl ht
                generalize wr = w14 at *
                obtain ⟨b0, b1, b2, -⟩ := three_cells H14.out.2.1
                go_wp2
                go_loopw [21, 139] (fun s v wq => ∃ j : Nat, j ≤ t ∧ v = .int .i64 j ∧ s = .int .i64 (cntM M j : Nat) ∧ wq = w14) (fun _ v _ => t - (intOf v).toNat)
                case atStart => exact ⟨0, Nat.zero_le _, rfl, rfl, rfl⟩
                case round =>
                  obtain ⟨j, hj, rfl, rfl, hw⟩ := hrel
                  subst hw
                  have hcl := cntM_le M j
                  by_cases hjt : j < t
                  · have hm := H14.out.2.2.2.1.cell hjt
                    have hji : (j : Int) < (t : Int) := by omega
                    cases hMj : M j with
                    | true =>
                      rw [hMj] at hm
                      have hc1 : ((cntM M (j + 1) : Nat) : Int) = (cntM M j : Int) + 1 := by simp [cntM, hMj]
                      go_wp2
                      go_roundw
                      case rel => exact ⟨j + 1, by omega, by go_num, by first | (rw [hc1]; go_num) | (rw [hc1]) | (simp only [hc1]; go_num), by first | rfl | trivial⟩
                      case measure => simp [intOf]; omega
                    | false =>
                      rw [hMj] at hm
                      have hc1 : cntM M (j + 1) = cntM M j := by simp [cntM, hMj]
                      go_wp2
                      go_roundw
                      case rel => exact ⟨j + 1, by omega, by go_num, by first | rw [hc1] | (simp only [hc1]), by first | rfl | trivial⟩
                      case measure => simp [intOf]; omega
                  · obtain rfl : j = t := by omega
                    have hsm := HLK2.out.1.sm
                    have HE14 : Hid (∃ F M n, Ps w c p k W H j F M n wr) := ⟨_, _, _, H14.out.1⟩
                    by_cases hE0 : E = 0
                    · have hn1 := HFF.out.2.2 hE0
                      rw [hnN] at hn1
                      subst hE0
                      clear HFF
                      generalize cntM M j = ct at *
                      generalize l.S.length = sl at *
                      have hwr : IntKind.i64.wrap ((ct : Int) + (sl : Int)) = (ct : Int) + (sl : Int) := by rw [IntKind.wrap_i64]; omega
                      rw [hn1]
                      clear hn1 H14
                      go_wp2
                      go_roundw
                      case rel => exact ⟨i + 1, by omega, by go_num, HE14⟩
                      case measure => simp [intOf]; omega
                    · have hn1 := (HFF.out.2.1 hE0).2
                      rw [hnN] at hn1
                      clear HFF
                      generalize cntM M j = ct at *
                      generalize l.S.length = sl at *
                      have hwr : IntKind.i64.wrap ((ct : Int) + (sl : Int)) = (ct : Int) + (sl : Int) := by rw [IntKind.wrap_i64]; omega
                      rw [hn1]
                      clear hn1 H14
                      go_wp2
                      go_roundw
                      case rel => exact ⟨i + 1, by omega, by go_num, HE14⟩
                      case measure => simp [intOf]; omega
      · obtain rfl : i = len := by omega
        have HE : Hid (Below w.heap.size w wr) := HI.out.be
        clear HI
        go_wp2
        go_ret
        exact ⟨rfl, HE.out⟩
end Go.Proofs.Ytjheipfcehddhaa
