/- The law CanvasViews. -/
import Derived.Test.YtjheipfcehddhaaCvS
import Derived.Test.YtjheipfcehddhaaCvU
namespace Go.Proofs.Ytjheipfcehddhaa
open Go.RowKit
theorem u8_side (a : Int) (m : Int) (hm : 1 ≤ m ∧ m ≤ 40) : ∃ n : Nat, 1 + a % m = (n : Int) ∧ 1 ≤ n ∧ n ≤ 40 := by
  have h1 := Int.emod_nonneg a (show m ≠ 0 by omega)
  have h2 := Int.emod_lt_of_pos a (show 0 < m by omega)
  exact ⟨(1 + a % m).toNat, by omega, by omega, by omega⟩
theorem small_sz {x y : Nat} (hx : 1 ≤ x ∧ x ≤ 40) (hy : 1 ≤ y ∧ y ≤ 40) : Sz (x : Int) (y : Int) (x * y) := by
  refine ⟨by omega, by omega, by omega, by omega, by rw [Int.natCast_mul], ?_⟩
  have : x * y ≤ 40 * 40 := Nat.mul_le_mul hx.2 hy.2
  omega
set_option maxHeartbeats 6400000 in
set_option maxRecDepth 100000 in
theorem cviews_walk (A B' : Int) (a : Option Addr) (len cap : Nat) (G : Nat → Ln) (wv : Bool) (w : World) (hA : (Lit.int .u8 A).wf = true) (hB : (Lit.int .u8 B').wf = true) (hG : LnArg w a len cap G) (_ : True) :
    Calls Try.prog 4 #[.int .u8 A, .int .u8 B', .slice a len cap, .bool wv] w fun e w' => e = .returned (.bool true) ∧ Below w.heap.size w w' := by
  have HG : Hid (LnArg w a len cap G) := hG
  have hA2 : 0 ≤ A ∧ A < 256 := by have := bounds_u8 hA; omega
  have hB2 : 0 ≤ B' ∧ B' < 256 := by have := bounds_u8 hB; omega
  obtain ⟨W, hW, hW1⟩ := u8_side A 40 (by omega)
  obtain ⟨H, hH, hH1⟩ := u8_side B' 40 (by omega)
  have HZ : Hid (Sz (W : Int) (H : Int) (W * H)) := small_sz hW1 hH1
  have CN := fun w => new_yes HZ.out w
  have CRN := fun w => rnew_yes HZ.out w
  have hN := HZ.out.m
  obtain ⟨N, hNe⟩ : ∃ N, W * H = N := ⟨_, rfl⟩
  rw [hNe] at HZ CN CRN hN
  have HWH : Hid (1 + A % 40 = (W : Int) ∧ 1 + B' % 40 = (H : Int)) := ⟨hW, hH⟩
  clear hNe hG hA hB hW hH
  go_enter Try.func4, Try.ntmps4
  go_wp2_with fail
  refine (cvfixed_any _).mono ?_
  rintro e w1 ⟨rfl, hb1⟩
  have H1 : Hid (Below w.heap.size w w1) := hb1
  clear hb1
  go_upto_region 4 with fail
  rw [HWH.out.1, HWH.out.2]
  clear HWH
  go_wp2_with fail
  refine (CN w1).mono ?_
  clear CN
  rintro e w2 ⟨c, p, k, rfl, hv2, hc, hpp, hk, hb2⟩
  have H2 : Hid (Cv w2 c p k W H N (fun _ => z4) (fun _ => false) 0 ∧ w1.heap.size ≤ c ∧ w1.heap.size ≤ p ∧ w1.heap.size ≤ k ∧ Below w1.heap.size w1 w2) := ⟨hv2, hc, hpp, hk, hb2⟩
  clear hv2 hc hpp hk hb2
  go_wp2_with fail
  refine (CRN w2).mono ?_
  clear CRN
  rintro e w3 ⟨c', p', k', rfl, hv3, hc, hpp, hk, hb3⟩
  have HP : Hid (Pl w w2.heap.size c p k c' p' k' W H N (fun _ => z4) (fun _ => false) 0 w3) := by
    obtain ⟨q1, q2, q3, q4, q5⟩ := H2.out
    have s1 := H1.out.size
    exact ⟨(H1.out.trans (q5.mono s1)).trans (hb3.mono (Nat.le_trans s1 q5.size)), q1.old hb3, hv3, Iv.new N, ⟨by omega, by omega, by omega⟩, lt_of_block q1.st, q1.px.lt, q1.kn.lt, hc, hpp, hk⟩
  clear hv3 hc hpp hk hb3 H1 H2
  generalize w2.heap.size = B at *
  have CF := lfew_any (HG.out.old HP.out.be)
  go_wp2_with fail
  refine CF.mono ?_
  clear CF
  rintro e w4 ⟨b, rfl, hfew, hb4⟩
  cases b with
  | false =>
    have HE : Hid (Below w.heap.size w w4) := HP.out.be.trans (hb4.mono HP.out.be.size)
    clear HP hb4 hfew
    go_wp2
    go_ret
    exact ⟨rfl, HE.out⟩
  | true =>
    have HP4 : Hid (Pl w B c p k c' p' k' W H N (fun _ => z4) (fun _ => false) 0 w4) := HP.out.old hb4
    obtain ⟨hl61, hfew⟩ := hfew rfl
    have HFEW : Hid (∀ i, i < len → (G i).S.length ≤ 3000 ∧ (G i).C.length ≤ 3000) := hfew
    clear HP hb4 hfew
    go_wp2
    go_loopw [46] (fun v wr => ∃ i : Nat, i ≤ len ∧ v = .int .i64 i ∧ Hid (∃ F M n, Pl w B c p k c' p' k' W H N F M n wr)) (fun v _ => len - (intOf v).toNat)
    case atStart => exact ⟨0, Nat.zero_le _, rfl, _, _, _, HP4.out⟩
    case round =>
      clear HP4
      obtain ⟨i, hi, rfl, HI⟩ := hrel
      obtain ⟨F, M, n, HI⟩ := HI.out
      have HI : Hid (Pl w B c p k c' p' k' W H N F M n wr) := HI
      by_cases hlt : i < len
      · obtain ⟨b, off, rfl, hc⟩ := (HG.out.old HI.out.be).2.2 (by omega)
        obtain ⟨c0, c1, c2, hlm, hlb⟩ := hc i hlt
        have hok : LnOk (G i) := ⟨hlb.sl, by have := HFEW.out i hlt; omega, hlb.cl, by have := HFEW.out i hlt; omega⟩
        have HLM : Hid (LnOk (G i) ∧ ∀ u, Below w.heap.size w u → LnM u (G i)) := ⟨hok, fun u hu => by
          obtain ⟨b2, off2, he, hc2⟩ := (HG.out.old hu).2.2 (by omega)
          exact (hc2 i hlt).2.2.2.1⟩
        clear hlm hlb hc hok
        obtain ⟨l, hl⟩ : ∃ l, G i = l := ⟨_, rfl⟩
        rw [hl] at c0 c1 c2 HLM
        clear hl
        have HB5 : Hid (Below wr.heap.size wr (wr.alloc (.cells #[.int .i64 l.ps, .slice l.sa l.S.length l.sc, .slice l.ca l.C.length l.cc] 35)) ∧ (wr.alloc (.cells #[.int .i64 l.ps, .slice l.sa l.S.length l.sc, .slice l.ca l.C.length l.cc] 35)).heap[wr.heap.size]? = some (.cells #[.int .i64 l.ps, .slice l.sa l.S.length l.sc, .slice l.ca l.C.length l.cc] 35 (0, 0))) := ⟨below_new _ _, World.alloc_heap_new wr _⟩
        go_upto_region 13 with fail
        generalize wr.alloc (.cells #[.int .i64 l.ps, .slice l.sa l.S.length l.sc, .slice l.ca l.C.length l.cc] 35) = w5 at *
        have HP5 : Hid (Pl w B c p k c' p' k' W H N F M n w5.drew) := (HI.out.old HB5.out.1).old (below_drew _)
        have HLB : Hid (c < wr.heap.size ∧ p < wr.heap.size ∧ k < wr.heap.size ∧ c' < wr.heap.size ∧ p' < wr.heap.size ∧ k' < wr.heap.size) := ⟨lt_of_block HI.out.cv.st, HI.out.cv.px.lt, HI.out.cv.kn.lt, lt_of_block HI.out.rv.st, HI.out.rv.px.lt, HI.out.rv.kn.lt⟩
        have HX5 : Hid (w5.drew.heap[wr.heap.size]? = some (.cells #[.int .i64 l.ps, .slice l.sa l.S.length l.sc, .slice l.ca l.C.length l.cc] 35 (0, 0))) := HB5.out.2
        obtain ⟨y0, y1, y2, -⟩ := three_cells HB5.out.2
        have CL1 := lay_any HP5.out.cv l HLM.out.1 (fun u hu => HLM.out.2 u (F3.below HP5.out.be hu HP5.out.lo.1 HP5.out.lo.2.1 HP5.out.lo.2.2 HP5.out.be.size)) (HP5.out.iv.bd hN)
        have HL2 : Hid (∀ u, F3 c p k w5.drew u → Calls Try.prog 13 #[.pointer (some ⟨c', 0, none⟩), l.V] u fun e w' => RLayPost u c' p' k' W H N F M l e w') := fun u hu =>
          rlay_any (HP5.out.rv.f3 hu HP5.out.hi) l HLM.out.1 (fun v hv => HLM.out.2 v (F3.below (F3.below HP5.out.be hu HP5.out.lo.1 HP5.out.lo.2.1 HP5.out.lo.2.2 HP5.out.be.size) hv (by have := HP5.out.hi; have := HP5.out.lo; omega) (by have := HP5.out.hi; have := HP5.out.lo; omega) (by have := HP5.out.hi; have := HP5.out.lo; omega) (Nat.le_trans HP5.out.be.size hu.size)))
        unfold Ln.V at CL1 HL2
        clear c0 c1 c2 HB5
        obtain ⟨lb, hlb⟩ : ∃ lb, wr.heap.size = lb := ⟨_, rfl⟩
        rw [hlb] at HLB HX5 y0 y1 y2 ⊢
        clear hlb
        go_region_held3 (fun u => u.cell? ⟨lb, 0, none⟩ = some (.int .i64 l.ps) ∧ u.cell? ⟨lb, 1, none⟩ = some (.slice l.sa l.S.length l.sc) ∧ u.cell? ⟨lb, 2, none⟩ = some (.slice l.ca l.C.length l.cc))
          (first | (with_reducible exact ⟨by with_reducible assumption, by with_reducible assumption, by with_reducible assumption⟩) | go_keep)
          (first | (go_at_call 13; refine Calls.mono (HL2.out _ H6.out.1) ?_; rintro e w7 ⟨rfl, hf7, hv7⟩; have H7 : Hid (Pl w B c p k c' p' k' W H N (layF W H F M l.S l.C) (layM W H M l.S l.C.length) (layN W H M l.S l.C.length n) w7 ∧ w7.heap[lb]? = some (.cells #[.int .i64 l.ps, .slice l.sa l.S.length l.sc, .slice l.ca l.C.length l.cc] 35 (0, 0))) := ⟨pl_step HP5.out H6.out.1 hf7 H6.out.2.1 hv7 (HP5.out.iv.lay HP5.out.cv.sz l.S l.C), (hf7.block _ (lt_of_block H6.out.2.2) (by have := HLB.out; omega) (by have := HLB.out; omega) (by have := HLB.out; omega)).trans H6.out.2.2⟩; obtain ⟨t0, t1, t2, -⟩ := three_cells H7.out.2; clear hf7 hv7)
                                    | (go_at_call 12; refine Calls.mono CL1 ?_; rintro e w6 ⟨rfl, hf6, hv6⟩; have H6 : Hid (F3 c p k w5.drew w6 ∧ Cv w6 c p k W H N (layF W H F M l.S l.C) (layM W H M l.S l.C.length) (layN W H M l.S l.C.length n) ∧ w6.heap[lb]? = some (.cells #[.int .i64 l.ps, .slice l.sa l.S.length l.sc, .slice l.ca l.C.length l.cc] 35 (0, 0))) := ⟨hf6, hv6, (hf6.block _ (lt_of_block HX5.out) (by have := HLB.out; omega) (by have := HLB.out; omega) (by have := HLB.out; omega)).trans HX5.out⟩; obtain ⟨j0, j1, j2, -⟩ := three_cells H6.out.2.2; clear hf6 hv6 CL1)
                                    | fail)
        all_goals
          go_wp2
          go_roundw
          case rel => exact ⟨i + 1, by omega, by go_num, _, _, _, H7.out.1⟩
          case measure => simp [intOf]; omega
      · obtain rfl : i = len := by omega
        have CV := view_any HI.out.cv wv
        have HRC : Hid (∀ u, Below wr.heap.size wr u → Calls Try.prog 17 #[.pointer (some ⟨c', 0, none⟩), .bool wv] u fun e w' => ImT u W H N (vwG W H F M (cuL wv)) e w') := fun u hu =>
          (rview_any (HI.out.rv.old hu) wv).mono fun e w' ⟨g, cp, q1, q2, q3, q4, q5, q6⟩ => ⟨g, cp, q1, q2, q3, q4.congr (fun i hi => rvG_eq HI.out.cv.sz HI.out.iv wv hi), q5, q6⟩
        have HE : Hid (Below w.heap.size w wr) := HI.out.be
        clear HI
        go_wp2_with fail
        refine CV.mono ?_
        clear CV
        rintro e w8 ⟨g1, cp1, rfl, q1, q2, q3, q4, q5⟩
        have H8 : Hid (PxM w8 g1 N (vwG W H F M (cuL wv)) ∧ Below wr.heap.size wr w8) := ⟨q3, q5⟩
        clear q1 q2 q3 q4 q5
        go_wp2_with fail
        refine (HRC.out _ H8.out.2).mono ?_
        rintro e w9 ⟨g2, cp2, rfl, q1, q2, q3, q4, q5⟩
        have H9 : Hid (PxM w9 g1 N (vwG W H F M (cuL wv)) ∧ PxM w9 g2 N (vwG W H F M (cuL wv)) ∧ Below w.heap.size w w9) := ⟨H8.out.1.same (q5.block _ H8.out.1.lt), q3, (HE.out.trans (H8.out.2.mono HE.out.size)).trans (q5.mono (Nat.le_trans HE.out.size H8.out.2.size))⟩
        clear q1 q2 q3 q4 q5 HRC H8
        go_wp2_with fail
        refine (csame_any W H N _ g1 g2 cp1 cp2 w9 hN H9.out.1 H9.out.2.1).mono ?_
        rintro e w10 ⟨rfl, hb10⟩
        have HE10 : Hid (Below w.heap.size w w10) := H9.out.2.2.trans (hb10.mono H9.out.2.2.size)
        clear hb10 H9
        go_wp2
        go_ret
        exact ⟨rfl, HE10.out⟩
end Go.Proofs.Ytjheipfcehddhaa
