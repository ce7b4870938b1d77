/- The law CanvasPlays. -/
import Derived.Test.YtjheipfcehddhaaCvR
import Derived.Test.YtjheipfcehddhaaCvP2
import Derived.Test.YtjheipfcehddhaaCvO
import Derived.Test.YtjheipfcehddhaaCvL
namespace Go.Proofs.Ytjheipfcehddhaa
open Go.RowKit
/-- Both canvases, alike. -/
structure Pl (w0 : World) (B c p k c' p' k' : Nat) (W H : Int) (N : Nat) (F : Nat → Col) (M : Nat → Bool) (n : Int) (wr : World) : Prop where
  be : Below w0.heap.size w0 wr
  cv : Cv wr c p k W H N F M n
  rv : Rv wr c' p' k' W H N F M
  iv : Iv N F M n
  lo : w0.heap.size ≤ c ∧ w0.heap.size ≤ p ∧ w0.heap.size ≤ k
  hi : c < B ∧ p < B ∧ k < B ∧ B ≤ c' ∧ B ≤ p' ∧ B ≤ k'
theorem Pl.old {w0 : World} {B c p k c' p' k' : Nat} {W H : Int} {N : Nat} {F : Nat → Col} {M : Nat → Bool} {n : Int} {wr w' : World} (h : Pl w0 B c p k c' p' k' W H N F M n wr) (hb : Below wr.heap.size wr w') : Pl w0 B c p k c' p' k' W H N F M n w' :=
  ⟨h.be.trans (hb.mono h.be.size), h.cv.old hb, h.rv.old hb, h.iv, h.lo, h.hi⟩
theorem Rv.f3 {w w' : World} {B c p k c' p' k' : Nat} {W H : Int} {N : Nat} {F : Nat → Col} {M : Nat → Bool} (h : Rv w c' p' k' W H N F M) (hf : F3 c p k w w') (hi : c < B ∧ p < B ∧ k < B ∧ B ≤ c' ∧ B ≤ p' ∧ B ≤ k') : Rv w' c' p' k' W H N F M :=
  h.same (hf.block _ (lt_of_block h.st) (by omega) (by omega) (by omega)) (hf.block _ h.px.lt (by omega) (by omega) (by omega)) (hf.block _ h.kn.lt (by omega) (by omega) (by omega))
theorem Cv.f3 {w w' : World} {B c p k c' p' k' : Nat} {W H : Int} {N : Nat} {F : Nat → Col} {M : Nat → Bool} {n : Int} (h : Cv w c p k W H N F M n) (hf : F3 c' p' k' w w') (hi : c < B ∧ p < B ∧ k < B ∧ B ≤ c' ∧ B ≤ p' ∧ B ≤ k') : Cv w' c p k W H N F M n :=
  h.same (hf.block _ (lt_of_block h.st) (by omega) (by omega) (by omega)) (hf.block _ h.px.lt (by omega) (by omega) (by omega)) (hf.block _ h.kn.lt (by omega) (by omega) (by omega))
theorem pl_step {w0 : World} {B c p k c' p' k' : Nat} {W H : Int} {N : Nat} {F F' : Nat → Col} {M M' : Nat → Bool} {n n' : Int} {w5 w6 w7 : World} (h : Pl w0 B c p k c' p' k' W H N F M n w5) (hf6 : F3 c p k w5 w6) (hf7 : F3 c' p' k' w6 w7) (hc : Cv w6 c p k W H N F' M' n') (hr : Rv w7 c' p' k' W H N F' M') (hiv : Iv N F' M' n') : Pl w0 B c p k c' p' k' W H N F' M' n' w7 := by
  obtain ⟨b1, b2, b3⟩ := h.lo
  obtain ⟨i1, i2, i3, i4, i5, i6⟩ := h.hi
  exact ⟨F3.below (F3.below h.be hf6 b1 b2 b3 h.be.size) hf7 (by omega) (by omega) (by omega) (Nat.le_trans h.be.size hf6.size), hc.f3 hf7 h.hi, hr, hiv, h.lo, h.hi⟩
set_option maxHeartbeats 6400000 in
set_option maxRecDepth 100000 in
theorem cplays_walk (W H : Int) (a : Option Addr) (len cap : Nat) (G : Nat → Ln) (w : World) (_ : (Lit.int .i64 W).wf = true) (_ : (Lit.int .i64 H).wf = true) (hG : LnArg w a len cap G) :
    Calls Try.prog 3 #[.int .i64 W, .int .i64 H, .slice a len cap] w fun e w' => e = .returned (.bool true) ∧ Below w.heap.size w w' := by
  have HG : Hid (LnArg w a len cap G) := hG
  clear hG
  by_cases hp : picN W H
  · obtain ⟨N, hz⟩ := picN_sz hp
    have CN := fun w => new_yes hz w
    have CRN := fun w => rnew_yes hz w
    have h1 := hz.w1
    have h2 := hz.w2
    have h3 := hz.h1
    have h4 := hz.h2
    have hm : wrap64 (W * H) = (N : Int) := by rw [hz.n]; unfold wrap64; have := hz.m; omega
    have hN := hz.m
    have HZ : Hid (Sz W H N) := hz
    clear hz hp
    go_enter Try.func3, Try.ntmps3
    go_wp2_with fail
    refine (cvfixed_any _).mono ?_
    rintro e w1 ⟨rfl, hb1⟩
    have H1 : Hid (Below w.heap.size w w1) := hb1
    clear hb1
    go_wp2_with fail
    refine (CN w1).mono ?_
    clear CN
    rintro e w2 ⟨c, p, k, rfl, hv2, hc, hpp, hk, hb2⟩
    have H2 : Hid (Cv w2 c p k W H N (fun _ => z4) (fun _ => false) 0 ∧ w1.heap.size ≤ c ∧ w1.heap.size ≤ p ∧ w1.heap.size ≤ k ∧ Below w1.heap.size w1 w2) := ⟨hv2, hc, hpp, hk, hb2⟩
    clear hv2 hc hpp hk hb2
    go_wp2_with fail
    refine (CRN w2).mono ?_
    clear CRN
    rintro e w3 ⟨c', p', k', rfl, hv3, hc, hpp, hk, hb3⟩
    have HP : Hid (Pl w w2.heap.size c p k c' p' k' W H N (fun _ => z4) (fun _ => false) 0 w3) := by
      obtain ⟨q1, q2, q3, q4, q5⟩ := H2.out
      have s1 := H1.out.size
      exact ⟨(H1.out.trans (q5.mono s1)).trans (hb3.mono (Nat.le_trans s1 q5.size)), q1.old hb3, hv3, Iv.new N, ⟨by omega, by omega, by omega⟩, lt_of_block q1.st, q1.px.lt, q1.kn.lt, hc, hpp, hk⟩
    clear hv3 hc hpp hk hb3 H1 H2
    generalize w2.heap.size = B at *
    by_cases hbig : 2000 < N
    · have hbig' : (2000 : Int) < (N : Int) := by omega
      have HE : Hid (Below w.heap.size w w3) := HP.out.be
      clear HP
      go_wp2
      go_ret
      exact ⟨rfl, HE.out⟩
    · have hbig' : ¬ (2000 : Int) < (N : Int) := by omega
      have CF := lfew_any (HG.out.old HP.out.be)
      go_wp2_with fail
      refine CF.mono ?_
      clear CF
      rintro e w4 ⟨b, rfl, hfew, hb4⟩
      cases b with
      | false =>
        have HE : Hid (Below w.heap.size w w4) := HP.out.be.trans (hb4.mono HP.out.be.size)
        clear HP hb4 hfew
        go_wp2
        go_ret
        exact ⟨rfl, HE.out⟩
      | true =>
        have HP4 : Hid (Pl w B c p k c' p' k' W H N (fun _ => z4) (fun _ => false) 0 w4) := HP.out.old hb4
        obtain ⟨hl61, hfew⟩ := hfew rfl
        have HFEW : Hid (∀ i, i < len → (G i).S.length ≤ 3000 ∧ (G i).C.length ≤ 3000) := hfew
        clear HP hb4 hfew
        go_wp2
        go_loopw [52] (fun v wr => ∃ i : Nat, i ≤ len ∧ v = .int .i64 i ∧ Hid (∃ F M n, Pl w B c p k c' p' k' W H N F M n wr)) (fun v _ => len - (intOf v).toNat)
        case atStart => exact ⟨0, Nat.zero_le _, rfl, _, _, _, HP4.out⟩
        case round =>
          clear HP4
          obtain ⟨i, hi, rfl, HI⟩ := hrel
          obtain ⟨F, M, n, HI⟩ := HI.out
          have HI : Hid (Pl w B c p k c' p' k' W H N F M n wr) := HI
          by_cases hlt : i < len
          · obtain ⟨b, off, rfl, hc⟩ := (HG.out.old HI.out.be).2.2 (by omega)
            obtain ⟨c0, c1, c2, hlm, hlb⟩ := hc i hlt
            have hok : LnOk (G i) := ⟨hlb.sl, by have := HFEW.out i hlt; omega, hlb.cl, by have := HFEW.out i hlt; omega⟩
            have HLM : Hid (LnOk (G i) ∧ ∀ u, Below w.heap.size w u → LnM u (G i)) := ⟨hok, fun u hu => by
              obtain ⟨b2, off2, he, hc2⟩ := (HG.out.old hu).2.2 (by omega)
              exact (hc2 i hlt).2.2.2.1⟩
            clear hlm hlb hc hok
            obtain ⟨l, hl⟩ : ∃ l, G i = l := ⟨_, rfl⟩
            rw [hl] at c0 c1 c2 HLM
            clear hl
            have HB5 : Hid (Below wr.heap.size wr (wr.alloc (.cells #[.int .i64 l.ps, .slice l.sa l.S.length l.sc, .slice l.ca l.C.length l.cc] 35)) ∧ (wr.alloc (.cells #[.int .i64 l.ps, .slice l.sa l.S.length l.sc, .slice l.ca l.C.length l.cc] 35)).heap[wr.heap.size]? = some (.cells #[.int .i64 l.ps, .slice l.sa l.S.length l.sc, .slice l.ca l.C.length l.cc] 35 (0, 0))) := ⟨below_new _ _, World.alloc_heap_new wr _⟩
            go_upto_region 12 with fail
            generalize wr.alloc (.cells #[.int .i64 l.ps, .slice l.sa l.S.length l.sc, .slice l.ca l.C.length l.cc] 35) = w5 at *
            have HP5 : Hid (Pl w B c p k c' p' k' W H N F M n w5.drew) := (HI.out.old HB5.out.1).old (below_drew _)
            have HLB : Hid (c < wr.heap.size ∧ p < wr.heap.size ∧ k < wr.heap.size ∧ c' < wr.heap.size ∧ p' < wr.heap.size ∧ k' < wr.heap.size) := ⟨lt_of_block HI.out.cv.st, HI.out.cv.px.lt, HI.out.cv.kn.lt, lt_of_block HI.out.rv.st, HI.out.rv.px.lt, HI.out.rv.kn.lt⟩
            have HX5 : Hid (w5.drew.heap[wr.heap.size]? = some (.cells #[.int .i64 l.ps, .slice l.sa l.S.length l.sc, .slice l.ca l.C.length l.cc] 35 (0, 0))) := HB5.out.2
            obtain ⟨y0, y1, y2, -⟩ := three_cells HB5.out.2
            have CL1 := lay_any HP5.out.cv l HLM.out.1 (fun u hu => HLM.out.2 u (F3.below HP5.out.be hu HP5.out.lo.1 HP5.out.lo.2.1 HP5.out.lo.2.2 HP5.out.be.size)) (HP5.out.iv.bd hN)
            have HL2 : Hid (∀ u, F3 c p k w5.drew u → Calls Try.prog 13 #[.pointer (some ⟨c', 0, none⟩), l.V] u fun e w' => RLayPost u c' p' k' W H N F M l e w') := fun u hu =>
              rlay_any (HP5.out.rv.f3 hu HP5.out.hi) l HLM.out.1 (fun v hv => HLM.out.2 v (F3.below (F3.below HP5.out.be hu HP5.out.lo.1 HP5.out.lo.2.1 HP5.out.lo.2.2 HP5.out.be.size) hv (by have := HP5.out.hi; have := HP5.out.lo; omega) (by have := HP5.out.hi; have := HP5.out.lo; omega) (by have := HP5.out.hi; have := HP5.out.lo; omega) (Nat.le_trans HP5.out.be.size hu.size)))
            unfold Ln.V at CL1 HL2
            clear c0 c1 c2 HB5
            obtain ⟨lb, hlb⟩ : ∃ lb, wr.heap.size = lb := ⟨_, rfl⟩
            rw [hlb] at HLB HX5 y0 y1 y2 ⊢
            clear hlb
            go_region_held3 (fun u => u.cell? ⟨lb, 0, none⟩ = some (.int .i64 l.ps) ∧ u.cell? ⟨lb, 1, none⟩ = some (.slice l.sa l.S.length l.sc) ∧ u.cell? ⟨lb, 2, none⟩ = some (.slice l.ca l.C.length l.cc))
              (first | (with_reducible exact ⟨by with_reducible assumption, by with_reducible assumption, by with_reducible assumption⟩) | go_keep)
              (first | (go_at_call 14; refine Calls.mono (lsame_any H7.out.1.cv H7.out.1.rv H7.out.1.iv) ?_; rintro e w8 ⟨rfl, hb8⟩; have H8 : Hid (Pl w B c p k c' p' k' W H N (layF W H F M l.S l.C) (layM W H M l.S l.C.length) (layN W H M l.S l.C.length n) w8) := H7.out.1.old hb8; have hx8 := (hb8.block _ (lt_of_block H7.out.2)).trans H7.out.2; obtain ⟨s0, s1, s2, -⟩ := three_cells hx8; clear hb8 hx8)
                                        | (go_at_call 13; refine Calls.mono (HL2.out _ H6.out.1) ?_; rintro e w7 ⟨rfl, hf7, hv7⟩; have H7 : Hid (Pl w B c p k c' p' k' W H N (layF W H F M l.S l.C) (layM W H M l.S l.C.length) (layN W H M l.S l.C.length n) w7 ∧ w7.heap[lb]? = some (.cells #[.int .i64 l.ps, .slice l.sa l.S.length l.sc, .slice l.ca l.C.length l.cc] 35 (0, 0))) := ⟨pl_step HP5.out H6.out.1 hf7 H6.out.2.1 hv7 (HP5.out.iv.lay HP5.out.cv.sz l.S l.C), (hf7.block _ (lt_of_block H6.out.2.2) (by have := HLB.out; omega) (by have := HLB.out; omega) (by have := HLB.out; omega)).trans H6.out.2.2⟩; obtain ⟨t0, t1, t2, -⟩ := three_cells H7.out.2; clear hf7 hv7)
                                        | (go_at_call 12; refine Calls.mono CL1 ?_; rintro e w6 ⟨rfl, hf6, hv6⟩; have H6 : Hid (F3 c p k w5.drew w6 ∧ Cv w6 c p k W H N (layF W H F M l.S l.C) (layM W H M l.S l.C.length) (layN W H M l.S l.C.length n) ∧ w6.heap[lb]? = some (.cells #[.int .i64 l.ps, .slice l.sa l.S.length l.sc, .slice l.ca l.C.length l.cc] 35 (0, 0))) := ⟨hf6, hv6, (hf6.block _ (lt_of_block HX5.out) (by have := HLB.out; omega) (by have := HLB.out; omega) (by have := HLB.out; omega)).trans HX5.out⟩; obtain ⟨j0, j1, j2, -⟩ := three_cells H6.out.2.2; clear hf6 hv6 CL1)
                                        | fail)
            all_goals
              go_wp2
              go_roundw
              case rel => exact ⟨i + 1, by omega, by go_num, _, _, _, H8.out⟩
              case measure => simp [intOf]; omega
          · obtain rfl : i = len := by omega
            have CS := lsame_any HI.out.cv HI.out.rv HI.out.iv
            have HE : Hid (Below w.heap.size w wr) := HI.out.be
            clear HI
            go_wp2_with fail
            refine CS.mono ?_
            clear CS
            rintro e w9 ⟨rfl, hb9⟩
            have HE9 : Hid (Below w.heap.size w w9) := HE.out.trans (hb9.mono HE.out.size)
            clear hb9 HE
            go_wp2
            go_ret
            exact ⟨rfl, HE9.out⟩
  · have CN := fun w => new_no W H hp w
    have CRN := fun w => rnew_no W H hp w
    clear hp
    go_enter Try.func3, Try.ntmps3
    go_wp2_with fail
    refine (cvfixed_any _).mono ?_
    rintro e w1 ⟨rfl, hb1⟩
    have H1 : Hid (Below w.heap.size w w1) := hb1
    clear hb1
    go_wp2_with fail
    refine (CN w1).mono ?_
    clear CN
    rintro e w2 ⟨rfl, rfl⟩
    go_wp2_with fail
    refine (CRN _).mono ?_
    clear CRN
    rintro e w3 ⟨rfl, rfl⟩
    go_wp2
    go_ret
    exact ⟨rfl, H1.out⟩
end Go.Proofs.Ytjheipfcehddhaa
