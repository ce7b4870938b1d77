/- A line is laid, or refused: the program's Lay. -/
import Derived.Test.YtjheipfcehddhaaCvC
namespace Go.Proofs.Ytjheipfcehddhaa
open Go.RowKit
def coA (C : List Col) (i : Nat) : Col := C[i]?.getD (0, 0, 0, 0)
/-- Colours in memory. -/
def CoRow (w : World) (a : Option Addr) (C : List Col) : Prop :=
  C = [] ∨ ∃ b off, a = some ⟨b, off, none⟩ ∧ ∀ i, i < C.length → w.cell? ⟨b, off + i * 4, none⟩ = some (.int .u16 (coA C i).1) ∧ w.cell? ⟨b, off + i * 4 + 1, none⟩ = some (.int .u16 (coA C i).2.1) ∧ w.cell? ⟨b, off + i * 4 + 2, none⟩ = some (.int .u16 (coA C i).2.2.1) ∧ w.cell? ⟨b, off + i * 4 + 3, none⟩ = some (.int .u16 (coA C i).2.2.2)
theorem CoRow.at {w : World} {a : Option Addr} {C : List Col} (h : CoRow w a C) {i : Nat} (hi : i < C.length) : ∃ b off, a = some ⟨b, off, none⟩ ∧ w.cell? ⟨b, off + i * 4, none⟩ = some (.int .u16 (coA C i).1) ∧ w.cell? ⟨b, off + i * 4 + 1, none⟩ = some (.int .u16 (coA C i).2.1) ∧ w.cell? ⟨b, off + i * 4 + 2, none⟩ = some (.int .u16 (coA C i).2.2.1) ∧ w.cell? ⟨b, off + i * 4 + 3, none⟩ = some (.int .u16 (coA C i).2.2.2) := by
  rcases h with rfl | ⟨b, off, e, hc⟩
  · simp at hi
  · exact ⟨b, off, e, hc i hi⟩
theorem CoRow.old {w w' : World} {a : Option Addr} {C : List Col} (h : CoRow w a C) (hb : Below w.heap.size w w') : CoRow w' a C := by
  rcases h with rfl | ⟨b, off, e, hc⟩
  · exact .inl rfl
  · refine .inr ⟨b, off, e, fun i hi => ?_⟩
    obtain ⟨h0, h1, h2, h3⟩ := hc i hi
    have hlt := cell_lt h0
    have q : ∀ j, w'.cell? ⟨b, j, none⟩ = w.cell? ⟨b, j, none⟩ := fun j => World.cell?_of_block (a := ⟨b, j, none⟩) (hb.block b hlt)
    exact ⟨(q _).trans h0, (q _).trans h1, (q _).trans h2, (q _).trans h3⟩
/-- A line in memory, as it is handed over. -/
structure Ln where
  ps : Int
  sa : Option Addr
  sc : Nat
  S : List (Int × Int)
  ca : Option Addr
  cc : Nat
  C : List Col
def Ln.V (l : Ln) : Value := .agg #[.int .i64 l.ps, .slice l.sa l.S.length l.sc, .slice l.ca l.C.length l.cc]
structure LnM (w : World) (l : Ln) : Prop where
  s : SpRow w l.sa l.S
  c : CoRow w l.ca l.C
theorem LnM.old {w w' : World} {l : Ln} (h : LnM w l) (hb : Below w.heap.size w w') : LnM w' l := ⟨h.s.old hb, h.c.old hb⟩
structure LnOk (l : Ln) : Prop where
  sl : l.S.length ≤ l.sc
  sm : l.S.length ≤ 1000000
  cl : l.C.length ≤ l.cc
  cm : l.C.length ≤ 1000000
/-- What Lay answers. -/
def layE (W H : Int) (M : Nat → Bool) (S : List (Int × Int)) (m : Nat) : Int := if m = S.length ∧ S.all (onC W H) = true then (if frB W M S S.length then 0 else 10) else 1
def pxF (W : Int) (F : Nat → Col) (S : List (Int × Int)) (C : List Col) : Nat → Nat → Col
  | 0 => F
  | j + 1 => upd (pxF W F S C j) (ixC W (spA S j)) (coA C j)
def layF (W H : Int) (F : Nat → Col) (M : Nat → Bool) (S : List (Int × Int)) (C : List Col) : Nat → Col := if layE W H M S C.length = 0 then pxF W F S C S.length else F
def layM (W H : Int) (M : Nat → Bool) (S : List (Int × Int)) (m : Nat) : Nat → Bool := if layE W H M S m = 0 then mkM W M S S.length else M
def layN (W H : Int) (M : Nat → Bool) (S : List (Int × Int)) (m : Nat) (n : Int) : Int := if layE W H M S m = 0 then n + S.length else n
def LayPost (w : World) (c p k : Nat) (W H : Int) (N : Nat) (F : Nat → Col) (M : Nat → Bool) (n : Int) (l : Ln) (e : Ending) (w' : World) : Prop :=
  e = .returned (.int .i64 (layE W H M l.S l.C.length)) ∧ F3 c p k w w' ∧ Cv w' c p k W H N (layF W H F M l.S l.C) (layM W H M l.S l.C.length) (layN W H M l.S l.C.length n)
theorem three_new (w : World) (x y z : Value) (t : TypeId) : (w.alloc (.cells #[x, y, z] t)).cell? ⟨w.heap.size, 0, none⟩ = some x ∧ (w.alloc (.cells #[x, y, z] t)).cell? ⟨w.heap.size, 1, none⟩ = some y ∧ (w.alloc (.cells #[x, y, z] t)).cell? ⟨w.heap.size, 2, none⟩ = some z := by
  have h : (w.alloc (.cells #[x, y, z] t)).heap[w.heap.size]? = some (.cells #[x, y, z] t (0, 0)) := World.alloc_heap_new w _
  generalize w.alloc (.cells #[x, y, z] t) = w1 at *
  refine ⟨?_, ?_, ?_⟩ <;> simp [World.cell?, h]
theorem LayPost.no {w : World} {c p k : Nat} {W H : Int} {N : Nat} {F : Nat → Col} {M : Nat → Bool} {n : Int} {l : Ln} {w' : World} {E : Int} (he : layE W H M l.S l.C.length = E) (h0 : E ≠ 0) (hf : F3 c p k w w') (hv : Cv w' c p k W H N F M n) : LayPost w c p k W H N F M n l (.returned (.int .i64 E)) w' := by
  unfold LayPost layF layM layN
  rw [he, if_neg h0, if_neg h0, if_neg h0]
  exact ⟨rfl, hf, hv⟩
set_option maxHeartbeats 800000 in
theorem lay_nil (v : Value) (l : Ln) (hv : v = l.V) (w : World) : Calls Try.prog 12 #[.pointer none, v] w fun e w' => e = .returned (.int .i64 1) ∧ Below w.heap.size w w' := by
  subst hv
  unfold Ln.V
  have HB := below_new w (.cells #[.int .i64 l.ps, .slice l.sa l.S.length l.sc, .slice l.ca l.C.length l.cc] 35)
  go_enter Try.func12, Try.ntmps12
  go_wp2
  go_ret
  exact ⟨rfl, HB⟩
set_option maxHeartbeats 3200000 in
theorem lay_any {w : World} {c p k : Nat} {W H : Int} {N : Nat} {F : Nat → Col} {M : Nat → Bool} {n : Int} (h : Cv w c p k W H N F M n) (l : Ln) (ho : LnOk l) (hs : ∀ w', F3 c p k w w' → LnM w' l) (hn : 0 ≤ n ∧ n ≤ 1000000) :
    Calls Try.prog 12 #[.pointer (some ⟨c, 0, none⟩), l.V] w fun e w' => LayPost w c p k W H N F M n l e w' := by
  obtain ⟨ps, sa, sc, S, ca, cc, C⟩ := l
  have HS : Hid (∀ w', F3 c p k w w' → SpRow w' sa S ∧ CoRow w' ca C) := fun w' h => ⟨(hs w' h).s, (hs w' h).c⟩
  obtain ⟨o1, o2, o3, o4⟩ := ho
  simp only at o1 o2 o3 o4
  have HC : Hid (Cv w c p k W H N F M n) := h
  have HLT : Hid (c < w.heap.size ∧ p < w.heap.size ∧ k < w.heap.size) := ⟨lt_of_block h.st, h.px.lt, h.kn.lt⟩
  clear h hs
  obtain ⟨b0, b1, b2⟩ := three_new w (.int .i64 ps) (.slice sa S.length sc) (.slice ca C.length cc) 35
  have HB1 : Hid (Below w.heap.size w (w.alloc (.cells #[.int .i64 ps, .slice sa S.length sc, .slice ca C.length cc] 35)) ∧ (w.alloc (.cells #[.int .i64 ps, .slice sa S.length sc, .slice ca C.length cc] 35)).heap[w.heap.size]? = some (.cells #[.int .i64 ps, .slice sa S.length sc, .slice ca C.length cc] 35 (0, 0))) := ⟨below_new _ _, World.alloc_heap_new w _⟩
  unfold Ln.V
  obtain ⟨w1, hw1⟩ : ∃ w1, w.alloc (.cells #[.int .i64 ps, .slice sa S.length sc, .slice ca C.length cc] 35) = w1 := ⟨_, rfl⟩
  rw [hw1] at b0 b1 b2 HB1
  by_cases hcl : C.length = S.length
  · have CA := hasAll_any (HC.out.old HB1.out.1) S sa sc ((HS.out _ (F3.of_below HB1.out.1)).1) o2
    rw [hcl] at b2 hw1 ⊢
    go_enter Try.func12, Try.ntmps12
    go_wp2_with fail
    clear hw1
    refine CA.mono ?_
    clear CA
    rintro e w2 ⟨rfl, hb2⟩
    have HB2 : Hid (Below w1.heap.size w1 w2) := hb2
    have hbx : w2.heap[w.heap.size]? = some (.cells #[.int .i64 ps, .slice sa S.length sc, .slice ca C.length cc] 35 (0, 0)) := (hb2.block _ (lt_of_block HB1.out.2)).trans HB1.out.2
    rw [hcl] at hbx
    clear hb2 b0 b1 b2
    have HF2 : Hid (F3 c p k w w2) := F3.of_below (HB1.out.1.trans (HB2.out.mono HB1.out.1.size))
    have HV2 : Hid (Cv w2 c p k W H N F M n) := (HC.out.old HB1.out.1).old HB2.out
    have b1 : w2.cell? ⟨w.heap.size, 1, none⟩ = some (.slice sa S.length sc) := by simp [World.cell?, hbx]
    have b2 : w2.cell? ⟨w.heap.size, 2, none⟩ = some (.slice ca S.length cc) := by simp [World.cell?, hbx]
    have HBX : Hid (w2.heap[w.heap.size]? = some (.cells #[.int .i64 ps, .slice sa S.length sc, .slice ca S.length cc] 35 (0, 0))) := hbx
    clear hbx HB1 HB2
    obtain ⟨al, hal⟩ : ∃ al, S.all (onC W H) = al := ⟨_, rfl⟩
    have HAL : Hid (S.all (onC W H) = al) := hal
    rw [hal]
    clear hal
    cases al with
    | false =>
      have HF : Hid (LayPost w c p k W H N F M n ⟨ps, sa, sc, S, ca, cc, C⟩ (.returned (.int .i64 1)) w2) := LayPost.no (by unfold layE; rw [if_neg (fun q => by rw [HAL.out] at q; exact absurd q.2 (by simp))]) (by decide) HF2.out HV2.out
      clear HF2 HV2 HBX
      go_wp2
      go_ret
      exact HF.out
    | true =>
      have CM := mark_any HV2.out S sa sc (fun w' hf => (HS.out _ (HF2.out.trans hf)).1) o2 o1 HAL.out
      go_wp2_with fail
      refine CM.mono ?_
      clear CM
      rintro e w3 ⟨rfl, hf3, hv3⟩
      have hbx : w3.heap[w.heap.size]? = some (.cells #[.int .i64 ps, .slice sa S.length sc, .slice ca S.length cc] 35 (0, 0)) := (hf3.block _ (lt_of_block HBX.out) (by have := HLT.out; omega) (by have := HLT.out; omega) (by have := HLT.out; omega)).trans HBX.out
      have HF3 : Hid (F3 c p k w w3) := HF2.out.trans hf3
      clear hf3 HF2 HV2 HBX b1 b2
      obtain ⟨fr, hfr⟩ : ∃ fr, frB W M S S.length = fr := ⟨_, rfl⟩
      have HFR : Hid (frB W M S S.length = fr) := hfr
      rw [hfr] at hv3 ⊢
      clear hfr
      cases fr with
      | false =>
        have HF : Hid (LayPost w c p k W H N F M n ⟨ps, sa, sc, S, ca, cc, C⟩ (.returned (.int .i64 10)) w3) := LayPost.no (by unfold layE; rw [if_pos ⟨hcl, HAL.out⟩, HFR.out]; rfl) (by decide) HF3.out hv3
        clear HF3 hv3 hbx
        go_wp2
        go_ret
        exact HF.out
      | true =>
        simp only [if_true] at hv3
        have HV3 : Hid (Cv w3 c p k W H N F (mkM W M S S.length) n) := hv3
        have HBX : Hid (w3.heap[w.heap.size]? = some (.cells #[.int .i64 ps, .slice sa S.length sc, .slice ca S.length cc] 35 (0, 0))) := hbx
        have b1 : w3.cell? ⟨w.heap.size, 1, none⟩ = some (.slice sa S.length sc) := by simp [World.cell?, hbx]
        clear hv3 hbx
        have HCL : Hid (C.length = S.length) := hcl
        clear hcl
        go_wp2
        obtain ⟨L, hL⟩ : ∃ L, S.length = L := ⟨_, rfl⟩
        have HL : Hid (S.length = L) := hL
        rw [hL] at o1 o2 b1 HBX HCL ⊢
        clear hL
        go_loopw [5, 6, 35] (fun _ _ v wr => ∃ i : Nat, i ≤ L ∧ v = .int .i64 i ∧ Hid (F3 c p k w3 wr ∧ Cv wr c p k W H N (pxF W F S C i) (mkM W M S L) n)) (fun _ _ v _ => L - (intOf v).toNat)
        case atStart => exact ⟨0, Nat.zero_le _, rfl, F3.refl _ _ _ _, by rw [← HL.out]; exact HV3.out⟩
        case round =>
          clear b1
          obtain ⟨i, hi, rfl, HB⟩ := hrel
          have hbx : wr.heap[w.heap.size]? = some (.cells #[.int .i64 ps, .slice sa L sc, .slice ca L cc] 35 (0, 0)) := (HB.out.1.block _ (lt_of_block HBX.out) (by have := HLT.out; omega) (by have := HLT.out; omega) (by have := HLT.out; omega)).trans HBX.out
          by_cases hlt : i < L
          · have hlm := HS.out _ (HF3.out.trans HB.out.1)
            have hi' : i < S.length := by have := HL.out; omega
            obtain ⟨b, off, rfl, c0, c1⟩ := hlm.1.at hi'
            obtain ⟨q, qo, rfl, d0, d1, d2, d3⟩ := hlm.2.at (i := i) (by have := HCL.out; omega)
            have hon := all_at HAL.out hi'
            obtain ⟨-, -, -, hI⟩ := HB.out.2.sz.ix hon
            have CH := fun (w1 : World) (hb : Below wr.heap.size wr w1) => cindex_any (HB.out.2.old hb) (spA S i).1 (spA S i).2 hon
            have hN := HB.out.2.sz.m
            have e0 : ixC W ((spA S i).1, (spA S i).2) = ixC W (spA S i) := rfl
            simp only [e0] at CH
            obtain ⟨I, hIe⟩ : ∃ I, I = ixC W (spA S i) := ⟨_, rfl⟩
            have HI : Hid (I = ixC W (spA S i)) := hIe
            rw [← hIe] at CH hI
            clear hIe e0 hon hi' hlm
            generalize (spA S i).1 = x at *
            generalize (spA S i).2 = y at *
            obtain ⟨col, hcol⟩ : ∃ col, coA C i = col := ⟨_, rfl⟩
            have HCO : Hid (coA C i = col) := hcol
            rw [hcol] at d0 d1 d2 d3
            clear hcol
            have b1 : wr.cell? ⟨w.heap.size, 1, none⟩ = some (.slice (some ⟨b, off, none⟩) L sc) := by simp [World.cell?, hbx]
            have b2 : wr.cell? ⟨w.heap.size, 2, none⟩ = some (.slice (some ⟨q, qo, none⟩) L cc) := by simp [World.cell?, hbx]
            have HLB : Hid (w.heap.size < wr.heap.size ∧ q < wr.heap.size) := ⟨lt_of_block hbx, cell_lt d0⟩
            clear hbx
            go_upto_region 8 with fail
            obtain ⟨m0, m1⟩ := two_new wr (.int .i64 x) (.int .i64 y) 58
            have HB2 : Hid (Below wr.heap.size wr (wr.alloc (.cells #[.int .i64 x, .int .i64 y] 58))) := below_new _ _
            have CHD := CH ((wr.alloc (.cells #[.int .i64 x, .int .i64 y] 58)).drew) (HB2.out.trans ⟨rfl, rfl, rfl, Nat.le_refl _, fun _ _ => rfl⟩)
            have oldc : ∀ (bk j : Nat) v, wr.cell? ⟨bk, j, none⟩ = some v → (wr.alloc (.cells #[.int .i64 x, .int .i64 y] 58)).cell? ⟨bk, j, none⟩ = some v := fun bk j v hv => (World.cell?_of_block (a := ⟨bk, j, none⟩) (HB2.out.block bk (cell_lt hv))).trans hv
            have d0 := oldc _ _ _ d0
            have d1 := oldc _ _ _ d1
            have d2 := oldc _ _ _ d2
            have d3 := oldc _ _ _ d3
            have b1 := oldc _ _ _ b1
            have b2 := oldc _ _ _ b2
            clear CH c0 c1 oldc
            generalize wr.alloc (.cells #[.int .i64 x, .int .i64 y] 58) = w4 at *
            have HV : Hid (Cv w4 c p k W H N (pxF W F S C i) (mkM W M S L) n) := HB.out.2.old HB2.out
            obtain ⟨k0, k1, k2, k3, k4, -⟩ := HV.out.cells
            obtain ⟨p0, p1, p2, p3⟩ := HV.out.px.cells hI
            have f0 := HV.out.px.frozen (I * 4)
            have f1 := HV.out.px.frozen (I * 4 + 1)
            have f2 := HV.out.px.frozen (I * 4 + 2)
            have f3 := HV.out.px.frozen (I * 4 + 3)
            have hI0 : (I : Int) < (N : Int) := by omega
            have HFI : Hid (F3 c p k w3 (setPx w4 p I col) ∧ Cv (setPx w4 p I col) c p k W H N (pxF W F S C (i + 1)) (mkM W M S L) n) := by
              refine ⟨HB.out.1.trans ((F3.of_below HB2.out).trans (F3.setPx _ _ _)), ?_⟩
              rw [pxF, ← HI.out, HCO.out]
              exact HV.out.pix hI col
            generalize pxF W F S C i I = pf at *
            obtain ⟨pf1, pf2, pf3, pf4⟩ := pf
            obtain ⟨col1, col2, col3, col4⟩ := col
            simp only at p0 p1 p2 p3 d0 d1 d2 d3
            refine wp_region_still_tail 16 (by kernel_rfl) (by kernel_rfl) ?_
            simp only [List.take_succ_cons, List.take_zero, List.drop_succ_cons, List.drop_zero]
            rw [show ({ w4 with drawn := w4.drawn + 1 } : World) = w4.drew from rfl]
            repeat still_step
            still_call CHD
            repeat still_step
            refine wpStill_nil ?_
            go_wp2
            go_roundw
            case rel =>
              refine ⟨i + 1, by omega, by go_num, HFI.out.1.trans (F3.of_below ⟨rfl, rfl, rfl, Nat.le_refl _, fun _ _ => rfl⟩), HFI.out.2.same rfl rfl rfl⟩
            case measure => simp [intOf]; omega
          · obtain rfl : i = L := by omega
            obtain ⟨k0, k1, k2, k3, k4, k5⟩ := HB.out.2.cells
            have b1 : wr.cell? ⟨w.heap.size, 1, none⟩ = some (.slice sa i sc) := by simp [World.cell?, hbx]
            have HE : Hid (LayPost w c p k W H N F M n ⟨ps, sa, sc, S, ca, cc, C⟩ (.returned (.int .i64 0)) (wr.setCell ⟨c, 4, none⟩ (.int .i64 (n + i))).drew) := by
              have he : layE W H M S C.length = 0 := by unfold layE; rw [if_pos ⟨by rw [HCL.out, HL.out], HAL.out⟩, HFR.out]; rfl
              unfold LayPost layF layM layN
              simp only [he, if_true]
              refine ⟨trivial, HF3.out.trans (HB.out.1.trans ((F3.set wr c 4 _ (.inl rfl)).trans (F3.of_below (below_drew _)))), ?_⟩
              rw [HL.out]
              exact (HB.out.2.count _).same rfl rfl rfl
            clear hbx
            go_upto_region 10 with fail
            refine wp_region_still_tail 10 (by kernel_rfl) (by kernel_rfl) ?_
            simp only [List.take_succ_cons, List.take_zero, List.drop_succ_cons, List.drop_zero]
            rw [show ({ wr with drawn := wr.drawn + 1 } : World) = wr.drew from rfl]
            repeat still_step
            refine wpStill_nil ?_
            go_wp2
            go_ret
            exact HE.out
  · have hne : ¬ (C.length : Int) = (S.length : Int) := by omega
    have hne2 : ((C.length : Int) == (S.length : Int)) = false := by simp; omega
    have hne3 : ((C.length : Int) != (S.length : Int)) = true := by simp; omega
    have HF : Hid (LayPost w c p k W H N F M n ⟨ps, sa, sc, S, ca, cc, C⟩ (.returned (.int .i64 1)) w1) := by
      exact LayPost.no (by unfold layE; rw [if_neg (fun q => hcl q.1)]) (by decide) (F3.of_below HB1.out.1) (HC.out.old HB1.out.1)
    rw [← hw1] at HF b0 b1 b2
    clear hw1 HB1
    go_enter Try.func12, Try.ntmps12
    go_wp2
    go_ret
    exact HF.out
end Go.Proofs.Ytjheipfcehddhaa
