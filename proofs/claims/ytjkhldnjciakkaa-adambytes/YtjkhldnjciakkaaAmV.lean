/- The law AdamBytes, walked. -/
import Derived.Test.YtjkhldnjciakkaaAmU
namespace Go.Proofs.Ytjkhldnjciakkaa
open Go.ChangeShapes Go.WideShapes Go.ChangeAt Go.RowKit
/-- A line's bytes. -/
def fkB (sa D : Int) (k : Int × List Int) : Int := 1 + (((k.2.length / 2 : Nat) : Int) * sa * D + 7) / 8
def sumK (f : Int × List Int → Int) (ks : List (Int × List Int)) : Int := (ks.map f).sum
theorem sumK_append (f : Int × List Int → Int) (a b : List (Int × List Int)) : sumK f (a ++ b) = sumK f a + sumK f b := by simp [sumK, List.sum_append]
theorem sumK_one (f : Int × List Int → Int) (k : Int × List Int) : sumK f [k] = f k := by simp [sumK]
theorem sumK_rows (sa D : Int) (L : List Stp) (W H : Int) (i n : Nat) : sumK (fkB sa D) ((List.range n).map fun r => (((i : Int) + 1), lnS L W H i r)) = (n : Int) * (1 + ((wNt L W H i : Int) * sa * D + 7) / 8) := by
  induction n with
  | zero => simp [sumK]
  | succ n ih =>
    rw [rows_more, sumK_append, ih, sumK_one, fkB]
    have e : (lnS L W H i n).length / 2 = wNt L W H i := by unfold lnS; rw [spL_len]; omega
    simp only [e]
    rw [Int.natCast_add, Int.add_mul]; simp
theorem bytes_lines {L : List Stp} (hL : ∀ p ∈ L, p.ok) (W H sa D : Int) : sumF (bytAt L W H sa D) (psN L W H) = sumK (fkB sa D) (lnsL L W H) := by
  unfold lnsL
  by_cases hp : picN W H
  · have : ∀ n : Nat, sumF (bytAt L W H sa D) n = sumK (fkB sa D) (lnsI L W H n) := by
      intro n
      induction n with
      | zero => rfl
      | succ n ih =>
        have h1 := hig_bd (stAt_ok hL n) (w := W) (h := H) hp.2.2.2.1
        have h2 := wid_bd (stAt_ok hL n) (w := W) (h := H) hp.2.1
        have e1 : (hNt L W H n : Int) = higAt L W H n := by unfold hNt higAt; omega
        have e2 : (wNt L W H n : Int) = widAt L W H n := by unfold wNt widAt; omega
        rw [sumF, lnsI, sumK_append, ih, sumK_rows, e1, e2]; rfl
    exact this _
  · unfold psN; rw [if_neg hp]; rfl
set_option maxHeartbeats 800000 in
theorem rbytes_no (W H C D : Int) (b : Bool) (sa : Int) (w : World) (h : ¬ (1 ≤ sa ∧ sa ≤ 4 ∧ 1 ≤ D ∧ D ≤ 16)) : Calls Try.prog 18 #[HeV W H C D b, .int .i64 sa] w fun e w' => e = .returned (.int .i64 0) ∧ Below w.heap.size w w' := by
  have HP : Hid (Below w.heap.size w (w.alloc (.cells #[.int .i64 W, .int .i64 H, .int .i64 C, .int .i64 D, .bool b] 33))) := (Below.refl _ w).alloc (Nat.le_refl _) _
  unfold HeV
  rcases (show sa < 1 ∨ (1 ≤ sa ∧ 4 < sa) ∨ (1 ≤ sa ∧ sa ≤ 4 ∧ D < 1) ∨ (1 ≤ sa ∧ sa ≤ 4 ∧ 1 ≤ D ∧ 16 < D) by omega) with h | h | h | h
  all_goals
    go_enter Try.func18, Try.ntmps18
    go_wp2
    go_ret
    exact ⟨rfl, HP.out⟩
theorem fk_bd {sa D : Int} (h1 : 1 ≤ sa) (h2 : sa ≤ 4) (h3 : 1 ≤ D) (h4 : D ≤ 16) (n : Nat) (hn : n ≤ 2048) : (0 ≤ (n : Int) * sa ∧ (n : Int) * sa ≤ 8192) ∧ (0 ≤ (n : Int) * sa * D ∧ (n : Int) * sa * D ≤ 131072) := by
  have c0 : 0 ≤ (n : Int) * sa := Int.mul_nonneg (by omega) (by omega)
  have c1 : (n : Int) * sa ≤ 2048 * 4 := Int.mul_le_mul (by omega) h2 (by omega) (by omega)
  generalize (n : Int) * sa = P at *
  have d0 : 0 ≤ P * D := Int.mul_nonneg c0 (by omega)
  have d1 : P * D ≤ 8192 * 16 := Int.mul_le_mul c1 h4 (by omega) (by omega)
  omega
theorem sumK_bd {f : Int × List Int → Int} {B : Int} : ∀ (ks : List (Int × List Int)), (∀ k ∈ ks, 0 ≤ f k ∧ f k ≤ B) → 0 ≤ sumK f ks ∧ sumK f ks ≤ ks.length * B
  | [], _ => by simp [sumK]
  | k :: ks, h => by
    have h1 := sumK_bd ks (fun q hq => h q (by simp [hq]))
    have h2 := h k (by simp)
    rw [show k :: ks = [k] ++ ks from rfl, sumK_append, sumK_one, List.length_append, Int.natCast_add, Int.add_mul]
    simp
    omega
set_option maxHeartbeats 3200000 in
theorem rbytes_yes (W H C D : Int) (b : Bool) (sa : Int) (w : World) (h1 : 1 ≤ sa) (h2 : sa ≤ 4) (h3 : 1 ≤ D) (h4 : D ≤ 16) : Calls Try.prog 18 #[HeV W H C D b, .int .i64 sa] w fun e w' => e = .returned (.int .i64 (sumK (fkB sa D) (lnsL (pngOf b) W H))) ∧ Below w.heap.size w w' := by
  have HL : Hid ((lnsL (pngOf b) W H).length ≤ 20000) := lnsL_bd (pngOf_ok b) (by cases b <;> decide) W H
  have CL := fun w => rlines_any W H b w
  generalize lnsL (pngOf b) W H = K at *
  unfold HeV
  have HW : Hid (Below w.heap.size w (w.alloc (.cells #[.int .i64 W, .int .i64 H, .int .i64 C, .int .i64 D, .bool b] 33)) ∧ (w.alloc (.cells #[.int .i64 W, .int .i64 H, .int .i64 C, .int .i64 D, .bool b] 33)).heap[w.heap.size]? = some (.cells #[.int .i64 W, .int .i64 H, .int .i64 C, .int .i64 D, .bool b] 33 (0, 0))) := ⟨(Below.refl _ w).alloc (Nat.le_refl _) _, World.alloc_heap_new w _⟩
  go_enter Try.func18, Try.ntmps18
  go_wp2_with fail
  generalize w.alloc (.cells #[.int .i64 W, .int .i64 H, .int .i64 C, .int .i64 D, .bool b] 33) = wa at *
  refine (CL wa).mono ?_
  clear CL
  rintro e w2 ⟨a, c, es, rfl, m1, k1, hb2⟩
  have H2 : Hid (Below w.heap.size w w2 ∧ w2.heap[w.heap.size]? = some (.cells #[.int .i64 W, .int .i64 H, .int .i64 C, .int .i64 D, .bool b] 33 (0, 0)) ∧ LsR w2 a es ∧ es.map Le.key = K) :=
    ⟨HW.out.1.trans (hb2.mono HW.out.1.size), (hb2.block _ (lt_of_block HW.out.2)).trans HW.out.2, m1.read, k1⟩
  have hl : es.length ≤ 20000 := by have := congrArg List.length k1; rw [List.length_map] at this; have := HL.out; omega
  clear m1 k1 hb2 HW
  obtain ⟨EL, hEL⟩ : ∃ EL, es.length = EL := ⟨_, rfl⟩
  have HEL : Hid (es.length = EL) := hEL
  rw [hEL] at hl ⊢
  clear hEL
  go_wp2
  go_loopw [5, 32] (fun v5 v32 wr => ∃ i : Nat, i ≤ EL ∧ v32 = .int .i64 i ∧ v5 = .int .i64 (sumK (fkB sa D) ((es.take i).map Le.key)) ∧ Hid (Below w2.heap.size w2 wr)) (fun _ v32 _ => EL - (intOf v32).toNat)
  case atStart => exact ⟨0, Nat.zero_le _, rfl, by simp [sumK], Below.refl _ _⟩
  case round =>
    obtain ⟨i, hi, rfl, rfl, HB⟩ := hrel
    have hbdn : ∀ e ∈ es, e.L.length = 2 * e.n ∧ e.n ≤ 2048 := fun e he => ⟨(H2.out.2.2.1.1 e he).1, (H2.out.2.2.1.1 e he).2.1⟩
    have hfk : ∀ e ∈ es, 0 ≤ fkB sa D e.key ∧ fkB sa D e.key ≤ 20000 := fun e he => by
      have h := hbdn e he
      have q := fk_bd h1 h2 h3 h4 e.n h.2
      unfold fkB Le.key
      simp only [h.1]
      rw [show 2 * e.n / 2 = e.n by omega]
      omega
    have hs := sumK_bd (f := fkB sa D) (B := 20000) ((es.take i).map Le.key) (fun k hk => by
      obtain ⟨e, he, rfl⟩ := List.mem_map.1 hk
      exact hfk e (List.mem_of_mem_take he))
    have hs2 : 0 ≤ sumK (fkB sa D) ((es.take i).map Le.key) ∧ sumK (fkB sa D) ((es.take i).map Le.key) ≤ 400000000 := by
      have : ((es.take i).map Le.key).length ≤ 20000 := by rw [List.length_map, List.length_take]; omega
      omega
    clear hs
    by_cases hlt : i < EL
    · obtain ⟨e, he⟩ : ∃ e, es[i]? = some e := ⟨_, List.getElem?_eq_getElem (by rw [HEL.out]; exact hlt)⟩
      have hme := List.mem_of_getElem? he
      obtain ⟨B, off, rfl, k1, k2, k3, k4, -⟩ := (H2.out.2.2.1.old HB.out).at he
      have HNX : Hid (sumK (fkB sa D) ((es.take (i + 1)).map Le.key) = sumK (fkB sa D) ((es.take i).map Le.key) + (1 + ((e.n : Int) * sa * D + 7) / 8)) := by
        show _ = _
        rw [take_more he, List.map_append, sumK_append]
        show _ + sumK (fkB sa D) [e.key] = _
        rw [sumK_one]
        unfold fkB Le.key
        simp only [k3]
        rw [show 2 * e.n / 2 = e.n by omega]
      have hbd := fk_bd h1 h2 h3 h4 e.n k4
      have hhb := (HB.out.block _ (lt_of_block H2.out.2.1)).trans H2.out.2.1
      have q0 := (five_cells hhb).2.2.1
      have hlth : w.heap.size < wr.heap.size := lt_of_block hhb
      clear hfk hbdn he hme k3 hhb
      generalize sumK (fkB sa D) ((es.take i).map Le.key) = S at *
      obtain ⟨P, A, M, C', L⟩ := e
      simp only at k1 k2 k4 hbd HNX
      obtain ⟨⟨a0, a1⟩, ⟨b0, b1⟩⟩ := hbd
      obtain ⟨P1, hP1⟩ : ∃ P1, (M : Int) * sa = P1 := ⟨_, rfl⟩
      rw [hP1] at a0 a1 b0 b1 HNX
      obtain ⟨P2, hP2⟩ : ∃ P2, P1 * D = P2 := ⟨_, rfl⟩
      rw [hP2] at b0 b1 HNX
      have hQ : (P2 + 7).tdiv 8 = (P2 + 7) / 8 := Int.tdiv_eq_ediv_of_nonneg (by omega)
      obtain ⟨Q, hQ2⟩ : ∃ Q, (P2 + 7) / 8 = Q := ⟨_, rfl⟩
      rw [hQ2] at hQ HNX
      have hQb : 0 ≤ Q ∧ Q ≤ 16386 := by omega
      clear hQ2
      have HB2 : Hid (Below w2.heap.size w2 (wr.alloc (.cells #[.int .i64 P, .slice A M C'] 43))) := HB.out.trans (((Below.refl _ wr).alloc (Nat.le_refl _) _).mono HB.out.size)
      have q0' : (wr.alloc (.cells #[.int .i64 P, .slice A M C'] 43)).cell? ⟨w.heap.size, 3, none⟩ = some (.int .i64 D) := by
        rw [World.cell?_of_block (a := ⟨w.heap.size, 3, none⟩) (Below.heap_alloc _ _ _ (by show w.heap.size < wr.heap.size; exact hlth))]; exact q0
      clear HB hlth
      go_wp2
      go_roundw
      case rel => exact ⟨i + 1, hlt, by go_num, by rw [HNX.out]; congr 1; omega, HB2⟩
      case measure => simp [intOf]; omega
    · obtain rfl : i = EL := by omega
      have HF : Hid (sumK (fkB sa D) ((es.take i).map Le.key) = sumK (fkB sa D) K ∧ Below w.heap.size w wr) := by
        refine ⟨?_, H2.out.1.trans (HB.out.mono H2.out.1.size)⟩
        rw [← HEL.out, List.take_length, H2.out.2.2.2]
      rw [HF.out.1]
      clear hfk hbdn hs2
      go_wp2
      go_ret
      exact ⟨rfl, HF.out.2⟩
/-- What is known of a head that came in. -/
def HdWA (W H C D : Int) : Prop := (Lit.int .i64 W).wf = true ∧ (Lit.int .i64 H).wf = true ∧ (Lit.int .i64 C).wf = true ∧ (Lit.int .i64 D).wf = true
theorem Try.cellsHdA : Try.prog.cellsOf 33 = 5 := by kernel_rfl
theorem array5A {cs : Array Value} (h : cs.size = 5) : ∃ v0 v1 v2 v3 v4, cs = #[v0, v1, v2, v3, v4] := by
  obtain ⟨l⟩ := cs
  match l, h with
  | [v0, v1, v2, v3, v4], _ => exact ⟨v0, v1, v2, v3, v4, rfl⟩
theorem open_headA {H : Type} {enc : TypeId × Value → H} {W : World} {r : Reach} {b0 : Nat} {v : Value} {d : DataW H} {p : List MemPlace} (hv : Value.okWide Try.prog W r b0 33 v) (h : DataW.Trod enc Try.prog W 0 (fun _ => true) true 33 v d p) :
    ∃ VW VH VC VD VL, v = HeV VW VH VC VD VL ∧ HdWA VW VH VC VD := by
  obtain ⟨cs, rfl, hsz⟩ := okWide_struct Try.underlying33 hv
  obtain ⟨v0, v1, v2, v3, v4, rfl⟩ := array5A (hsz.trans Try.cellsHdA)
  obtain ⟨fuel, hf⟩ := h
  obtain ⟨xs, n, _, _, _, hlen, hel⟩ := DataW.trod_struct Try.underlying33 hf
  have c3 : Try.prog.cellsOf 3 = 1 := by kernel_rfl
  have c4 : Try.prog.cellsOf 4 = 1 := by kernel_rfl
  have hl5 : xs.length = 5 := hlen
  have q (i : Nat) (hi : i < 5) : ∃ y, xs[i]? = some y := ⟨_, List.getElem?_eq_getElem (by omega)⟩
  obtain ⟨y0, e0⟩ := q 0 (by omega)
  obtain ⟨y1, e1⟩ := q 1 (by omega)
  obtain ⟨y2, e2⟩ := q 2 (by omega)
  obtain ⟨y3, e3⟩ := q 3 (by omega)
  obtain ⟨y4, e4⟩ := q 4 (by omega)
  have h0 := hel 0 _ rfl
  have h1 := hel 1 _ rfl
  have h2 := hel 2 _ rfl
  have h3 := hel 3 _ rfl
  have h4 := hel 4 _ rfl
  rw [e0] at h0
  rw [e1] at h1
  rw [e2] at h2
  rw [e3] at h3
  rw [e4] at h4
  obtain ⟨k0, g0, _, w0⟩ := DataW.trod_int Try.underlying3 h0
  obtain ⟨k1, g1, _, w1⟩ := DataW.trod_int Try.underlying3 h1
  obtain ⟨k2, g2, _, w2⟩ := DataW.trod_int Try.underlying3 h2
  obtain ⟨k3, g3, _, w3⟩ := DataW.trod_int Try.underlying3 h3
  obtain ⟨k4, g4, _⟩ := DataW.trod_bool Try.underlying4 h4
  simp [Value.cells, c3, c4] at g0 g1 g2 g3 g4
  subst g0 g1 g2 g3 g4
  exact ⟨k0, k1, k2, k3, k4, rfl, w0, w1, w2, w3⟩
set_option maxHeartbeats 1600000 in
theorem abytes_walk (W H C D : Int) (b : Bool) (sa : Int) (w : World) (_ : HdWA W H C D) (_ : (Lit.int .i64 sa).wf = true) :
    Calls Try.prog 5 #[HeV W H C D b, .int .i64 sa] w fun e w' => e = .returned (.bool true) ∧ Below w.heap.size w w' := by
  obtain ⟨X, HX1, HX2⟩ : ∃ X : Int, (∀ u, Calls Try.prog 17 #[HeV W H C D b, .int .i64 sa] u fun e u' => e = .returned (.int .i64 X) ∧ Below u.heap.size u u') ∧ (∀ u, Calls Try.prog 18 #[HeV W H C D b, .int .i64 sa] u fun e u' => e = .returned (.int .i64 X) ∧ Below u.heap.size u u') := by
    by_cases h : 1 ≤ sa ∧ sa ≤ 4 ∧ 1 ≤ D ∧ D ≤ 16
    · refine ⟨_, fun u => bytes_yes W H C D b sa u h.1 h.2.1 h.2.2.1 h.2.2.2, fun u => ?_⟩
      rw [bytes_lines (pngOf_ok b)]
      exact rbytes_yes W H C D b sa u h.1 h.2.1 h.2.2.1 h.2.2.2
    · exact ⟨0, fun u => bytes_no W H C D b sa u h, fun u => rbytes_no W H C D b sa u h⟩
  unfold HeV at *
  have HW : Hid (Below w.heap.size w (w.alloc (.cells #[.int .i64 W, .int .i64 H, .int .i64 C, .int .i64 D, .bool b] 33)) ∧ (w.alloc (.cells #[.int .i64 W, .int .i64 H, .int .i64 C, .int .i64 D, .bool b] 33)).heap[w.heap.size]? = some (.cells #[.int .i64 W, .int .i64 H, .int .i64 C, .int .i64 D, .bool b] 33 (0, 0))) := ⟨(Below.refl _ w).alloc (Nat.le_refl _) _, World.alloc_heap_new w _⟩
  go_enter Try.func5, Try.ntmps5
  go_wp2_with fail
  generalize w.alloc (.cells #[.int .i64 W, .int .i64 H, .int .i64 C, .int .i64 D, .bool b] 33) = wa at *
  refine (afixed_any wa).mono ?_
  rintro e wn ⟨rfl, hb1⟩
  have HN : Hid (Below w.heap.size w wn ∧ wn.heap[w.heap.size]? = some (.cells #[.int .i64 W, .int .i64 H, .int .i64 C, .int .i64 D, .bool b] 33 (0, 0))) := ⟨HW.out.1.trans (hb1.mono HW.out.1.size), (hb1.block _ (lt_of_block HW.out.2)).trans HW.out.2⟩
  clear hb1 HW
  have five : ∀ u, Below wn.heap.size wn u → u.cell? ⟨w.heap.size, 0, none⟩ = some (.int .i64 W) ∧ u.cell? ⟨w.heap.size, 1, none⟩ = some (.int .i64 H) ∧ u.cell? ⟨w.heap.size, 2, none⟩ = some (.int .i64 C) ∧ u.cell? ⟨w.heap.size, 3, none⟩ = some (.int .i64 D) ∧ u.cell? ⟨w.heap.size, 4, none⟩ = some (.bool b) := fun u hu => by
    have hh := (hu.block _ (lt_of_block HN.out.2)).trans HN.out.2
    refine ⟨?_, ?_, ?_, ?_, ?_⟩ <;> simp [World.cell?, hh]
  have hwd : Below wn.heap.size wn wn.drew := ⟨rfl, rfl, rfl, Nat.le_refl _, fun _ _ => rfl⟩
  obtain ⟨d0, d1, d2, d3, d4⟩ := five _ hwd
  have HC1 : Hid (∀ u, Below wn.heap.size wn u → Calls Try.prog 17 #[.agg #[.int .i64 W, .int .i64 H, .int .i64 C, .int .i64 D, .bool b], .int .i64 sa] u fun e u' => e = .returned (.int .i64 X) ∧ Hid (Below wn.heap.size wn u') ∧ u'.cell? ⟨w.heap.size, 0, none⟩ = some (.int .i64 W) ∧ u'.cell? ⟨w.heap.size, 1, none⟩ = some (.int .i64 H) ∧ u'.cell? ⟨w.heap.size, 2, none⟩ = some (.int .i64 C) ∧ u'.cell? ⟨w.heap.size, 3, none⟩ = some (.int .i64 D) ∧ u'.cell? ⟨w.heap.size, 4, none⟩ = some (.bool b)) := fun u hu => by
    refine (HX1 u).mono ?_
    rintro e u' ⟨rfl, hb⟩
    have hb2 := hu.trans (hb.mono hu.size)
    exact ⟨rfl, hb2, five _ hb2⟩
  have HC2 : Hid (∀ u, Below wn.heap.size wn u → Calls Try.prog 18 #[.agg #[.int .i64 W, .int .i64 H, .int .i64 C, .int .i64 D, .bool b], .int .i64 sa] u fun e u' => e = .returned (.int .i64 X) ∧ Hid (Below wn.heap.size wn u') ∧ u'.cell? ⟨w.heap.size, 0, none⟩ = some (.int .i64 W) ∧ u'.cell? ⟨w.heap.size, 1, none⟩ = some (.int .i64 H) ∧ u'.cell? ⟨w.heap.size, 2, none⟩ = some (.int .i64 C) ∧ u'.cell? ⟨w.heap.size, 3, none⟩ = some (.int .i64 D) ∧ u'.cell? ⟨w.heap.size, 4, none⟩ = some (.bool b)) := fun u hu => by
    refine (HX2 u).mono ?_
    rintro e u' ⟨rfl, hb⟩
    have hb2 := hu.trans (hb.mono hu.size)
    exact ⟨rfl, hb2, five _ hb2⟩
  have HWD : Hid (Below wn.heap.size wn wn.drew) := hwd
  clear five hwd HX1 HX2
  go_upto_region 3 with fail
  go_region_held3 (fun u => u.cell? ⟨w.heap.size, 0, none⟩ = some (.int .i64 W) ∧ u.cell? ⟨w.heap.size, 1, none⟩ = some (.int .i64 H) ∧ u.cell? ⟨w.heap.size, 2, none⟩ = some (.int .i64 C) ∧ u.cell? ⟨w.heap.size, 3, none⟩ = some (.int .i64 D) ∧ u.cell? ⟨w.heap.size, 4, none⟩ = some (.bool b)) (first | exact ⟨by assumption, by assumption, by assumption, by assumption, by assumption⟩ | go_keep) (first
    | (go_at_call 18; refine Calls.mono (HC2.out _ hj1.out) ?_; rintro e w2 ⟨rfl, hj2, s0, s1, s2, s3, s4⟩)
    | (go_at_call 17; refine Calls.mono (HC1.out _ HWD.out) ?_; rintro e w1 ⟨rfl, hj1, r0, r1, r2, r3, r4⟩)
    | fail)
  have HF : Hid (Below w.heap.size w w2) := HN.out.1.trans (hj2.out.mono HN.out.1.size)
  clear HC1 HC2 hj1 hj2
  go_wp2
  go_ret
  exact ⟨rfl, HF.out⟩
end Go.Proofs.Ytjkhldnjciakkaa
