/- The document's lines. -/
import Derived.Test.YtjkhldnjciakkaaAmP
import Derived.Test.YtjkhldnjciakkaaAmN
namespace Go.Proofs.Ytjkhldnjciakkaa
open Go.RowKit
theorem LsM.next {B : Nat} {w wr w1 w7 : World} {v v7 : Value} {es : List Le} {e : Le} {va : Array Value} (h : LsM B wr v es) (hb1 : Below wr.heap.size wr w1) (he : SpIn wr.heap.size w1 e) (hB : B ≤ wr.heap.size) (hw : Below B w wr)
    (h7 : w7.ownsRow B 43 2 v7 (es.length + 1) (leF es ++ e.enc)) (hg : (w1.alloc (.cells va 43)).grownBy w7 v.ownBlock) :
    LsM B w7 v7 (es ++ [e]) ∧ Below B w w7 ∧ ∀ (j : Nat) c t, wr.heap[j]? = some (.cells c t (0, 0)) → t ≠ 43 → w7.heap[j]? = some (.cells c t (0, 0)) := by
  have hba : Below w1.heap.size w1 (w1.alloc (.cells va 43)) := (Below.refl _ w1).alloc (Nat.le_refl _) _
  have h2 := (h.old hb1).old hba
  have b1 := hw.trans (hb1.mono hB)
  have b2 := b1.trans (hba.mono (by have := hb1.size; omega))
  refine ⟨h2.push h7 hg ((he.mono hB).same fun g cur _ hq => (hba.block g (lt_of_block hq)).trans hq), b2.grown hg (by have := hb1.size; simp; omega) (fun j hj => (h2.tag hj).1), ?_⟩
  intro j c t hj ht
  have hj2 := (hba.block j (by have := lt_of_block hj; have := hb1.size; omega)).trans ((hb1.block j (lt_of_block hj)).trans hj)
  refine (hg.block j (lt_of_block hj2) (fun hb => ?_)).trans hj2
  obtain ⟨-, c2, e2⟩ := h2.tag hb.symm
  rw [hj2] at e2
  simp only [Option.some.injEq, Obj.cells.injEq] at e2
  exact ht e2.2.1
/-- Lines so far, in a variable. -/
def LvI (w : World) (ks : List (Int × List Int)) (v : Value) (wr : World) : Prop := ∃ es, LsM w.heap.size wr v es ∧ es.map Le.key = ks ∧ Below w.heap.size w wr
theorem LvI.post {w wr : World} {ks : List (Int × List Int)} {v : Value} (h : LvI w ks v wr) : GlPost w ks (.returned v) wr := by
  obtain ⟨es, h1, h2, h3⟩ := h
  obtain ⟨a, c, rfl, _⟩ := h1.shape
  exact ⟨a, c, es, rfl, h1, h2, h3⟩
theorem hN_iff {L : List Stp} (hL : ∀ p ∈ L, p.ok) {W H : Int} (hW : W ≤ 2048) (hH : H ≤ 2048) (i r : Nat) : r < hNt L W H i ↔ ((stAt L i).y + (r : Int) * (stAt L i).dy < H ∧ (stAt L i).x < W) := by
  have hok := stAt_ok hL i
  have h1 := plc_iff (f := (stAt L i).y) (s := (stAt L i).dy) (e := H) hok.2.2.2.2.2.2.1 r
  have h2 := plc_iff (f := (stAt L i).x) (s := (stAt L i).dx) (e := W) hok.2.2.2.2.1 0
  have b1 := plc_bd (f := (stAt L i).x) (s := (stAt L i).dx) (e := W) hok.1 hok.2.2.2.2.1 hW
  have b2 := plc_bd (f := (stAt L i).y) (s := (stAt L i).dy) (e := H) hok.2.2.1 hok.2.2.2.2.2.2.1 hH
  simp at h2
  rw [h1, h2]
  unfold hNt higAt hig
  split <;> omega
theorem wNt_eq {L : List Stp} {W H : Int} {i r : Nat} (hr : r < hNt L W H i) : wNt L W H i = (plc (stAt L i).x (stAt L i).dx W).toNat := by
  unfold hNt higAt hig at hr
  unfold wNt widAt wid
  by_cases h : 0 < plc (stAt L i).x (stAt L i).dx W ∧ 0 < plc (stAt L i).y (stAt L i).dy H
  · rw [if_pos h]
  · rw [if_neg h] at hr; simp at hr
theorem rows_more (L : List Stp) (W H : Int) (i r : Nat) : (List.range (r + 1)).map (fun r => (((i : Int) + 1), lnS L W H i r)) = (List.range r).map (fun r => (((i : Int) + 1), lnS L W H i r)) ++ [(((i : Int) + 1), lnS L W H i r)] := by
  rw [List.range_succ, List.map_append]; rfl
theorem grid_world {w : World} (p : Stp) : (w.alloc (.cells #[.int .i64 p.x, .int .i64 p.y, .int .i64 p.dx, .int .i64 p.dy] 51)).heap[w.heap.size]? = some (.cells #[.int .i64 p.x, .int .i64 p.y, .int .i64 p.dx, .int .i64 p.dy] 51 (0, 0)) := World.alloc_heap_new w _
set_option maxHeartbeats 3200000 in
theorem rlines_laced (W H : Int) (w : World) (hp : picN W H) : Calls Try.prog 11 #[.int .i64 W, .int .i64 H, .bool true] w fun e w' => GlPost w (lnsI pngL W H 7) e w' := by
  obtain ⟨p1, p2, p3, p4, p5⟩ := hp
  have CS := rsized_any W H w
  rw [decide_eq_true (show picN W H from ⟨p1, p2, p3, p4, p5⟩)] at CS
  obtain ⟨i0, hi0, hz0, hz1, hz2⟩ := info_parts Try.infoLn
  have HS : Hid (LvI w (lnsI pngL W H 0) (.slice none 0 0) w) := ⟨[], LsM.nil _ _, rfl, Below.refl _ _⟩
  have HOK : Hid (∀ i, (stAt pngL i).ok) := fun i => stAt_ok (pngOf_ok true) i
  have HN : Hid (∀ i r, r < hNt pngL W H i ↔ ((stAt pngL i).y + (r : Int) * (stAt pngL i).dy < H ∧ (stAt pngL i).x < W)) := fun i r => hN_iff (pngOf_ok true) p2 p4 i r
  have HPP : Hid (picN W H) := ⟨p1, p2, p3, p4, p5⟩
  clear p5
  go_enter Try.func11, Try.ntmps11
  go_wp2_with fail
  refine CS.mono ?_
  rintro e w1 ⟨rfl, rfl⟩
  clear CS
  go_wp2
  go_loopw [7, 9] (fun v7 v9 wr => ∃ i : Nat, i ≤ 7 ∧ v9 = .int .i64 ((i : Int) + 1) ∧ Hid (LvI w1 (lnsI pngL W H i) v7 wr)) (fun _ v9 _ => 8 - (intOf v9).toNat)
  case atStart => exact ⟨0, by omega, rfl, HS⟩
  case round =>
    clear HS
    obtain ⟨i, hi, rfl, HI⟩ := hrel
    by_cases hlt : i < 7
    · have hlti : (i : Int) + 1 ≤ 7 := by omega
      have CG := grid_any i wr hlt
      have hok := HOK.out i
      have HNi : Hid (∀ r, r < hNt pngL W H i ↔ ((stAt pngL i).y + (r : Int) * (stAt pngL i).dy < H ∧ (stAt pngL i).x < W)) := HN.out i
      have HWi : Hid (∀ r, r < hNt pngL W H i → lnS pngL W H i r = spL (stAt pngL i).x (stAt pngL i).dx ((stAt pngL i).y + (r : Int) * (stAt pngL i).dy) (plc (stAt pngL i).x (stAt pngL i).dx W).toNat) := fun r hr => by unfold lnS; rw [wNt_eq hr]
      unfold gdV at CG
      have HNX : Hid (lnsI pngL W H (i + 1) = lnsI pngL W H i ++ (List.range (hNt pngL W H i)).map fun r => (((i : Int) + 1), lnS pngL W H i r)) := rfl
      have HLb : Hid ((lnsI pngL W H (i + 1)).length ≤ 20000) := by
        show _ ≤ _
        rw [lnsI_len]
        have := lnN_bd (pngOf_ok true) (by decide) W H
        have hpp := HPP.out
        have e : lnN pngL W H = bsN (hNt pngL W H) 7 := by unfold lnN psN; rw [if_pos hpp]; rfl
        have := bsN_le (hNt pngL W H) (show i + 1 ≤ 7 by omega)
        have h2 : lnN (pngOf true) W H = lnN pngL W H := rfl
        omega
      generalize stAt pngL i = p at *
      obtain ⟨x, y, dx, dy⟩ := p
      simp only at *
      obtain ⟨q0, q1, q2, q3, q4, q5, q6, q7⟩ := hok
      simp only at q0 q1 q2 q3 q4 q5 q6 q7
      have HKd : Hid (∀ k : Nat, (k : Int) ≤ 2048 → 0 ≤ (k : Int) * dy ∧ (k : Int) * dy ≤ 20000) := fun k hk => ⟨Int.mul_nonneg (by omega) (by omega), by have : (k : Int) * dy ≤ 2048 * 8 := Int.mul_le_mul hk (by omega) (by omega) (by omega); omega⟩
      go_wp2_with fail
      refine CG.mono ?_
      clear CG
      rintro e w2 ⟨rfl, hb2⟩
      have HI2 : Hid (LvI w1 (lnsI pngL W H i) u7 (w2.alloc (.cells #[.int .i64 x, .int .i64 y, .int .i64 dx, .int .i64 dy] 51)) ∧ (w2.alloc (.cells #[.int .i64 x, .int .i64 y, .int .i64 dx, .int .i64 dy] 51)).heap[w2.heap.size]? = some (.cells #[.int .i64 x, .int .i64 y, .int .i64 dx, .int .i64 dy] 51 (0, 0))) := by
        obtain ⟨es, h1, h2, h3⟩ := HI.out
        have hba : Below w2.heap.size w2 (w2.alloc (.cells #[.int .i64 x, .int .i64 y, .int .i64 dx, .int .i64 dy] 51)) := (Below.refl _ w2).alloc (Nat.le_refl _) _
        have b1 := h3.trans (hb2.mono h3.size)
        exact ⟨⟨es, (h1.old hb2).old hba, h2, b1.trans (hba.mono b1.size)⟩, World.alloc_heap_new w2 _⟩
      clear hb2 HI
      go_upto_region 14 with fail
      generalize w2.alloc (.cells #[.int .i64 x, .int .i64 y, .int .i64 dx, .int .i64 dy] 51) = w3 at *
      generalize w2.heap.size = gb at *
      obtain ⟨g0, g1, g2, g3⟩ := four_cells HI2.out.2
      go_wp2
      go_loopw [7, 11] (fun v7 v11 wr => ∃ r : Nat, r ≤ hNt pngL W H i ∧ v11 = .int .i64 (y + (r : Int) * dy) ∧ Hid (LvI w1 (lnsI pngL W H i ++ (List.range r).map fun r => (((i : Int) + 1), lnS pngL W H i r)) v7 wr ∧ wr.heap[gb]? = some (.cells #[.int .i64 x, .int .i64 y, .int .i64 dx, .int .i64 dy] 51 (0, 0)))) (fun _ v11 _ => (H - intOf v11).toNat)
      case atStart => exact ⟨0, Nat.zero_le _, by simp, ⟨by rw [List.range_zero, List.map_nil, List.append_nil]; exact HI2.out.1, HI2.out.2⟩⟩
      case round =>
        clear HI2 g0 g1 g2 g3
        obtain ⟨r, hr, rfl, HR⟩ := hrel
        obtain ⟨es, m1, m2, m3⟩ := HR.out.1
        obtain ⟨a, c, hv, hc1, -, -⟩ := m1.shape
        subst hv
        obtain ⟨g0, g1, g2, g3⟩ := four_cells HR.out.2
        have hn := HNi.out r
        have hr2 : r ≤ 2048 := by
          rcases Nat.lt_or_ge r 2049 with h | h
          · omega
          · exfalso
            have h3 := (HNi.out 2048).1 (by omega)
            have h4 := HKd.out 2048 (by omega)
            have h5 : ((2048 : Nat) : Int) * dy = 2048 * dy := rfl
            omega
        have hm := HKd.out r (by omega)
        have HNs : Hid (y + ((r + 1 : Nat) : Int) * dy = y + (r : Int) * dy + dy) := by show _ = _; rw [Int.natCast_add, Int.add_mul]; simp; omega
        have hes : es.length ≤ 20000 := by
          have e := congrArg List.length m2
          rw [List.length_map, List.length_append, List.length_map, List.length_range] at e
          have e2 := HLb.out
          rw [HNX.out, List.length_append, List.length_map, List.length_range] at e2
          omega
        by_cases hc : y + (r : Int) * dy < H ∧ x < W
        · have hrl := hn.2 hc
          obtain ⟨hcy, hcx⟩ := hc
          have CR := rrow_any ((i : Int) + 1) x (y + (r : Int) * dy) dx W wr q0 q4 q5 p2
          have HWr := HWi.out r hrl
          have hpl := plc_bd (f := x) (s := dx) (e := W) q0 q4 p2
          obtain ⟨NN, hNN⟩ : ∃ NN, (plc x dx W).toNat = NN := ⟨_, rfl⟩
          rw [hNN] at CR HWr
          obtain ⟨SS, hSS⟩ : ∃ SS, spL x dx (y + (r : Int) * dy) NN = SS := ⟨_, rfl⟩
          rw [hSS] at CR HWr
          have HP : Hid (∀ a2 c2 w4 v7 w7, Below wr.heap.size wr w4 → SpIn wr.heap.size w4 ⟨(i : Int) + 1, a2, NN, c2, SS⟩ → w7.ownsRow w1.heap.size 43 2 v7 (es.length + 1) (leF es ++ [.int .i64 ((i : Int) + 1), .slice a2 NN c2]) → (w4.alloc (.cells #[.int .i64 ((i : Int) + 1), .slice a2 NN c2] 43)).grownBy w7 (Value.ownBlock (.slice a es.length c)) →
              LvI w1 (lnsI pngL W H i ++ (List.range (r + 1)).map fun r => (((i : Int) + 1), lnS pngL W H i r)) v7 w7 ∧ w7.heap[gb]? = some (.cells #[.int .i64 x, .int .i64 y, .int .i64 dx, .int .i64 dy] 51 (0, 0))) := fun a2 c2 w4 v7 w7 h1 h2 h3 h4 => by
            obtain ⟨k1, k2, k3⟩ := m1.next (e := ⟨(i : Int) + 1, a2, NN, c2, SS⟩) h1 h2 m3.size m3 h3 h4
            refine ⟨⟨es ++ [⟨(i : Int) + 1, a2, NN, c2, SS⟩], k1, ?_, k2⟩, k3 gb _ _ HR.out.2 (by decide)⟩
            rw [rows_more, HWr, List.map_append, m2, List.append_assoc]; rfl
          have HO : Hid (wr.ownsRow w1.heap.size 43 2 (.slice a es.length c) es.length (leF es) ∧ w1.heap.size ≤ wr.heap.size ∧ LsM w1.heap.size wr (.slice a es.length c) es) := ⟨m1.own, m3.size, m1⟩
          obtain ⟨EL, hEL⟩ : ∃ EL, es.length = EL := ⟨_, rfl⟩
          have HEL : Hid (es.length = EL) := hEL
          rw [hEL] at hes hc1 ⊢
          clear HR m1 m2 m3 hn hEL hSS hNN HWr
          obtain ⟨M, hM⟩ : ∃ M, (r : Int) * dy = M := ⟨_, rfl⟩
          rw [hM] at hcy hm HNs CR ⊢
          clear hM
          go_wp2_with fail
          refine CR.mono ?_
          clear CR
          rintro e w4 ⟨a2, c2, rfl, hsp, hb4⟩
          have HB4 : Hid (Below wr.heap.size wr w4 ∧ SpIn wr.heap.size w4 ⟨(i : Int) + 1, a2, NN, c2, SS⟩) := ⟨hb4, hsp⟩
          have HO4 : Hid (w4.ownsRow w1.heap.size 43 2 (.slice a EL c) EL (leF es) ∧ w1.heap.size ≤ w4.heap.size) := by
            have := (HO.out.2.2.old hb4).own
            rw [HEL.out] at this
            exact ⟨this, Nat.le_trans HO.out.2.1 hb4.size⟩
          clear hsp hb4 g0 g1 g2 g3
          go_wp2_with (at_builtin; refine wpList_append_own _ rfl _ _ 27 rfl w1.heap.size 43 i0 (.agg #[.int .i64 0, .slice none 0 0]) 2 32 Try.underlying27 hi0 hz0 hz1 hz2 rfl (by decide) (.slice a EL c) EL (leF es) rfl (HO4.out.1.alloc _) ⟨w4.heap.size, 0, none⟩ 1 1 [.int .i64 ((i : Int) + 1), .slice a2 NN c2] rfl rfl ?c1 ?c2 ?c3 ?c4 ?c5 ?_)
          case c1 =>
            intro j u hj
            match j, hj with
            | 0, hj => simp at hj; subst hj; exact World.cell?_alloc_mark ..
            | 1, hj => simp at hj; subst hj; exact World.cell?_alloc_mark ..
          case c2 => intro u hu; simp at hu; rcases hu with rfl | rfl <;> rfl
          case c3 => unfold maxLen; omega
          case c4 => omega
          case c5 => have := HO4.out.2; simp; omega
          intro v7 w7 h1 h2 _
          rw [← HEL.out] at h1 h2
          have H7 : Hid _ := HP.out a2 c2 w4 v7 w7 HB4.out.1 HB4.out.2 h1 h2
          clear h1 h2 HP HO HO4 HB4
          obtain ⟨g0, g1, g2, g3⟩ := four_cells H7.out.2
          go_wp2
          go_roundw
          case rel => exact ⟨r + 1, hrl, by rw [HNs.out], H7.out⟩
          case measure => simp [intOf]; omega
        · obtain rfl : r = hNt pngL W H i := by have := mt hn.1 hc; omega
          have HE : Hid (LvI w1 (lnsI pngL W H (i + 1)) (.slice a es.length c) wr) := by rw [HNX.out]; exact HR.out.1
          clear HR m1 m2 m3 hn HNs HNi HWi HNX hr hr2
          generalize es.length = EL at *
          generalize hNt pngL W H i = r at *
          obtain ⟨M, hM⟩ : ∃ M, (r : Int) * dy = M := ⟨_, rfl⟩
          rw [hM] at hc hm ⊢
          clear hM
          by_cases hcy : y + M < H
          · have hcx : ¬ x < W := fun h => hc ⟨hcy, h⟩
            clear hc
            go_wp2
            go_roundw
            case rel => exact ⟨i + 1, by omega, by go_num, HE⟩
            case measure => simp [intOf]; omega
          · clear hc
            go_wp2
            go_roundw
            case rel => exact ⟨i + 1, by omega, by go_num, HE⟩
            case measure => simp [intOf]; omega
    · obtain rfl : i = 7 := by omega
      go_wp2
      go_ret
      exact HI.out.post
end Go.Proofs.Ytjkhldnjciakkaa
