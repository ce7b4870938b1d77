/- The document's lines of a GIF. -/
import Derived.Test.YtjkhldnjciakkaaAmR
namespace Go.Proofs.Ytjkhldnjciakkaa
open Go.RowKit
set_option maxHeartbeats 3200000 in
theorem rwoven_laced (W H : Int) (w : World) (hp : picN W H) : Calls Try.prog 15 #[.int .i64 W, .int .i64 H, .bool true] w fun e w' => GlPost w (lnsI gifL W H 4) e w' := by
  obtain ⟨p1, p2, p3, p4, p5⟩ := hp
  have CS := rsized_any W H w
  rw [decide_eq_true (show picN W H from ⟨p1, p2, p3, p4, p5⟩)] at CS
  obtain ⟨i0, hi0, hz0, hz1, hz2⟩ := info_parts Try.infoLn
  have HS : Hid (LvI w (lnsI gifL W H 0) (.slice none 0 0) (w.alloc (.cells #[.int .i64 0, .int .i64 8, .int .i64 4, .int .i64 8, .int .i64 2, .int .i64 4, .int .i64 1, .int .i64 2] 55)) ∧ (w.alloc (.cells #[.int .i64 0, .int .i64 8, .int .i64 4, .int .i64 8, .int .i64 2, .int .i64 4, .int .i64 1, .int .i64 2] 55)).heap[w.heap.size]? = some (.cells #[.int .i64 0, .int .i64 8, .int .i64 4, .int .i64 8, .int .i64 2, .int .i64 4, .int .i64 1, .int .i64 2] 55 (0, 0))) := ⟨⟨[], LsM.nil _ _, rfl, (Below.refl _ _).alloc (Nat.le_refl _) _⟩, World.alloc_heap_new w _⟩
  have HOK : Hid (∀ i, (stAt gifL i).ok) := fun i => stAt_ok (gifOf_ok true) i
  have HN : Hid (∀ i r, r < hNt gifL W H i ↔ ((stAt gifL i).y + (r : Int) * (stAt gifL i).dy < H ∧ (stAt gifL i).x < W)) := fun i r => hN_iff (gifOf_ok true) p2 p4 i r
  have HPP : Hid (picN W H) := ⟨p1, p2, p3, p4, p5⟩
  clear p5
  go_enter Try.func15, Try.ntmps15
  go_wp2_with fail
  refine CS.mono ?_
  rintro e w1 ⟨rfl, rfl⟩
  clear CS
  go_wp2
  generalize hT : w1.heap.size = tb at *
  have HT : Hid (w1.heap.size = tb) := hT
  clear hT
  go_loopw [7, 26] (fun v7 v26 wr => ∃ i : Nat, i ≤ 4 ∧ v26 = .int .i64 i ∧ Hid (LvI w1 (lnsI gifL W H i) v7 wr ∧ wr.heap[tb]? = some (.cells #[.int .i64 0, .int .i64 8, .int .i64 4, .int .i64 8, .int .i64 2, .int .i64 4, .int .i64 1, .int .i64 2] 55 (0, 0)))) (fun _ v26 _ => 4 - (intOf v26).toNat)
  case atStart => exact ⟨0, by omega, rfl, HS⟩
  case round =>
    clear HS
    obtain ⟨i, hi, rfl, HI⟩ := hrel
    by_cases hlt : i < 4
    · have hlti : (i : Int) < 4 := by omega
      obtain ⟨t0, t1⟩ := gif_cells HI.out.2 i hlt
      have hok := HOK.out i
      have hx0 := gif_x i hlt
      have HNi : Hid (∀ r, r < hNt gifL W H i ↔ ((stAt gifL i).y + (r : Int) * (stAt gifL i).dy < H ∧ (stAt gifL i).x < W)) := HN.out i
      have HWi : Hid (∀ r, r < hNt gifL W H i → lnS gifL W H i r = spL (stAt gifL i).x (stAt gifL i).dx ((stAt gifL i).y + (r : Int) * (stAt gifL i).dy) (plc (stAt gifL i).x (stAt gifL i).dx W).toNat) := fun r hr => by unfold lnS; rw [wNt_eq hr]
      have HNX : Hid (lnsI gifL W H (i + 1) = lnsI gifL W H i ++ (List.range (hNt gifL W H i)).map fun r => (((i : Int) + 1), lnS gifL W H i r)) := rfl
      have HLb : Hid ((lnsI gifL W H (i + 1)).length ≤ 20000) := by
        show _ ≤ _
        rw [lnsI_len]
        have := lnN_bd (gifOf_ok true) (by decide) W H
        have hpp := HPP.out
        have e : lnN gifL W H = bsN (hNt gifL W H) 4 := by unfold lnN psN; rw [if_pos hpp]; rfl
        have := bsN_le (hNt gifL W H) (show i + 1 ≤ 4 by omega)
        have h2 : lnN (gifOf true) W H = lnN gifL W H := rfl
        omega
      generalize stAt gifL i = p at *
      obtain ⟨x, y, dx, dy⟩ := p
      simp only at *
      obtain ⟨rfl, rfl⟩ := hx0
      obtain ⟨q0, q1, q2, q3, q4, q5, q6, q7⟩ := hok
      simp only at q2 q3 q6 q7
      clear q0 q1 q4 q5
      have HKd : Hid (∀ k : Nat, (k : Int) ≤ 2048 → 0 ≤ (k : Int) * dy ∧ (k : Int) * dy ≤ 20000) := fun k hk => ⟨Int.mul_nonneg (by omega) (by omega), by have : (k : Int) * dy ≤ 2048 * 8 := Int.mul_le_mul hk (by omega) (by omega) (by omega); omega⟩
      have HI2 : Hid (LvI w1 (lnsI gifL W H i) u7 (wr.alloc (.cells #[.int .i64 y, .int .i64 dy] 55)) ∧ (wr.alloc (.cells #[.int .i64 y, .int .i64 dy] 55)).heap[wr.heap.size]? = some (.cells #[.int .i64 y, .int .i64 dy] 55 (0, 0)) ∧ (wr.alloc (.cells #[.int .i64 y, .int .i64 dy] 55)).heap[tb]? = some (.cells #[.int .i64 0, .int .i64 8, .int .i64 4, .int .i64 8, .int .i64 2, .int .i64 4, .int .i64 1, .int .i64 2] 55 (0, 0))) := by
        obtain ⟨es, h1, h2, h3⟩ := HI.out.1
        have hba : Below wr.heap.size wr (wr.alloc (.cells #[.int .i64 y, .int .i64 dy] 55)) := (Below.refl _ wr).alloc (Nat.le_refl _) _
        exact ⟨⟨es, h1.old hba, h2, h3.trans (hba.mono h3.size)⟩, World.alloc_heap_new wr _, (hba.block _ (lt_of_block HI.out.2)).trans HI.out.2⟩
      clear HI
      go_upto_region 9 with fail
      clear t0 t1
      generalize wr.alloc (.cells #[.int .i64 y, .int .i64 dy] 55) = w3 at *
      generalize wr.heap.size = gb at *
      obtain ⟨g0, g1⟩ := two_cellsA HI2.out.2.1
      go_wp2
      go_loopw [7, 10] (fun v7 v10 wr => ∃ r : Nat, r ≤ hNt gifL W H i ∧ v10 = .int .i64 (y + (r : Int) * dy) ∧ Hid (LvI w1 (lnsI gifL W H i ++ (List.range r).map fun r => (((i : Int) + 1), lnS gifL W H i r)) v7 wr ∧ wr.heap[gb]? = some (.cells #[.int .i64 y, .int .i64 dy] 55 (0, 0)) ∧ wr.heap[tb]? = some (.cells #[.int .i64 0, .int .i64 8, .int .i64 4, .int .i64 8, .int .i64 2, .int .i64 4, .int .i64 1, .int .i64 2] 55 (0, 0)))) (fun _ v10 _ => (H - intOf v10).toNat)
      case atStart => exact ⟨0, Nat.zero_le _, by simp, ⟨by rw [List.range_zero, List.map_nil, List.append_nil]; exact HI2.out.1, HI2.out.2⟩⟩
      case round =>
        clear HI2 g0 g1
        obtain ⟨r, hr, rfl, HR⟩ := hrel
        obtain ⟨es, m1, m2, m3⟩ := HR.out.1
        obtain ⟨a, c, hv, hc1, -, -⟩ := m1.shape
        subst hv
        obtain ⟨g0, g1⟩ := two_cellsA HR.out.2.1
        have hn := HNi.out r
        have hr2 : r ≤ 2048 := by
          rcases Nat.lt_or_ge r 2049 with h | h
          · omega
          · exfalso
            have h3 := (HNi.out 2048).1 (by omega)
            have h4 := HKd.out 2048 (by omega)
            have h5 : ((2048 : Nat) : Int) * dy = 2048 * dy := rfl
            omega
        have hm := HKd.out r (by omega)
        have HNs : Hid (y + ((r + 1 : Nat) : Int) * dy = y + (r : Int) * dy + dy) := by show _ = _; rw [Int.natCast_add, Int.add_mul]; simp; omega
        have hes : es.length ≤ 20000 := by
          have e := congrArg List.length m2
          rw [List.length_map, List.length_append, List.length_map, List.length_range] at e
          have e2 := HLb.out
          rw [HNX.out, List.length_append, List.length_map, List.length_range] at e2
          omega
        by_cases hc : y + (r : Int) * dy < H
        · have hrl := hn.2 ⟨hc, by omega⟩
          have hcy := hc
          clear hc
          have CR := rrow_any ((i : Int) + 1) 0 (y + (r : Int) * dy) 1 W wr (by omega) (by omega) (by omega) p2
          have HWr := HWi.out r hrl
          have hpl := plc_bd (f := 0) (s := 1) (e := W) (by omega) (by omega) p2
          obtain ⟨NN, hNN⟩ : ∃ NN, (plc 0 1 W).toNat = NN := ⟨_, rfl⟩
          rw [hNN] at CR HWr
          obtain ⟨SS, hSS⟩ : ∃ SS, spL 0 1 (y + (r : Int) * dy) NN = SS := ⟨_, rfl⟩
          rw [hSS] at CR HWr
          have HP : Hid (∀ a2 c2 w4 v7 w7, Below wr.heap.size wr w4 → SpIn wr.heap.size w4 ⟨(i : Int) + 1, a2, NN, c2, SS⟩ → w7.ownsRow w1.heap.size 43 2 v7 (es.length + 1) (leF es ++ [.int .i64 ((i : Int) + 1), .slice a2 NN c2]) → (w4.alloc (.cells #[.int .i64 ((i : Int) + 1), .slice a2 NN c2] 43)).grownBy w7 (Value.ownBlock (.slice a es.length c)) →
              LvI w1 (lnsI gifL W H i ++ (List.range (r + 1)).map fun r => (((i : Int) + 1), lnS gifL W H i r)) v7 w7 ∧ w7.heap[gb]? = some (.cells #[.int .i64 y, .int .i64 dy] 55 (0, 0)) ∧ w7.heap[tb]? = some (.cells #[.int .i64 0, .int .i64 8, .int .i64 4, .int .i64 8, .int .i64 2, .int .i64 4, .int .i64 1, .int .i64 2] 55 (0, 0))) := fun a2 c2 w4 v7 w7 h1 h2 h3 h4 => by
            obtain ⟨k1, k2, k3⟩ := m1.next (e := ⟨(i : Int) + 1, a2, NN, c2, SS⟩) h1 h2 m3.size m3 h3 h4
            refine ⟨⟨es ++ [⟨(i : Int) + 1, a2, NN, c2, SS⟩], k1, ?_, k2⟩, k3 gb _ _ HR.out.2.1 (by decide), k3 tb _ _ HR.out.2.2 (by decide)⟩
            rw [rows_more, HWr, List.map_append, m2, List.append_assoc]; rfl
          have HO : Hid (wr.ownsRow w1.heap.size 43 2 (.slice a es.length c) es.length (leF es) ∧ w1.heap.size ≤ wr.heap.size ∧ LsM w1.heap.size wr (.slice a es.length c) es) := ⟨m1.own, m3.size, m1⟩
          obtain ⟨EL, hEL⟩ : ∃ EL, es.length = EL := ⟨_, rfl⟩
          have HEL : Hid (es.length = EL) := hEL
          rw [hEL] at hes hc1 ⊢
          clear HR m1 m2 m3 hn hEL hSS hNN HWr
          obtain ⟨M, hM⟩ : ∃ M, (r : Int) * dy = M := ⟨_, rfl⟩
          rw [hM] at hcy hm HNs CR ⊢
          clear hM
          go_wp2_with fail
          refine CR.mono ?_
          clear CR
          rintro e w4 ⟨a2, c2, rfl, hsp, hb4⟩
          have HB4 : Hid (Below wr.heap.size wr w4 ∧ SpIn wr.heap.size w4 ⟨(i : Int) + 1, a2, NN, c2, SS⟩) := ⟨hb4, hsp⟩
          have HO4 : Hid (w4.ownsRow w1.heap.size 43 2 (.slice a EL c) EL (leF es) ∧ w1.heap.size ≤ w4.heap.size) := by
            have := (HO.out.2.2.old hb4).own
            rw [HEL.out] at this
            exact ⟨this, Nat.le_trans HO.out.2.1 hb4.size⟩
          clear hsp hb4 g0 g1
          go_wp2_with (at_builtin; refine wpList_append_own _ rfl _ _ 27 rfl w1.heap.size 43 i0 (.agg #[.int .i64 0, .slice none 0 0]) 2 32 Try.underlying27 hi0 hz0 hz1 hz2 rfl (by decide) (.slice a EL c) EL (leF es) rfl (HO4.out.1.alloc _) ⟨w4.heap.size, 0, none⟩ 1 1 [.int .i64 ((i : Int) + 1), .slice a2 NN c2] rfl rfl ?c1 ?c2 ?c3 ?c4 ?c5 ?_)
          case c1 =>
            intro j u hj
            match j, hj with
            | 0, hj => simp at hj; subst hj; exact World.cell?_alloc_mark ..
            | 1, hj => simp at hj; subst hj; exact World.cell?_alloc_mark ..
          case c2 => intro u hu; simp at hu; rcases hu with rfl | rfl <;> rfl
          case c3 => unfold maxLen; omega
          case c4 => omega
          case c5 => have := HO4.out.2; simp; omega
          intro v7 w7 h1 h2 _
          rw [← HEL.out] at h1 h2
          have H7 : Hid _ := HP.out a2 c2 w4 v7 w7 HB4.out.1 HB4.out.2 h1 h2
          clear h1 h2 HP HO HO4 HB4
          obtain ⟨g0, g1⟩ := two_cellsA H7.out.2.1
          go_wp2
          go_roundw
          case rel => exact ⟨r + 1, hrl, by rw [HNs.out], H7.out⟩
          case measure => simp [intOf]; omega
        · obtain rfl : r = hNt gifL W H i := by
            have : ¬ r < hNt gifL W H i := fun h => hc (hn.1 h).1
            omega
          have HE : Hid (LvI w1 (lnsI gifL W H (i + 1)) (.slice a es.length c) wr ∧ wr.heap[tb]? = some (.cells #[.int .i64 0, .int .i64 8, .int .i64 4, .int .i64 8, .int .i64 2, .int .i64 4, .int .i64 1, .int .i64 2] 55 (0, 0))) := by rw [HNX.out]; exact ⟨HR.out.1, HR.out.2.2⟩
          clear HR m1 m2 m3 hn HNs HNi HWi HNX hr hr2
          generalize es.length = EL at *
          generalize hNt gifL W H i = r at *
          obtain ⟨M, hM⟩ : ∃ M, (r : Int) * dy = M := ⟨_, rfl⟩
          rw [hM] at hc hm ⊢
          clear hM
          go_wp2
          go_roundw
          case rel => exact ⟨i + 1, by omega, by go_num, HE⟩
          case measure => simp [intOf]; omega
    · obtain rfl : i = 4 := by omega
      go_wp2
      go_ret
      exact HI.out.1.post
set_option maxHeartbeats 1600000 in
theorem rwoven_any (W H : Int) (b : Bool) (w : World) : Calls Try.prog 15 #[.int .i64 W, .int .i64 H, .bool b] w fun e w' => GlPost w (lnsL (gifOf b) W H) e w' := by
  cases b with
  | false =>
    have C := rlines_any W H false w
    have e : lnsL (pngOf false) W H = lnsL (gifOf false) W H := rfl
    rw [e] at C
    clear e
    go_enter Try.func15, Try.ntmps15
    go_wp2_with fail
    refine C.mono ?_
    rintro e w1 ⟨a, c, es, rfl, h1, h2, h3⟩
    have HP : Hid (GlPost w (lnsL (gifOf false) W H) (.returned (.slice a es.length c)) w1) := ⟨a, c, es, rfl, h1, h2, h3⟩
    clear h1 h2 h3
    generalize es.length = EL at *
    go_wp2
    go_ret
    exact HP.out
  | true =>
    unfold lnsL psN
    by_cases hp : picN W H
    · rw [if_pos hp]
      exact rwoven_laced W H w hp
    · rw [if_neg hp]
      have CS := rsized_any W H w
      rw [decide_eq_false hp] at CS
      have HF : Hid (GlPost w [] (.returned (.slice none 0 0)) w) := ⟨none, 0, [], rfl, LsM.nil _ _, rfl, Below.refl _ _⟩
      clear hp
      go_enter Try.func15, Try.ntmps15
      go_wp2_with fail
      refine CS.mono ?_
      rintro e w1 ⟨rfl, rfl⟩
      go_wp2
      go_ret
      exact HF.out
end Go.Proofs.Ytjkhldnjciakkaa
