/- The document's View: the walk. -/
import Derived.Test.YtjheipfcehddhaaCvT
namespace Go.Proofs.Ytjheipfcehddhaa
open Go.RowKit
theorem Try.infoColU : (Try.prog.info? 49).map (fun i => (i.zero, i.size, i.bytes)) = some (some (.agg #[.int .u16 0, .int .u16 0, .int .u16 0, .int .u16 0]), 4, 8) := by kernel_rfl
theorem set4_heapU {w : World} {r : Nat} {a b c d : Value} {t : TypeId} (h : w.heap[r]? = some (.cells #[a, b, c, d] t (0, 0))) (x y z u : Value) : ((((w.setCell ⟨r, 0, none⟩ x).setCell ⟨r, 1, none⟩ y).setCell ⟨r, 2, none⟩ z).setCell ⟨r, 3, none⟩ u).drew.heap[r]? = some (.cells #[x, y, z, u] t (0, 0)) := by
  have e0 := heap_setCell_same w r 0 _ _ x h
  have e1 := heap_setCell_same _ r 1 _ _ y e0
  have e2 := heap_setCell_same _ r 2 _ _ z e1
  have e3 := heap_setCell_same _ r 3 _ _ u e2
  exact e3
theorem rem_of {y Wn x : Nat} (h : x < Wn) : (((y * Wn + x : Nat) : Int) % (Wn : Int)) = (x : Int) := by
  rw [← Int.natCast_emod, Nat.mul_comm, Nat.mul_add_mod, Nat.mod_eq_of_lt h]
theorem quo_of {y Wn x : Nat} (h : x < Wn) : (((y * Wn + x : Nat) : Int) / (Wn : Int)) = (y : Int) := by
  rw [← Int.natCast_ediv, Nat.mul_comm, Nat.mul_add_div (by omega), Nat.div_eq_of_lt h, Nat.add_zero]
theorem owns_shapeV {w : World} {base : Nat} {e : TypeId} {size : Nat} {v : Value} {n : Nat} {xs : List Value} (h : w.ownsRow base e size v n xs) : ∃ a c, v = .slice a n c ∧ n ≤ c := by
  rcases h.2 with ⟨rfl, rfl⟩ | ⟨g, cap, cur, rfl, hb, hh, h1, _⟩
  · exact ⟨none, 0, rfl, Nat.le_refl _⟩
  · exact ⟨_, cap, rfl, h1⟩
theorem rw_fin {w wr : World} {W H : Int} {N : Nat} {G : Nat → Col} {av : Option Addr} {cv : Nat} (hb : Below w.heap.size w wr) (hN : 1 ≤ N) (hre : wr.heap[w.heap.size]? = some (.cells #[.int .i64 0, .int .i64 0, .slice none 0 0] 41 (0, 0))) (hv : wr.ownsRow w.heap.size 49 4 (.slice av N cv) N (k4L G N)) : ImT w W H N G (.returned (.agg #[.int .i64 W, .int .i64 H, .slice av N cv])) (((wr.setCell ⟨w.heap.size, 0, none⟩ (.int .i64 W)).setCell ⟨w.heap.size, 1, none⟩ (.int .i64 H)).setCell ⟨w.heap.size, 2, none⟩ (.slice av N cv)) := by
  rcases hv.2 with ⟨_, h0⟩ | ⟨g, cap, cur, he, hg, hh, q1, q2, q3, q4⟩
  · omega
  · simp only [Value.slice.injEq] at he
    obtain ⟨rfl, -, rfl⟩ := he
    have hne : g ≠ w.heap.size := by rintro rfl; rw [hre] at hh; simp at hh
    refine ⟨g, cv, rfl, q1, q2, (owns_px hv).same ?_, hg, ?_⟩
    · rw [set3_other _ _ _ hne]
    · exact ((hb.setCell (p := ⟨w.heap.size, 0, none⟩) (Nat.le_refl _) _).setCell (p := ⟨w.heap.size, 1, none⟩) (Nat.le_refl _) _).setCell (p := ⟨w.heap.size, 2, none⟩) (Nat.le_refl _) _
theorem rw_start {w w2 w3 : World} {c p k vb cb : Nat} {W H : Int} {N : Nat} {F : Nat → Col} {M : Nat → Bool} {L : List (Nat × Nat)} (h : Rv w c p k W H N F M) (hb2 : Below w.heap.size w w2) (hre : w2.heap[w.heap.size]? = some (.cells #[.int .i64 0, .int .i64 0, .slice none 0 0] 41 (0, 0))) (hvb : w2.heap[vb]? = some (.cells #[.int .i64 W, .int .i64 H, .slice none 0 0] 41 (0, 0))) (hlt : w.heap.size < vb) (hb3 : Below w2.heap.size w2 w3) (hct : w3.heap[cb]? = some (.cells (cuA L) 76 (0, 0))) : RwI w c p k w.heap.size vb cb W H N F M L 0 w3 := by
  have hb := hb2.trans (hb3.mono hb2.size)
  exact ⟨hb, h.old hb, (hb3.block _ (lt_of_block hre)).trans hre, ⟨_, (hb3.block _ (lt_of_block hvb)).trans hvb, World.ownsRow_nil _ _ _ _⟩, hct, Nat.le_refl _, by omega, by omega⟩
set_option maxHeartbeats 6400000 in
set_option maxRecDepth 100000 in
theorem rview_any {w : World} {c p k : Nat} {W H : Int} {N : Nat} {F : Nat → Col} {M : Nat → Bool} (h : Rv w c p k W H N F M) (b : Bool) : Calls Try.prog 17 #[.pointer (some ⟨c, 0, none⟩), .bool b] w fun e w' => ImT w W H N (rvG W H F M (cuL b)) e w' := by
  obtain ⟨Wn, rfl⟩ : ∃ Wn : Nat, W = (Wn : Int) := ⟨W.toNat, by have := h.sz.w1; omega⟩
  obtain ⟨Hn, rfl⟩ : ∃ Hn : Nat, H = (Hn : Int) := ⟨H.toNat, by have := h.sz.h1; omega⟩
  have HLT : Hid (p < w.heap.size ∧ c < w.heap.size ∧ k < w.heap.size) := ⟨h.px.lt, lt_of_block h.st, h.kn.lt⟩
  have HC : Hid (Rv w c p k Wn Hn N F M) := h
  clear h
  obtain ⟨i0, hi, hz0, hz1, hz2⟩ := info_parts Try.infoColU
  go_enter Try.func17, Try.ntmps17
  go_upto_region 1 with fail
  have HB1 : Hid (Below w.heap.size w (w.alloc (.cells #[.int .i64 0, .int .i64 0, .slice none 0 0] 41)) ∧ (w.alloc (.cells #[.int .i64 0, .int .i64 0, .slice none 0 0] 41)).heap[w.heap.size]? = some (.cells #[.int .i64 0, .int .i64 0, .slice none 0 0] 41 (0, 0)) ∧ (w.alloc (.cells #[.int .i64 0, .int .i64 0, .slice none 0 0] 41)).heap.size = w.heap.size + 1) := ⟨below_new _ _, World.alloc_heap_new w _, by simp⟩
  generalize w.alloc (.cells #[.int .i64 0, .int .i64 0, .slice none 0 0] 41) = w1 at *
  obtain ⟨k0, k1, -⟩ := (HC.out.old HB1.out.1).cells
  have oldc : ∀ (o : Obj) (j : Nat) v, w1.cell? ⟨c, j, none⟩ = some v → (w1.alloc o).cell? ⟨c, j, none⟩ = some v := fun o j v hv => (World.cell?_of_block (a := ⟨c, j, none⟩) ((below_new w1 o).block c (cell_lt hv))).trans hv
  have a0 := oldc (.cells #[.int .i64 0, .int .i64 0, .slice none 0 0] 41) _ _ k0
  have a1 := oldc (.cells #[.int .i64 0, .int .i64 0, .slice none 0 0] 41) _ _ k1
  have a2 := oldc (.cells #[.int .i64 (Wn : Int), .int .i64 (Hn : Int), .slice none 0 0] 41) _ _ k0
  have a3 := oldc (.cells #[.int .i64 (Wn : Int), .int .i64 (Hn : Int), .slice none 0 0] 41) _ _ k1
  clear oldc
  go_region_held3 (fun u => u.cell? ⟨c, 0, none⟩ = some (.int .i64 (Wn : Int)) ∧ u.cell? ⟨c, 1, none⟩ = some (.int .i64 (Hn : Int)))
    (first | (with_reducible exact ⟨by with_reducible assumption, by with_reducible assumption⟩) | go_keep)
    (fail)
  clear a0 a1 a2 a3 k0 k1
  have HV2 : Hid (Below w.heap.size w (w1.alloc (.cells #[.int .i64 (Wn : Int), .int .i64 (Hn : Int), .slice none 0 0] 41)).drew ∧ (w1.alloc (.cells #[.int .i64 (Wn : Int), .int .i64 (Hn : Int), .slice none 0 0] 41)).drew.heap[w.heap.size]? = some (.cells #[.int .i64 0, .int .i64 0, .slice none 0 0] 41 (0, 0)) ∧ (w1.alloc (.cells #[.int .i64 (Wn : Int), .int .i64 (Hn : Int), .slice none 0 0] 41)).drew.heap[w1.heap.size]? = some (.cells #[.int .i64 (Wn : Int), .int .i64 (Hn : Int), .slice none 0 0] 41 (0, 0)) ∧ w.heap.size < w1.heap.size) := by
    have hb := below_new w1 (.cells #[.int .i64 (Wn : Int), .int .i64 (Hn : Int), .slice none 0 0] 41)
    exact ⟨below_undrew2 (HB1.out.1.trans (hb.mono HB1.out.1.size)), (hb.block _ (lt_of_block HB1.out.2.1)).trans HB1.out.2.1, World.alloc_heap_new w1 _, lt_of_block HB1.out.2.1⟩
  generalize (w1.alloc (.cells #[.int .i64 (Wn : Int), .int .i64 (Hn : Int), .slice none 0 0] 41)).drew = w2 at *
  clear HB1
  obtain ⟨L, hLb⟩ : ∃ L, cuL b = L := ⟨_, rfl⟩
  have HLb : Hid (cuL b = L) := hLb
  have HLL : Hid ((∀ i, (cuX L i).1 ≤ 3 ∧ (cuX L i).2 ≤ 3) ∧ L.length ≤ 7) := by rw [← hLb]; exact ⟨cuL_le b, by cases b <;> decide⟩
  have hN := HC.out.sz.m
  have hw2 := HC.out.sz.w2
  have hh2 := HC.out.sz.h2
  have hNe : Wn * Hn = N := by have := HC.out.sz.n; rw [← Int.natCast_mul] at this; omega
  have HNe : Hid (Wn * Hn = N) := hNe
  clear hNe
  generalize w1.heap.size = vb at *
  cases b with
  | false =>
    have HV : Hid (RwI w c p k w.heap.size vb w2.heap.size Wn Hn N F M L 0 (w2.alloc (.cells (cuA (cuL false)) 76))) := by
      have hb := below_new w2 (.cells (cuA (cuL false)) 76)
      exact rw_start HC.out HV2.out.1 HV2.out.2.1 HV2.out.2.2.1 HV2.out.2.2.2 hb (by rw [← hLb]; exact World.alloc_heap_new w2 _)
    rw [show cuA (cuL false) = #[.int .i64 0, .int .i64 0, .int .i64 1, .int .i64 0, .int .i64 1, .int .i64 1, .int .i64 2, .int .i64 1, .int .i64 2, .int .i64 2, .int .i64 3, .int .i64 2, .int .i64 3, .int .i64 3] from rfl] at HV
    have hlen : L.length = 7 := by rw [← hLb]; rfl
    have HQL : Hid (L.length = 7) := hlen
    clear hLb hlen
    go_upto_region 5 with fail
    generalize w2.alloc _ = w3 at *
    generalize w2.heap.size = cb at *
    go_wp2
    go_loopw [7] (fun v wr => ∃ y : Nat, y ≤ Hn ∧ v = .int .i64 y ∧ Hid (RwI w c p k w.heap.size vb cb Wn Hn N F M L (y * Wn) wr)) (fun v _ => Hn - (intOf v).toNat)
    case atStart => exact ⟨0, Nat.zero_le _, rfl, by rw [Nat.zero_mul]; exact HV.out⟩
    case round =>
      clear HV
      obtain ⟨y, hy, rfl, HY⟩ := hrel
      obtain ⟨k0, k1, k2, k3⟩ := HY.out.rv.cells
      by_cases hyl : y < Hn
      · obtain ⟨w6, hw6⟩ : ∃ w6, w6 = wr := ⟨_, rfl⟩
        subst hw6
        go_wp2
        clear k0 k1 k2 k3
        go_loopw [8] (fun v wr => ∃ x : Nat, x ≤ Wn ∧ v = .int .i64 x ∧ Hid (RwI w c p k w.heap.size vb cb Wn Hn N F M L (y * Wn + x) wr)) (fun v _ => Wn - (intOf v).toNat)
        case atStart => exact ⟨0, Nat.zero_le _, rfl, HY.out⟩
        case round =>
          obtain ⟨x, hx, rfl, HX⟩ := hrel
          obtain ⟨k0, k1, k2, k3⟩ := HX.out.rv.cells
          by_cases hxl : x < Wn
          · obtain ⟨w7, hw7⟩ : ∃ w7, w7 = wr := ⟨_, rfl⟩
            subst hw7
            have HB8 : Hid (Below w7.heap.size w7 (w7.alloc (.cells #[.int .u16 0, .int .u16 0, .int .u16 0, .int .u16 0] 49)) ∧ (w7.alloc (.cells #[.int .u16 0, .int .u16 0, .int .u16 0, .int .u16 0] 49)).heap[w7.heap.size]? = some (.cells #[.int .u16 0, .int .u16 0, .int .u16 0, .int .u16 0] 49 (0, 0))) := ⟨below_new _ _, World.alloc_heap_new w7 _⟩
            go_upto_region 12 with fail
            generalize w7.alloc (.cells #[.int .u16 0, .int .u16 0, .int .u16 0, .int .u16 0] 49) = w8 at *
            obtain ⟨pb, hpb⟩ : ∃ pb, w7.heap.size = pb := ⟨_, rfl⟩
            have HPB : Hid (w7.heap.size = pb) := hpb
            rw [hpb] at HB8 ⊢
            clear hpb k0 k1 k2 k3
            go_wp2
            go_loopw [10] (fun v wx => ∃ q : Nat, q ≤ 7 ∧ v = .int .i64 ((q : Int) - 1) ∧ Hid (Below pb w7 wx ∧ ∃ f : Col, wx.heap[pb]? = some (.cells #[.int .u16 f.1, .int .u16 f.2.1, .int .u16 f.2.2.1, .int .u16 f.2.2.2] 49 (0, 0)) ∧ f = vwC Wn Hn F M x y z4 (L.drop q))) (fun v _ => (intOf v + 1).toNat)
            case atStart => exact ⟨7, Nat.le_refl _, rfl, HB8.out.1, z4, HB8.out.2, by rw [List.drop_of_length_le (by rw [HQL.out]; exact Nat.le_refl _)]; rfl⟩
            case round =>
              obtain ⟨q, hq, rfl, HQ⟩ := hrel
              have HRw : Hid (RwI w c p k w.heap.size vb cb Wn Hn N F M L (y * Wn + x) wr) := HX.out.old (by rw [HPB.out]; exact HQ.out.1)
              obtain ⟨k0, k1, k2, k3⟩ := HRw.out.rv.cells
              obtain ⟨f, hf, hfe⟩ := HQ.out.2
              have HF : Hid (wr.heap[pb]? = some (.cells #[.int .u16 f.1, .int .u16 f.2.1, .int .u16 f.2.2.1, .int .u16 f.2.2.2] 49 (0, 0)) ∧ f = vwC Wn Hn F M x y z4 (L.drop q)) := ⟨hf, hfe⟩
              clear hf hfe
              by_cases hq0 : 0 < q
              · obtain ⟨q', rfl⟩ : ∃ q', q = q' + 1 := ⟨q - 1, by omega⟩
                rw [show ((q' + 1 : Nat) : Int) - 1 = (q' : Int) by omega]
                have hct : wr.heap[cb]? = some (.cells (cuA L) 76 (0, 0)) := HRw.out.ct
                obtain ⟨g0, g1⟩ := cuA_at L q' (by rw [HQL.out]; omega)
                have e0 : wr.cell? ⟨cb, q' * 2, none⟩ = some (.int .i64 (cuX L q').1) := by simp [World.cell?, hct, g0]
                have e1 : wr.cell? ⟨cb, q' * 2 + 1, none⟩ = some (.int .i64 (cuX L q').2) := by simp [World.cell?, hct, g1]
                have hcu := HLL.out.1 q'
                have hbx := lowN_bd (n := (cuX L q').1) (v := (x : Int)) (by omega)
                have hby := lowN_bd (n := (cuX L q').2) (v := (y : Int)) (by omega)
                have hon : onC Wn Hn (lowN (cuX L q').1 x, lowN (cuX L q').2 y) = true := (onC_iff _ _ _).2 ⟨hbx.1, by show lowN _ _ < _; omega, hby.1, by show lowN _ _ < _; omega⟩
                obtain ⟨i1, i2, i3, hI⟩ := HC.out.sz.ix hon
                have HD : Hid (vwC Wn Hn F M x y z4 (L.drop q') = if M (ixC Wn (lowN (cuX L q').1 x, lowN (cuX L q').2 y)) then F (ixC Wn (lowN (cuX L q').1 x, lowN (cuX L q').2 y)) else f) := by
                  rw [HF.out.2]
                  have hd : L.drop q' = cuX L q' :: L.drop (q' + 1) := by
                    rw [List.drop_eq_getElem_cons (by rw [HQL.out]; omega)]
                    unfold cuX
                    rw [List.getElem?_eq_getElem (by rw [HQL.out]; omega)]
                    rfl
                  rw [hd]
                  show (if atB Wn Hn M (lowN (cuX L q').1 x, lowN (cuX L q').2 y) = true then F (ixC Wn (lowN (cuX L q').1 x, lowN (cuX L q').2 y)) else vwC Wn Hn F M x y z4 (L.drop (q' + 1))) = _
                  unfold atB
                  rw [hon]; rfl
                have CY := rlow_any (y : Int) (cuX L q').2 wr.drew (by omega) (by omega) hcu.2
                have CX := rlow_any (x : Int) (cuX L q').1 wr.drew (by omega) (by omega) hcu.1
                generalize ixC Wn (lowN (cuX L q').1 x, lowN (cuX L q').2 y) = I at *
                generalize lowN (cuX L q').1 x = X at *
                generalize lowN (cuX L q').2 y = Y at *
                generalize (cuX L q').1 = A at *
                generalize (cuX L q').2 = B at *
                simp only at i1 i2 i3
                have wm1 : IntKind.i64.wrap (Y * Wn) = Y * Wn := by rw [IntKind.wrap_i64]; omega
                have wm2 : IntKind.i64.wrap (Y * Wn + X) = (I : Int) := by rw [i3, IntKind.wrap_i64]; omega
                have kk := HRw.out.rv.kn.cell hI
                obtain ⟨p0, p1, p2, p3⟩ := HRw.out.rv.px.cells hI
                obtain ⟨f0, f1, f2, f3, fz⟩ := four_cells HF.out.1
                have z0 := fz 0
                have z1 := fz 1
                have z2 := fz 2
                have z3 := fz 3
                have hI0 : (I : Int) < (N : Int) := by omega
                have hq7 : (q' : Int) < 7 := by omega
                clear hct g0 g1 hcu hbx hby hon fz i1 i2 i3
                go_upto_region 15 with fail
                refine wp_region_still_tail 20 (by kernel_rfl) (by kernel_rfl) ?_
                simp only [List.take_succ_cons, List.take_zero, List.drop_succ_cons, List.drop_zero]
                rw [show ({ wr with drawn := wr.drawn + 1 } : World) = wr.drew from rfl]
                repeat still_step
                still_call CY
                repeat still_step
                still_call CX
                repeat still_step
                refine wpStill_nil ?_
                clear CX CY
                obtain ⟨mb, hmb⟩ : ∃ mb, M I = mb := ⟨_, rfl⟩
                rw [hmb] at kk HD
                clear hmb
                cases mb with
                | true =>
                  obtain ⟨⟨c1, c2, c3, c4⟩, hcl⟩ : ∃ cl : Col, F I = cl := ⟨_, rfl⟩
                  rw [hcl] at p0 p1 p2 p3 HD
                  simp only [if_true] at p0 p1 p2 p3 HD
                  have HN : Hid (Below pb w7 ((((wr.setCell ⟨pb, 0, none⟩ (.int .u16 c1)).setCell ⟨pb, 1, none⟩ (.int .u16 c2)).setCell ⟨pb, 2, none⟩ (.int .u16 c3)).setCell ⟨pb, 3, none⟩ (.int .u16 c4)).drew ∧ ∃ f : Col, ((((wr.setCell ⟨pb, 0, none⟩ (.int .u16 c1)).setCell ⟨pb, 1, none⟩ (.int .u16 c2)).setCell ⟨pb, 2, none⟩ (.int .u16 c3)).setCell ⟨pb, 3, none⟩ (.int .u16 c4)).drew.heap[pb]? = some (.cells #[.int .u16 f.1, .int .u16 f.2.1, .int .u16 f.2.2.1, .int .u16 f.2.2.2] 49 (0, 0)) ∧ f = vwC Wn Hn F M x y z4 (L.drop q')) := by
                    refine ⟨below_undrew2 ?_, (c1, c2, c3, c4), set4_heapU HF.out.1 _ _ _ _, HD.out.symm⟩
                    exact (((HQ.out.1.setCell (p := ⟨pb, 0, none⟩) (Nat.le_refl _) _).setCell (p := ⟨pb, 1, none⟩) (Nat.le_refl _) _).setCell (p := ⟨pb, 2, none⟩) (Nat.le_refl _) _).setCell (p := ⟨pb, 3, none⟩) (Nat.le_refl _) _
                  clear hcl HQ HF HRw
                  go_wp2
                  go_roundw
                  case rel => exact ⟨q', by omega, rfl, HN⟩
                  case measure => simp [intOf]
                | false =>
                  simp only [Bool.false_eq_true, if_false] at HD
                  have HN : Hid (Below pb w7 wr.drew ∧ ∃ f : Col, wr.drew.heap[pb]? = some (.cells #[.int .u16 f.1, .int .u16 f.2.1, .int .u16 f.2.2.1, .int .u16 f.2.2.2] 49 (0, 0)) ∧ f = vwC Wn Hn F M x y z4 (L.drop q')) := ⟨below_undrew2 HQ.out.1, f, HF.out.1, HD.out.symm⟩
                  clear HQ HF HRw
                  go_wp2
                  go_roundw
                  case rel => exact ⟨q', by omega, rfl, HN⟩
                  case measure => simp [intOf]
              · obtain rfl : q = 0 := by omega
                rw [show ((0 : Nat) : Int) - 1 = -1 from rfl]
                have hfv : f = rvG Wn Hn F M L (y * Wn + x) := by
                  rw [HF.out.2, List.drop_zero]
                  unfold rvG
                  rw [show (((y * Wn + x : Nat) : Int) % (Wn : Int)) = (x : Int) from rem_of hxl, show (((y * Wn + x : Nat) : Int) / (Wn : Int)) = (y : Int) from quo_of hxl]
                obtain ⟨v, hv1, hv2⟩ := HRw.out.ob
                have hKb : y * Wn + x < N := by
                  rw [← HNe.out]
                  have h1 : (y + 1) * Wn ≤ Hn * Wn := Nat.mul_le_mul_right _ (by omega)
                  rw [Nat.succ_mul] at h1
                  rw [Nat.mul_comm Wn Hn]; omega
                obtain ⟨K, hK⟩ : ∃ K, y * Wn + x = K := ⟨_, rfl⟩
                have HK : Hid (y * Wn + x = K) := hK
                rw [hK] at hfv hv2 HRw hKb
                clear hK
                obtain ⟨av, cv, hve, hvc⟩ := owns_shapeV hv2
                subst hve
                have HOW : Hid (wr.heap[vb]? = some (.cells #[.int .i64 (Wn : Int), .int .i64 (Hn : Int), .slice av K cv] 41 (0, 0)) ∧ wr.ownsRow w.heap.size 49 4 (.slice av K cv) K (k4L (rvG Wn Hn F M L) K)) := ⟨hv1, hv2⟩
                obtain ⟨-, -, y2, -⟩ := three_cells hv1
                obtain ⟨f0, f1, f2, f3, -⟩ := four_cells HF.out.1
                have HFV : Hid (f = rvG Wn Hn F M L K) := hfv
                have HSZ : Hid (w.heap.size ≤ wr.heap.size) := HRw.out.be.size
                obtain ⟨c1, c2, c3, c4⟩ := f
                simp only at f0 f1 f2 f3
                clear hv1 hv2 hfv k0 k1 k2 k3 HQ HF
                go_wp2_with (at_builtin; refine wpList_append_own _ rfl _ _ 33 rfl w.heap.size 49 i0 (.agg #[.int .u16 0, .int .u16 0, .int .u16 0, .int .u16 0]) 4 8 Try.underlying33 hi hz0 hz1 hz2 rfl (by decide) (.slice av K cv) K (k4L (rvG Wn Hn F M L) K) rfl ?c0 ⟨wr.heap.size, 0, none⟩ 1 1 [.int .u16 c1, .int .u16 c2, .int .u16 c3, .int .u16 c4] rfl rfl ?c1 ?c2 ?c3 ?c4 ?c5 ?_)
                case c0 => exact owns_same HOW.out.2 fun j c _ hj => ((below_new wr _).block _ (lt_of_block hj)).trans hj
                case c1 =>
                  intro j u hj
                  match j, hj with
                  | 0, hj => simp at hj; subst hj; exact World.cell?_alloc_mark ..
                  | 1, hj => simp at hj; subst hj; exact World.cell?_alloc_mark ..
                  | 2, hj => simp at hj; subst hj; exact World.cell?_alloc_mark ..
                  | 3, hj => simp at hj; subst hj; exact World.cell?_alloc_mark ..
                case c2 => intro u hu; simp at hu; rcases hu with rfl | rfl | rfl | rfl <;> rfl
                case c3 => unfold maxLen; omega
                case c4 => omega
                case c5 => have := HSZ.out; simp; omega
                intro v7 w9 g1 g2 _
                have e4 : [Value.int .u16 c1, .int .u16 c2, .int .u16 c3, .int .u16 c4] = k4 (rvG Wn Hn F M L) K := by unfold k4; rw [← HFV.out]
                rw [e4] at g1
                obtain ⟨s1, s2, s3⟩ := HRw.out.push HLT.out HOW.out.1 HOW.out.2 g1 g2
                obtain ⟨a7, c7, hv7, -⟩ := owns_shapeV g1
                subst hv7
                have HN : Hid (RwI w c p k w.heap.size vb cb Wn Hn N F M L (y * Wn + (x + 1)) (w9.setCell ⟨vb, 2, none⟩ (.slice a7 (K + 1) c7))) := by rw [← Nat.add_assoc, HK.out]; exact s3
                clear g1 g2 e4 s3 HOW HRw f0 f1 f2 f3 y2
                go_wp2
                go_roundw
                case rel => exact ⟨x + 1, by omega, by go_num, HN⟩
                case measure => simp [intOf]; omega
          · obtain rfl : x = Wn := by omega
            have HN : Hid (RwI w c p k w.heap.size vb cb x Hn N F M L ((y + 1) * x) wr) := by rw [Nat.succ_mul]; exact HX.out
            clear HX
            go_wp2
            go_roundw
            case rel => exact ⟨y + 1, by omega, by go_num, HN⟩
            case measure => simp [intOf]; omega
      · obtain rfl : y = Hn := by omega
        obtain ⟨v, hv1, hv2⟩ := HY.out.ob
        have hyN : y * Wn = N := by rw [Nat.mul_comm]; exact HNe.out
        rw [hyN] at hv2
        obtain ⟨av, cv, hve, hvc⟩ := owns_shapeV hv2
        subst hve
        obtain ⟨y0, y1, y2, -⟩ := three_cells hv1
        obtain ⟨r0, r1, r2, fz⟩ := three_cells HY.out.re
        have z0 := fz 0
        have z1 := fz 1
        have z2 := fz 2
        have HE : Hid (ImT w Wn y N (rvG Wn y F M (cuL false)) (.returned (.agg #[.int .i64 (Wn : Int), .int .i64 (y : Int), .slice av N cv])) (((wr.setCell ⟨w.heap.size, 0, none⟩ (.int .i64 (Wn : Int))).setCell ⟨w.heap.size, 1, none⟩ (.int .i64 (y : Int))).setCell ⟨w.heap.size, 2, none⟩ (.slice av N cv))) := by
          rw [HLb.out]
          exact rw_fin HY.out.be HC.out.sz.pos HY.out.re hv2
        clear hv1 hv2 fz HY
        go_wp2
        refine bodyPost_ret (v := .agg #[.int .i64 (Wn : Int), .int .i64 (y : Int), .slice av N cv]) ?_ rfl HE.out
        rw [results_cellA rfl]
        go_simp
  | true =>
    have HV : Hid (RwI w c p k w.heap.size vb (w2.heap.size + 1) Wn Hn N F M L 0 ((w2.alloc (.cells (cuA (cuL false)) 76)).alloc (.cells (cuA (cuL true)) 76))) := by
      have hb : Below w2.heap.size w2 ((w2.alloc (.cells (cuA (cuL false)) 76)).alloc (.cells (cuA (cuL true)) 76)) := ((Below.refl _ w2).alloc (Nat.le_refl _) _).alloc (by simp) _
      refine rw_start HC.out HV2.out.1 HV2.out.2.1 HV2.out.2.2.1 HV2.out.2.2.2 hb ?_
      rw [← hLb]
      have := World.alloc_heap_new (w2.alloc (.cells (cuA (cuL false)) 76)) (.cells (cuA (cuL true)) 76)
      rwa [World.size_alloc] at this
    rw [show cuA (cuL false) = #[.int .i64 0, .int .i64 0, .int .i64 1, .int .i64 0, .int .i64 1, .int .i64 1, .int .i64 2, .int .i64 1, .int .i64 2, .int .i64 2, .int .i64 3, .int .i64 2, .int .i64 3, .int .i64 3] from rfl, show cuA (cuL true) = #[.int .i64 0, .int .i64 0, .int .i64 0, .int .i64 1, .int .i64 0, .int .i64 2, .int .i64 0, .int .i64 3] from rfl] at HV
    have hlen : L.length = 4 := by rw [← hLb]; rfl
    have HQL : Hid (L.length = 4) := hlen
    clear hLb hlen
    go_upto_region 5 with fail
    generalize (w2.alloc _).alloc _ = w3 at *
    generalize w2.heap.size + 1 = cb at *
    go_wp2
    go_loopw [7] (fun v wr => ∃ y : Nat, y ≤ Hn ∧ v = .int .i64 y ∧ Hid (RwI w c p k w.heap.size vb cb Wn Hn N F M L (y * Wn) wr)) (fun v _ => Hn - (intOf v).toNat)
    case atStart => exact ⟨0, Nat.zero_le _, rfl, by rw [Nat.zero_mul]; exact HV.out⟩
    case round =>
      clear HV
      obtain ⟨y, hy, rfl, HY⟩ := hrel
      obtain ⟨k0, k1, k2, k3⟩ := HY.out.rv.cells
      by_cases hyl : y < Hn
      · obtain ⟨w6, hw6⟩ : ∃ w6, w6 = wr := ⟨_, rfl⟩
        subst hw6
        go_wp2
        clear k0 k1 k2 k3
        go_loopw [8] (fun v wr => ∃ x : Nat, x ≤ Wn ∧ v = .int .i64 x ∧ Hid (RwI w c p k w.heap.size vb cb Wn Hn N F M L (y * Wn + x) wr)) (fun v _ => Wn - (intOf v).toNat)
        case atStart => exact ⟨0, Nat.zero_le _, rfl, HY.out⟩
        case round =>
          obtain ⟨x, hx, rfl, HX⟩ := hrel
          obtain ⟨k0, k1, k2, k3⟩ := HX.out.rv.cells
          by_cases hxl : x < Wn
          · obtain ⟨w7, hw7⟩ : ∃ w7, w7 = wr := ⟨_, rfl⟩
            subst hw7
            have HB8 : Hid (Below w7.heap.size w7 (w7.alloc (.cells #[.int .u16 0, .int .u16 0, .int .u16 0, .int .u16 0] 49)) ∧ (w7.alloc (.cells #[.int .u16 0, .int .u16 0, .int .u16 0, .int .u16 0] 49)).heap[w7.heap.size]? = some (.cells #[.int .u16 0, .int .u16 0, .int .u16 0, .int .u16 0] 49 (0, 0))) := ⟨below_new _ _, World.alloc_heap_new w7 _⟩
            go_upto_region 12 with fail
            generalize w7.alloc (.cells #[.int .u16 0, .int .u16 0, .int .u16 0, .int .u16 0] 49) = w8 at *
            obtain ⟨pb, hpb⟩ : ∃ pb, w7.heap.size = pb := ⟨_, rfl⟩
            have HPB : Hid (w7.heap.size = pb) := hpb
            rw [hpb] at HB8 ⊢
            clear hpb k0 k1 k2 k3
            go_wp2
            go_loopw [10] (fun v wx => ∃ q : Nat, q ≤ 4 ∧ v = .int .i64 ((q : Int) - 1) ∧ Hid (Below pb w7 wx ∧ ∃ f : Col, wx.heap[pb]? = some (.cells #[.int .u16 f.1, .int .u16 f.2.1, .int .u16 f.2.2.1, .int .u16 f.2.2.2] 49 (0, 0)) ∧ f = vwC Wn Hn F M x y z4 (L.drop q))) (fun v _ => (intOf v + 1).toNat)
            case atStart => exact ⟨4, Nat.le_refl _, rfl, HB8.out.1, z4, HB8.out.2, by rw [List.drop_of_length_le (by rw [HQL.out]; exact Nat.le_refl _)]; rfl⟩
            case round =>
              obtain ⟨q, hq, rfl, HQ⟩ := hrel
              have HRw : Hid (RwI w c p k w.heap.size vb cb Wn Hn N F M L (y * Wn + x) wr) := HX.out.old (by rw [HPB.out]; exact HQ.out.1)
              obtain ⟨k0, k1, k2, k3⟩ := HRw.out.rv.cells
              obtain ⟨f, hf, hfe⟩ := HQ.out.2
              have HF : Hid (wr.heap[pb]? = some (.cells #[.int .u16 f.1, .int .u16 f.2.1, .int .u16 f.2.2.1, .int .u16 f.2.2.2] 49 (0, 0)) ∧ f = vwC Wn Hn F M x y z4 (L.drop q)) := ⟨hf, hfe⟩
              clear hf hfe
              by_cases hq0 : 0 < q
              · obtain ⟨q', rfl⟩ : ∃ q', q = q' + 1 := ⟨q - 1, by omega⟩
                rw [show ((q' + 1 : Nat) : Int) - 1 = (q' : Int) by omega]
                have hct : wr.heap[cb]? = some (.cells (cuA L) 76 (0, 0)) := HRw.out.ct
                obtain ⟨g0, g1⟩ := cuA_at L q' (by rw [HQL.out]; omega)
                have e0 : wr.cell? ⟨cb, q' * 2, none⟩ = some (.int .i64 (cuX L q').1) := by simp [World.cell?, hct, g0]
                have e1 : wr.cell? ⟨cb, q' * 2 + 1, none⟩ = some (.int .i64 (cuX L q').2) := by simp [World.cell?, hct, g1]
                have hcu := HLL.out.1 q'
                have hbx := lowN_bd (n := (cuX L q').1) (v := (x : Int)) (by omega)
                have hby := lowN_bd (n := (cuX L q').2) (v := (y : Int)) (by omega)
                have hon : onC Wn Hn (lowN (cuX L q').1 x, lowN (cuX L q').2 y) = true := (onC_iff _ _ _).2 ⟨hbx.1, by show lowN _ _ < _; omega, hby.1, by show lowN _ _ < _; omega⟩
                obtain ⟨i1, i2, i3, hI⟩ := HC.out.sz.ix hon
                have HD : Hid (vwC Wn Hn F M x y z4 (L.drop q') = if M (ixC Wn (lowN (cuX L q').1 x, lowN (cuX L q').2 y)) then F (ixC Wn (lowN (cuX L q').1 x, lowN (cuX L q').2 y)) else f) := by
                  rw [HF.out.2]
                  have hd : L.drop q' = cuX L q' :: L.drop (q' + 1) := by
                    rw [List.drop_eq_getElem_cons (by rw [HQL.out]; omega)]
                    unfold cuX
                    rw [List.getElem?_eq_getElem (by rw [HQL.out]; omega)]
                    rfl
                  rw [hd]
                  show (if atB Wn Hn M (lowN (cuX L q').1 x, lowN (cuX L q').2 y) = true then F (ixC Wn (lowN (cuX L q').1 x, lowN (cuX L q').2 y)) else vwC Wn Hn F M x y z4 (L.drop (q' + 1))) = _
                  unfold atB
                  rw [hon]; rfl
                have CY := rlow_any (y : Int) (cuX L q').2 wr.drew (by omega) (by omega) hcu.2
                have CX := rlow_any (x : Int) (cuX L q').1 wr.drew (by omega) (by omega) hcu.1
                generalize ixC Wn (lowN (cuX L q').1 x, lowN (cuX L q').2 y) = I at *
                generalize lowN (cuX L q').1 x = X at *
                generalize lowN (cuX L q').2 y = Y at *
                generalize (cuX L q').1 = A at *
                generalize (cuX L q').2 = B at *
                simp only at i1 i2 i3
                have wm1 : IntKind.i64.wrap (Y * Wn) = Y * Wn := by rw [IntKind.wrap_i64]; omega
                have wm2 : IntKind.i64.wrap (Y * Wn + X) = (I : Int) := by rw [i3, IntKind.wrap_i64]; omega
                have kk := HRw.out.rv.kn.cell hI
                obtain ⟨p0, p1, p2, p3⟩ := HRw.out.rv.px.cells hI
                obtain ⟨f0, f1, f2, f3, fz⟩ := four_cells HF.out.1
                have z0 := fz 0
                have z1 := fz 1
                have z2 := fz 2
                have z3 := fz 3
                have hI0 : (I : Int) < (N : Int) := by omega
                have hq7 : (q' : Int) < 4 := by omega
                clear hct g0 g1 hcu hbx hby hon fz i1 i2 i3
                go_upto_region 15 with fail
                refine wp_region_still_tail 20 (by kernel_rfl) (by kernel_rfl) ?_
                simp only [List.take_succ_cons, List.take_zero, List.drop_succ_cons, List.drop_zero]
                rw [show ({ wr with drawn := wr.drawn + 1 } : World) = wr.drew from rfl]
                repeat still_step
                still_call CY
                repeat still_step
                still_call CX
                repeat still_step
                refine wpStill_nil ?_
                clear CX CY
                obtain ⟨mb, hmb⟩ : ∃ mb, M I = mb := ⟨_, rfl⟩
                rw [hmb] at kk HD
                clear hmb
                cases mb with
                | true =>
                  obtain ⟨⟨c1, c2, c3, c4⟩, hcl⟩ : ∃ cl : Col, F I = cl := ⟨_, rfl⟩
                  rw [hcl] at p0 p1 p2 p3 HD
                  simp only [if_true] at p0 p1 p2 p3 HD
                  have HN : Hid (Below pb w7 ((((wr.setCell ⟨pb, 0, none⟩ (.int .u16 c1)).setCell ⟨pb, 1, none⟩ (.int .u16 c2)).setCell ⟨pb, 2, none⟩ (.int .u16 c3)).setCell ⟨pb, 3, none⟩ (.int .u16 c4)).drew ∧ ∃ f : Col, ((((wr.setCell ⟨pb, 0, none⟩ (.int .u16 c1)).setCell ⟨pb, 1, none⟩ (.int .u16 c2)).setCell ⟨pb, 2, none⟩ (.int .u16 c3)).setCell ⟨pb, 3, none⟩ (.int .u16 c4)).drew.heap[pb]? = some (.cells #[.int .u16 f.1, .int .u16 f.2.1, .int .u16 f.2.2.1, .int .u16 f.2.2.2] 49 (0, 0)) ∧ f = vwC Wn Hn F M x y z4 (L.drop q')) := by
                    refine ⟨below_undrew2 ?_, (c1, c2, c3, c4), set4_heapU HF.out.1 _ _ _ _, HD.out.symm⟩
                    exact (((HQ.out.1.setCell (p := ⟨pb, 0, none⟩) (Nat.le_refl _) _).setCell (p := ⟨pb, 1, none⟩) (Nat.le_refl _) _).setCell (p := ⟨pb, 2, none⟩) (Nat.le_refl _) _).setCell (p := ⟨pb, 3, none⟩) (Nat.le_refl _) _
                  clear hcl HQ HF HRw
                  go_wp2
                  go_roundw
                  case rel => exact ⟨q', by omega, rfl, HN⟩
                  case measure => simp [intOf]
                | false =>
                  simp only [Bool.false_eq_true, if_false] at HD
                  have HN : Hid (Below pb w7 wr.drew ∧ ∃ f : Col, wr.drew.heap[pb]? = some (.cells #[.int .u16 f.1, .int .u16 f.2.1, .int .u16 f.2.2.1, .int .u16 f.2.2.2] 49 (0, 0)) ∧ f = vwC Wn Hn F M x y z4 (L.drop q')) := ⟨below_undrew2 HQ.out.1, f, HF.out.1, HD.out.symm⟩
                  clear HQ HF HRw
                  go_wp2
                  go_roundw
                  case rel => exact ⟨q', by omega, rfl, HN⟩
                  case measure => simp [intOf]
              · obtain rfl : q = 0 := by omega
                rw [show ((0 : Nat) : Int) - 1 = -1 from rfl]
                have hfv : f = rvG Wn Hn F M L (y * Wn + x) := by
                  rw [HF.out.2, List.drop_zero]
                  unfold rvG
                  rw [show (((y * Wn + x : Nat) : Int) % (Wn : Int)) = (x : Int) from rem_of hxl, show (((y * Wn + x : Nat) : Int) / (Wn : Int)) = (y : Int) from quo_of hxl]
                obtain ⟨v, hv1, hv2⟩ := HRw.out.ob
                have hKb : y * Wn + x < N := by
                  rw [← HNe.out]
                  have h1 : (y + 1) * Wn ≤ Hn * Wn := Nat.mul_le_mul_right _ (by omega)
                  rw [Nat.succ_mul] at h1
                  rw [Nat.mul_comm Wn Hn]; omega
                obtain ⟨K, hK⟩ : ∃ K, y * Wn + x = K := ⟨_, rfl⟩
                have HK : Hid (y * Wn + x = K) := hK
                rw [hK] at hfv hv2 HRw hKb
                clear hK
                obtain ⟨av, cv, hve, hvc⟩ := owns_shapeV hv2
                subst hve
                have HOW : Hid (wr.heap[vb]? = some (.cells #[.int .i64 (Wn : Int), .int .i64 (Hn : Int), .slice av K cv] 41 (0, 0)) ∧ wr.ownsRow w.heap.size 49 4 (.slice av K cv) K (k4L (rvG Wn Hn F M L) K)) := ⟨hv1, hv2⟩
                obtain ⟨-, -, y2, -⟩ := three_cells hv1
                obtain ⟨f0, f1, f2, f3, -⟩ := four_cells HF.out.1
                have HFV : Hid (f = rvG Wn Hn F M L K) := hfv
                have HSZ : Hid (w.heap.size ≤ wr.heap.size) := HRw.out.be.size
                obtain ⟨c1, c2, c3, c4⟩ := f
                simp only at f0 f1 f2 f3
                clear hv1 hv2 hfv k0 k1 k2 k3 HQ HF
                go_wp2_with (at_builtin; refine wpList_append_own _ rfl _ _ 33 rfl w.heap.size 49 i0 (.agg #[.int .u16 0, .int .u16 0, .int .u16 0, .int .u16 0]) 4 8 Try.underlying33 hi hz0 hz1 hz2 rfl (by decide) (.slice av K cv) K (k4L (rvG Wn Hn F M L) K) rfl ?c0 ⟨wr.heap.size, 0, none⟩ 1 1 [.int .u16 c1, .int .u16 c2, .int .u16 c3, .int .u16 c4] rfl rfl ?c1 ?c2 ?c3 ?c4 ?c5 ?_)
                case c0 => exact owns_same HOW.out.2 fun j c _ hj => ((below_new wr _).block _ (lt_of_block hj)).trans hj
                case c1 =>
                  intro j u hj
                  match j, hj with
                  | 0, hj => simp at hj; subst hj; exact World.cell?_alloc_mark ..
                  | 1, hj => simp at hj; subst hj; exact World.cell?_alloc_mark ..
                  | 2, hj => simp at hj; subst hj; exact World.cell?_alloc_mark ..
                  | 3, hj => simp at hj; subst hj; exact World.cell?_alloc_mark ..
                case c2 => intro u hu; simp at hu; rcases hu with rfl | rfl | rfl | rfl <;> rfl
                case c3 => unfold maxLen; omega
                case c4 => omega
                case c5 => have := HSZ.out; simp; omega
                intro v7 w9 g1 g2 _
                have e4 : [Value.int .u16 c1, .int .u16 c2, .int .u16 c3, .int .u16 c4] = k4 (rvG Wn Hn F M L) K := by unfold k4; rw [← HFV.out]
                rw [e4] at g1
                obtain ⟨s1, s2, s3⟩ := HRw.out.push HLT.out HOW.out.1 HOW.out.2 g1 g2
                obtain ⟨a7, c7, hv7, -⟩ := owns_shapeV g1
                subst hv7
                have HN : Hid (RwI w c p k w.heap.size vb cb Wn Hn N F M L (y * Wn + (x + 1)) (w9.setCell ⟨vb, 2, none⟩ (.slice a7 (K + 1) c7))) := by rw [← Nat.add_assoc, HK.out]; exact s3
                clear g1 g2 e4 s3 HOW HRw f0 f1 f2 f3 y2
                go_wp2
                go_roundw
                case rel => exact ⟨x + 1, by omega, by go_num, HN⟩
                case measure => simp [intOf]; omega
          · obtain rfl : x = Wn := by omega
            have HN : Hid (RwI w c p k w.heap.size vb cb x Hn N F M L ((y + 1) * x) wr) := by rw [Nat.succ_mul]; exact HX.out
            clear HX
            go_wp2
            go_roundw
            case rel => exact ⟨y + 1, by omega, by go_num, HN⟩
            case measure => simp [intOf]; omega
      · obtain rfl : y = Hn := by omega
        obtain ⟨v, hv1, hv2⟩ := HY.out.ob
        have hyN : y * Wn = N := by rw [Nat.mul_comm]; exact HNe.out
        rw [hyN] at hv2
        obtain ⟨av, cv, hve, hvc⟩ := owns_shapeV hv2
        subst hve
        obtain ⟨y0, y1, y2, -⟩ := three_cells hv1
        obtain ⟨r0, r1, r2, fz⟩ := three_cells HY.out.re
        have z0 := fz 0
        have z1 := fz 1
        have z2 := fz 2
        have HE : Hid (ImT w Wn y N (rvG Wn y F M (cuL true)) (.returned (.agg #[.int .i64 (Wn : Int), .int .i64 (y : Int), .slice av N cv])) (((wr.setCell ⟨w.heap.size, 0, none⟩ (.int .i64 (Wn : Int))).setCell ⟨w.heap.size, 1, none⟩ (.int .i64 (y : Int))).setCell ⟨w.heap.size, 2, none⟩ (.slice av N cv))) := by
          rw [HLb.out]
          exact rw_fin HY.out.be HC.out.sz.pos HY.out.re hv2
        clear hv1 hv2 fz HY
        go_wp2
        refine bodyPost_ret (v := .agg #[.int .i64 (Wn : Int), .int .i64 (y : Int), .slice av N cv]) ?_ rfl HE.out
        rw [results_cellA rfl]
        go_simp
end Go.Proofs.Ytjheipfcehddhaa
