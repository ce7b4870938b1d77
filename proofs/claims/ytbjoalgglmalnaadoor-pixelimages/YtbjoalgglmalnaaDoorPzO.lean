/- A raster that came in, with its table. -/
import Derived.Test.YtbjoalgglmalnaaDoorPxO
import Derived.Test.YtbjoalgglmalnaaDoorPzC
namespace Go.Proofs.YtbjoalgglmalnaaDoor
open Go.ChangeShapes Go.WideShapes Go.ChangeAt Go.WideMaps Go.WideElems Go.RowKit
theorem Tryd.cells59Z : Tryd.prog.cellsOf 64 = 3 := by kernel_rfl
theorem Tryd.cells5Z : Tryd.prog.cellsOf 5 = 1 := by kernel_rfl
theorem trod_tintsT {H : Type} {enc : TypeId × Value → H} {W : World} {v : Value} {n : Nat} {y : DataW H × List MemPlace} (h : DataW.trod enc Tryd.prog W 0 (fun _ => true) true n 38 [v] = some y) : ∃ a len cap T, v = .slice a len cap ∧ Row W a T ∧ Bytes T ∧ T.length = 3 * len := by
  rcases Deep.open_slice Tryd.underlying38 h with ⟨hcs, _⟩ | ⟨x, len, cap, m, n, D, Pl, hcs, _, hl, hm, hmm, hdx, hx⟩
  · simp at hcs
    exact ⟨none, 0, 0, [], hcs, .inl rfl, Bytes.nil, rfl⟩
  · simp at hcs
    subst hcs
    have hml : len ≤ m := by rw [hmm]; simp; exact hl
    have each : ∀ i, i < len → ∃ q : Int × Int × Int, (W.cell? (x.add (i * 3)) = some (.int .u8 q.1) ∧ W.cell? (x.add (i * 3 + 1)) = some (.int .u8 q.2.1) ∧ W.cell? (x.add (i * 3 + 2)) = some (.int .u8 q.2.2)) ∧ (0 ≤ q.1 ∧ q.1 < 256) ∧ (0 ≤ q.2.1 ∧ q.2.1 < 256) ∧ (0 ≤ q.2.2 ∧ q.2.2 < 256) := by
      intro i hi
      obtain ⟨cs', h1, h2⟩ := hx i (by omega)
      rw [Tryd.cells59Z] at h1
      obtain ⟨_, hlen, hcell⟩ := World.cells?_some h1
      obtain ⟨xs, k, hk, hxy, _, hxl, hff⟩ := DataW.trod_struct Tryd.underlying64 h2
      match xs, hxl, cs', hlen, hxy with
      | [y0, y1, y2], _, [v0, v1, v2], _, hxy =>
        have g0 := hff 0 _ rfl
        have g1 := hff 1 _ rfl
        have g2 := hff 2 _ rfl
        simp [Tryd.cells5Z] at g0 g1 g2
        obtain ⟨k0, e0, _, w0⟩ := DataW.trod_int Tryd.underlying5 g0
        obtain ⟨k1, e1, _, w1⟩ := DataW.trod_int Tryd.underlying5 g1
        obtain ⟨k2, e2, _, w2⟩ := DataW.trod_int Tryd.underlying5 g2
        simp at e0 e1 e2
        subst e0 e1 e2
        have c0 := hcell 0 (by omega)
        have c1 := hcell 1 (by omega)
        have c2 := hcell 2 (by omega)
        rw [Deep.add_add] at c0 c1 c2
        have b0 := bounds_u8 w0
        have b1 := bounds_u8 w1
        have b2 := bounds_u8 w2
        exact ⟨(k0, k1, k2), ⟨by simpa using c0, by simpa using c1, by simpa using c2⟩, (by omega : 0 ≤ k0 ∧ k0 < 256), (by omega : 0 ≤ k1 ∧ k1 < 256), (by omega : 0 ≤ k2 ∧ k2 < 256)⟩
    have hne : Inhabited (Int × Int × Int) := ⟨(0, 0, 0)⟩
    obtain ⟨F, hF⟩ := Deep.choose_lt each
    refine ⟨some x, len, cap, (List.range (3 * len)).map fun i => if i % 3 = 0 then (F (i / 3)).1 else if i % 3 = 1 then (F (i / 3)).2.1 else (F (i / 3)).2.2, rfl, ?_, ?_, by simp⟩
    rotate_left
    · intro z hz
      simp only [List.mem_map, List.mem_range] at hz
      obtain ⟨i, hi, rfl⟩ := hz
      have h := (hF (i / 3) (by omega)).2
      split
      · exact h.1
      · split
        · exact h.2.1
        · exact h.2.2
    · by_cases hz : len = 0
      · subst hz; exact .inl rfl
      · obtain ⟨bb, off, spot⟩ := x
        have hc := (hF 0 (by omega)).1.1
        have hspot : spot = none := by simpa [Addr.add] using World.cell?_spot hc
        subst hspot
        refine .inr ⟨bb, off, rfl, fun i hi => ?_⟩
        simp only [List.length_map, List.length_range] at hi
        have h := (hF (i / 3) (by omega)).1
        simp only [Addr.add_lit] at h
        simp only [List.getElem?_map, List.getElem?_range hi, Option.map_some, Option.getD_some]
        rcases (show i % 3 = 0 ∨ i % 3 = 1 ∨ i % 3 = 2 by omega) with e | e | e
        · rw [if_pos e, ← h.1, show i = i / 3 * 3 by omega]; simp
        · rw [if_neg (by omega), if_pos e, ← h.2.1, show off + i = off + (i / 3 * 3 + 1) by omega]
        · rw [if_neg (by omega), if_neg (by omega), ← h.2.2, show off + i = off + (i / 3 * 3 + 2) by omega]
theorem open_rasterT {H : Type} {enc : TypeId × Value → H} {W : World} {r : Reach} {b0 : Nat} {v : Value} {d : DataW H} {p : List MemPlace} (hv : Value.okWide Tryd.prog W r b0 40 v) (h : DataW.Trod enc Tryd.prog W 0 (fun _ => true) true 40 v d p) :
    ∃ (x : Rs) (A K S T : List Int), v = x.V ∧ RsA W x A K S ∧ TiM W x T := by
  obtain ⟨cs, rfl, hsz⟩ := okWide_struct Tryd.underlying40 hv
  obtain ⟨v0, v1, v2, v3, v4, v5, v6, v7, v8, rfl⟩ := array9 (hsz.trans Tryd.cellsRs)
  obtain ⟨fuel, hf⟩ := h
  obtain ⟨xs, n, _, _, _, hlen, hel⟩ := DataW.trod_struct Tryd.underlying40 hf
  have hl5 : xs.length = 5 := hlen
  have q (i : Nat) (hi : i < 5) : ∃ y, xs[i]? = some y := ⟨_, List.getElem?_eq_getElem (by omega)⟩
  obtain ⟨y0, e0⟩ := q 0 (by omega)
  obtain ⟨y1, e1⟩ := q 1 (by omega)
  obtain ⟨y2, e2⟩ := q 2 (by omega)
  obtain ⟨y3, e3⟩ := q 3 (by omega)
  obtain ⟨y4, e4⟩ := q 4 (by omega)
  have h0 := hel 0 _ rfl
  have h1 := hel 1 _ rfl
  have h2 := hel 2 _ rfl
  have h3 := hel 3 _ rfl
  have h4 := hel 4 _ rfl
  rw [e0] at h0
  rw [e1] at h1
  rw [e2] at h2
  rw [e3] at h3
  rw [e4] at h4
  simp [Value.cells, Tryd.cellsHr, Tryd.cellsTs, Tryd.cellsIs] at h0 h1 h2 h3 h4
  obtain ⟨ta, tn, tc, T, rfl, gt, bt, nt⟩ := trod_tintsT h1
  obtain ⟨aa, an, ac, A, rfl, ga, na⟩ := trod_irow h2
  obtain ⟨ca, cn, cc, K, rfl, gk, nk⟩ := trod_irow h3
  obtain ⟨sa, sn, sc, S, rfl, gs, ns⟩ := trod_irow h4
  obtain ⟨zs, m, _, _, _, hlen2, hel2⟩ := DataW.trod_struct Tryd.underlying37 h0
  have hz5 : zs.length = 5 := hlen2
  have q2 (i : Nat) (hi : i < 5) : ∃ y, zs[i]? = some y := ⟨_, List.getElem?_eq_getElem (by omega)⟩
  obtain ⟨z0, t0⟩ := q2 0 (by omega)
  obtain ⟨z1, t1⟩ := q2 1 (by omega)
  obtain ⟨z2, t2⟩ := q2 2 (by omega)
  obtain ⟨z3, t3⟩ := q2 3 (by omega)
  obtain ⟨z4, t4⟩ := q2 4 (by omega)
  have u0 := hel2 0 _ rfl
  have u1 := hel2 1 _ rfl
  have u2 := hel2 2 _ rfl
  have u3 := hel2 3 _ rfl
  have u4 := hel2 4 _ rfl
  rw [t0] at u0
  rw [t1] at u1
  rw [t2] at u2
  rw [t3] at u3
  rw [t4] at u4
  have c3 : Tryd.prog.cellsOf 3 = 1 := by kernel_rfl
  have c4 : Tryd.prog.cellsOf 4 = 1 := by kernel_rfl
  obtain ⟨k0, g0, _, w0⟩ := DataW.trod_int Tryd.underlying3 u0
  obtain ⟨k1, g1, _, w1⟩ := DataW.trod_int Tryd.underlying3 u1
  obtain ⟨k2, g2, _, w2⟩ := DataW.trod_int Tryd.underlying3 u2
  obtain ⟨k3, g3, _, w3⟩ := DataW.trod_int Tryd.underlying3 u3
  obtain ⟨k4, g4, _⟩ := DataW.trod_bool Tryd.underlying4 u4
  simp [c3, c4] at g0 g1 g2 g3 g4
  subst g0 g1 g2 g3 g4
  exact ⟨⟨k0, k1, k2, k3, k4, ta, tn, tc, aa, an, ac, ca, cn, cc, sa, sn, sc⟩, A, K, S, T, rfl, ⟨ga, na, gk, nk, gs, ns⟩, ⟨gt, bt, nt⟩⟩
set_option maxHeartbeats 6400000 in
theorem pcolors_walk (r : Rs) (A K S T : List Int) (la : Option Addr) (ln lc : Nat) (w : World) (ht : Tab w) (hm : RsA w r A K S ∧ TiM w r T) (ha : IArg w la ln lc) : Calls Tryd.prog 7 #[r.V, .slice la ln lc] w fun e w' => e = .returned (.bool true) ∧ Below w.heap.size w w' := by
  obtain ⟨l, hln, _, _, _, hl⟩ := ha
  have HQ : Hid (QR w r.c9 _) := QR.box w r.c9
  have C0 := fixed_any _ (ht.old HQ.out.1)
  have HFe : Hid (∀ u, QR w r.c9 u → Calls Tryd.prog 16 #[r.V] u fun e w' => e = .returned (.bool (decide (r.sn ≤ 5000 ∧ r.tn ≤ 300 ∧ r.an ≤ 300 ∧ r.cn ≤ 10))) ∧ QR w r.c9 w') := fun u h => (few_any r u).mono fun e w' q => ⟨q.1, h.old q.2⟩
  have HCk : Hid (decide (r.sn ≤ 5000 ∧ r.tn ≤ 300 ∧ r.an ≤ 300 ∧ r.cn ≤ 10) = true → ln ≤ 100 → ∃ a b c d e, OfC 19 w r la ln lc a b c d e ∧ OfC 20 w r la ln lc a b c d e) := fun hf h100 => both_of r A K S T la ln lc l w ht (hm.1.few (of_decide_eq_true hf)) hm.2 hl hln (by omega)
  obtain ⟨F, hF⟩ : ∃ F, decide (r.sn ≤ 5000 ∧ r.tn ≤ 300 ∧ r.an ≤ 300 ∧ r.cn ≤ 10) = F := ⟨_, rfl⟩
  rw [hF] at HFe HCk
  clear hF ht hm hl hln
  obtain ⟨W, H, C, D, L, ta, tn, tc, aa, an, ac, ca, cn, cc, sa, sn, sc⟩ := r
  unfold OfC at *
  unfold Rs.V at *
  unfold Rs.c9 at *
  simp only at *
  go_enter Tryd.func7, Tryd.ntmps7
  go_wp2_with fail
  refine C0.mono ?_
  clear C0
  rintro e w1 ⟨rfl, hb1⟩
  have HQ1 : Hid (QR w #[.int .i64 W, .int .i64 H, .int .i64 C, .int .i64 D, .bool L, .slice ta tn tc, .slice aa an ac, .slice ca cn cc, .slice sa sn sc] w1) := HQ.out.old hb1
  clear hb1 HQ
  obtain ⟨c0, c1, c2, c3, c4, c5, c6, c7, c8⟩ := nine_cells HQ1.out.2
  have CF := HFe.out w1 HQ1.out
  go_wp2_with fail
  refine CF.mono ?_
  clear CF HFe
  rintro e w2 ⟨rfl, q2⟩
  have HQ2 : Hid (QR w #[.int .i64 W, .int .i64 H, .int .i64 C, .int .i64 D, .bool L, .slice ta tn tc, .slice aa an ac, .slice ca cn cc, .slice sa sn sc] w2) := q2
  clear q2 HQ1 c0 c1 c2 c3 c4 c5 c6 c7 c8
  cases F
  · go_wp2
    go_ret
    exact ⟨rfl, HQ2.out.1⟩
  · by_cases h100 : ln ≤ 100
    · obtain ⟨a, b, c, d, e, k1, k2⟩ := HCk.out rfl h100
      have HK2 : Hid _ := k2
      clear HCk k2
      obtain ⟨c0, c1, c2, c3, c4, c5, c6, c7, c8⟩ := nine_cells HQ2.out.2
      have CC := k1 w2 HQ2.out.1
      clear k1
      go_wp2_with fail
      refine CC.mono ?_
      clear CC
      rintro en w3 ⟨rfl, hb3⟩
      obtain ⟨w4, hw4⟩ : ∃ w4, w3.alloc (.cells #[.int .u16 a, .int .u16 b, .int .u16 c, .int .u16 d] 45) = w4 := ⟨_, rfl⟩
      have hb34 : Below w3.heap.size w3 w4 := by rw [← hw4]; exact (Below.refl _ _).alloc (Nat.le_refl _) _
      have HQ4 : Hid (QR w #[.int .i64 W, .int .i64 H, .int .i64 C, .int .i64 D, .bool L, .slice ta tn tc, .slice aa an ac, .slice ca cn cc, .slice sa sn sc] w4) := (HQ2.out.old hb3).old hb34
      have hblk : w4.heap[w3.heap.size]? = some (.cells #[.int .u16 a, .int .u16 b, .int .u16 c, .int .u16 d] 45 (0, 0)) := by rw [← hw4]; exact heap_alloc_newX w3 _
      have HBk : Hid (w4.heap[w3.heap.size]? = some (.cells #[.int .u16 a, .int .u16 b, .int .u16 c, .int .u16 d] 45 (0, 0))) := hblk
      clear c0 c1 c2 c3 c4 c5 c6 c7 c8 hb34 hblk hb3 HQ2
      obtain ⟨c0, c1, c2, c3, c4, c5, c6, c7, c8⟩ := nine_cells HQ4.out.2
      have CC := HK2.out w4 HQ4.out.1
      clear HK2
      go_wp2_with fail
      refine CC.mono ?_
      clear CC
      rintro en w5 ⟨rfl, hb5⟩
      have hw35 : w3.heap.size < w5.heap.size := by have := lt_of_block HBk.out; have := hb5.size; omega
      have hk5 : w5.heap[w3.heap.size]? = some (.cells #[.int .u16 a, .int .u16 b, .int .u16 c, .int .u16 d] 45 (0, 0)) := (hb5.block _ (lt_of_block HBk.out)).trans HBk.out
      obtain ⟨w6, hw6⟩ : ∃ w6, w5.alloc (.cells #[.int .u16 a, .int .u16 b, .int .u16 c, .int .u16 d] 45) = w6 := ⟨_, rfl⟩
      have hb56 : Below w5.heap.size w5 w6 := by rw [← hw6]; exact (Below.refl _ _).alloc (Nat.le_refl _) _
      have HB6 : Hid (Below w.heap.size w w6) := ((HQ4.out.old hb5).old hb56).1
      have hk6 : w6.heap[w3.heap.size]? = some (.cells #[.int .u16 a, .int .u16 b, .int .u16 c, .int .u16 d] 45 (0, 0)) := (hb56.block _ hw35).trans hk5
      have hk7 : w6.heap[w5.heap.size]? = some (.cells #[.int .u16 a, .int .u16 b, .int .u16 c, .int .u16 d] 45 (0, 0)) := by rw [← hw6]; exact heap_alloc_newX w5 _
      have m0 : w6.cell? ⟨w3.heap.size, 0, none⟩ = some (.int .u16 a) := by simp [World.cell?, hk6]
      have m1 : w6.cell? ⟨w3.heap.size, 1, none⟩ = some (.int .u16 b) := by simp [World.cell?, hk6]
      have m2 : w6.cell? ⟨w3.heap.size, 2, none⟩ = some (.int .u16 c) := by simp [World.cell?, hk6]
      have m3 : w6.cell? ⟨w3.heap.size, 3, none⟩ = some (.int .u16 d) := by simp [World.cell?, hk6]
      have n0 : w6.cell? ⟨w5.heap.size, 0, none⟩ = some (.int .u16 a) := by simp [World.cell?, hk7]
      have n1 : w6.cell? ⟨w5.heap.size, 1, none⟩ = some (.int .u16 b) := by simp [World.cell?, hk7]
      have n2 : w6.cell? ⟨w5.heap.size, 2, none⟩ = some (.int .u16 c) := by simp [World.cell?, hk7]
      have n3 : w6.cell? ⟨w5.heap.size, 3, none⟩ = some (.int .u16 d) := by simp [World.cell?, hk7]
      clear hk5 hk6 hk7 hb56 hb5 HQ4 HBk hw4 hw35 c0 c1 c2 c3 c4 c5 c6 c7 c8
      go_wp2
      go_ret
      exact ⟨by simp, HB6.out⟩
    · have h101 : (100 : Int) < (ln : Int) := by omega
      go_wp2
      go_ret
      exact ⟨rfl, HQ2.out.1⟩
end Go.Proofs.YtbjoalgglmalnaaDoor
