/- Joined: PzWb PzXb. -/
import Derived.Test.YtbjoalgglmalnaaDoorJZ1
import Derived.Deep.Slices
/- PixelImages: the walk. -/
namespace Go.Proofs.YtbjoalgglmalnaaDoor
open Go.ChangeShapes Go.WideShapes Go.ChangeAt Go.WideMaps Go.WideElems Go.RowKit
theorem ivals_oneZ (l : List Int) : ∀ u ∈ ivals l, u.oneCell' = true := by
  intro u hu
  simp only [ivals, List.mem_map] at hu
  obtain ⟨z, _, rfl⟩ := hu
  rfl
theorem inews_rowZ {w : World} {x : Addr} {l : List Int} (h : IRow w (some x) l) : ∀ j u, (ivals l)[j]? = some u → w.cell? (x.add j) = some u := by
  intro j u hj
  rcases h with rfl | ⟨b, off, hx, hc⟩
  · simp [ivals] at hj
  · simp at hx
    subst hx
    simp only [ivals, List.getElem?_map, Option.map_eq_some_iff] at hj
    obtain ⟨z, hz, rfl⟩ := hj
    have hlt : j < l.length := by
      by_cases h : j < l.length
      · exact h
      · rw [List.getElem?_eq_none (by omega)] at hz; cases hz
    have := hc j hlt
    rw [hz] at this
    rw [Addr.add_lit]
    simpa using this
/-- 'append(s, x...)', x ints that lie in memory, or nil. -/
theorem wpList_moreI {w : World} {ops : Array Oper} {rest : List Oper} {o : Oper} {a : Act} {Q : Exit → Act → World → Prop} (hgd : o.guard = none) (s x : Operand)
    (ho : o.op = .call { callee := .builtin .append, args := #[s, x], argTypes := #[22, 22] })
    (v : Value) (g : Option Nat) (zs : List Int) (hs : a.eval s = v) (hsl : Sl w 3 v g (ivals zs))
    (ad : Option Addr) (m c : Nat) (ys : List Int) (hx : a.eval x = .slice ad m c) (hc : ad = none → c = 0) (hm : ys.length = m) (hr : IRow w ad ys) (hlen : zs.length + m ≤ 100000000)
    (h : ∀ v' w' g', Sl w' 3 v' g' (ivals (zs ++ ys)) → (g' = g ∨ ∃ k, g' = some k ∧ w.heap.size ≤ k) → w.grownBy w' g → wpList Tryd.prog ops Q rest (a.put o.dst v') w') : wpList Tryd.prog ops Q (o :: rest) a w := by
  obtain ⟨i0, hi, hz0, hz1, hz2⟩ := info_parts Tryd.info3Z
  cases ad with
  | none =>
    have hb : ys = [] := by
      rcases hr with h | ⟨b, off, h, _⟩
      · exact h
      · cases h
    have hc0 := hc rfl
    subst hb hc0
    simp at hm
    subst hm
    obtain ⟨a', c', hv, hle, _⟩ := hsl.shape
    subst hv
    refine wpList_append_sl_none hgd s x 22 ho 3 i0 Tryd.underlying22 hi _ _ _ hs hle hx ?_
    exact h _ w g (by simpa using hsl) (.inl rfl) ⟨rfl, rfl, rfl, Nat.le_refl _, fun _ _ _ => rfl⟩
  | some y =>
    refine wpList_append_sl hgd s x 22 ho 3 i0 (.int .i64 0) 8 Tryd.underlying22 hi hz0 hz1 hz2 rfl _ _ _ hs hsl y m c (ivals ys) hx (by rw [ivals_len]; exact hm) (inews_rowZ hr) (ivals_oneZ ys) (by rw [ivals_len]; omega) (by rw [ivals_len]; unfold maxLen; omega) ?_
    intro v' w' g' h1 h2 h3
    exact h v' w' g' (by rw [ivals_append]; exact h1) h2 h3
theorem trod_irowC {H : Type} {enc : TypeId × Value → H} {W : World} {v : Value} {n : Nat} {y : DataW H × List MemPlace} (h : DataW.trod enc Tryd.prog W 0 (fun _ => true) true n 22 [v] = some y) : ∃ a len cap zs, v = .slice a len cap ∧ IRow W a zs ∧ zs.length = len ∧ len ≤ cap ∧ cap ≤ maxLen ∧ (a = none → cap = 0) := by
  rcases open_ints Tryd.underlying22 Tryd.underlying3 Tryd.cells3 h with ⟨hcs, _⟩ | ⟨x, l, c, zs, hcs, _, hl, hm, hz, hx, hcell, hwz⟩
  · simp at hcs
    exact ⟨none, 0, 0, [], hcs, .inl rfl, rfl, Nat.le_refl _, by unfold maxLen; omega, fun _ => rfl⟩
  · simp at hcs
    simp only [if_true] at hz
    exact ⟨some x, l, c, zs.take l, hcs, irow_of_arg (by omega) hcell, by rw [List.length_take]; omega, hl, hm, fun h => by cases h⟩
theorem open_rasterC {H : Type} {enc : TypeId × Value → H} {W : World} {r : Reach} {b0 : Nat} {v : Value} {d : DataW H} {p : List MemPlace} (hv : Value.okWide Tryd.prog W r b0 40 v) (h : DataW.Trod enc Tryd.prog W 0 (fun _ => true) true 40 v d p) :
    ∃ (x : Rs) (A K S T : List Int), v = x.V ∧ RsA W x A K S ∧ TiM W x T ∧ x.sn ≤ x.sc ∧ x.sc ≤ maxLen ∧ (x.sa = none → x.sc = 0) := by
  obtain ⟨cs, rfl, hsz⟩ := okWide_struct Tryd.underlying40 hv
  obtain ⟨v0, v1, v2, v3, v4, v5, v6, v7, v8, rfl⟩ := array9 (hsz.trans Tryd.cellsRs)
  obtain ⟨fuel, hf⟩ := h
  obtain ⟨xs, n, _, _, _, hlen, hel⟩ := DataW.trod_struct Tryd.underlying40 hf
  have hl5 : xs.length = 5 := hlen
  have q (i : Nat) (hi : i < 5) : ∃ y, xs[i]? = some y := ⟨_, List.getElem?_eq_getElem (by omega)⟩
  obtain ⟨y0, e0⟩ := q 0 (by omega)
  obtain ⟨y1, e1⟩ := q 1 (by omega)
  obtain ⟨y2, e2⟩ := q 2 (by omega)
  obtain ⟨y3, e3⟩ := q 3 (by omega)
  obtain ⟨y4, e4⟩ := q 4 (by omega)
  have h0 := hel 0 _ rfl
  have h1 := hel 1 _ rfl
  have h2 := hel 2 _ rfl
  have h3 := hel 3 _ rfl
  have h4 := hel 4 _ rfl
  rw [e0] at h0
  rw [e1] at h1
  rw [e2] at h2
  rw [e3] at h3
  rw [e4] at h4
  simp [Value.cells, Tryd.cellsHr, Tryd.cellsTs, Tryd.cellsIs] at h0 h1 h2 h3 h4
  obtain ⟨ta, tn, tc, T, rfl, gt, bt, nt⟩ := trod_tintsT h1
  obtain ⟨aa, an, ac, A, rfl, ga, na⟩ := trod_irow h2
  obtain ⟨ca, cn, cc, K, rfl, gk, nk⟩ := trod_irow h3
  obtain ⟨sa, sn, sc, S, rfl, gs, ns, cs1, cs2, cs3⟩ := trod_irowC h4
  obtain ⟨zs, m, _, _, _, hlen2, hel2⟩ := DataW.trod_struct Tryd.underlying37 h0
  have hz5 : zs.length = 5 := hlen2
  have q2 (i : Nat) (hi : i < 5) : ∃ y, zs[i]? = some y := ⟨_, List.getElem?_eq_getElem (by omega)⟩
  obtain ⟨z0, t0⟩ := q2 0 (by omega)
  obtain ⟨z1, t1⟩ := q2 1 (by omega)
  obtain ⟨z2, t2⟩ := q2 2 (by omega)
  obtain ⟨z3, t3⟩ := q2 3 (by omega)
  obtain ⟨z4, t4⟩ := q2 4 (by omega)
  have u0 := hel2 0 _ rfl
  have u1 := hel2 1 _ rfl
  have u2 := hel2 2 _ rfl
  have u3 := hel2 3 _ rfl
  have u4 := hel2 4 _ rfl
  rw [t0] at u0
  rw [t1] at u1
  rw [t2] at u2
  rw [t3] at u3
  rw [t4] at u4
  have c3 : Tryd.prog.cellsOf 3 = 1 := by kernel_rfl
  have c4 : Tryd.prog.cellsOf 4 = 1 := by kernel_rfl
  obtain ⟨k0, g0, _, w0⟩ := DataW.trod_int Tryd.underlying3 u0
  obtain ⟨k1, g1, _, w1⟩ := DataW.trod_int Tryd.underlying3 u1
  obtain ⟨k2, g2, _, w2⟩ := DataW.trod_int Tryd.underlying3 u2
  obtain ⟨k3, g3, _, w3⟩ := DataW.trod_int Tryd.underlying3 u3
  obtain ⟨k4, g4, _⟩ := DataW.trod_bool Tryd.underlying4 u4
  simp [c3, c4] at g0 g1 g2 g3 g4
  subst g0 g1 g2 g3 g4
  exact ⟨⟨k0, k1, k2, k3, k4, ta, tn, tc, aa, an, ac, ca, cn, cc, sa, sn, sc⟩, A, K, S, T, rfl, ⟨ga, na, gk, nk, gs, ns⟩, ⟨gt, bt, nt⟩, cs1, cs2, cs3⟩
/-- What both calls of Image answer. -/
def ImAny (u : World) (W H : Int) (N : Nat) (F : Nat → Int × Int × Int × Int) (er : Int) (e : Ending) (w' : World) : Prop :=
  ∃ a c, e = .returned (.tuple #[.agg #[.int .i64 W, .int .i64 H, .slice a N c], .int .i64 er]) ∧ w'.ownsRow u.heap.size 45 4 (.slice a N c) N (colL F N) ∧ Below u.heap.size u w'
theorem irow_part {w : World} {b off : Nat} {S : List Int} (h : IRow w (some ⟨b, off, none⟩) S) (k n : Nat) (hk : k + n ≤ S.length) : IRow w (some ⟨b, off + k, none⟩) ((S.drop k).take n) := by
  by_cases hn : n = 0
  · subst hn; exact .inl (by simp)
  · rcases h with rfl | ⟨b', off', e, hc⟩
    · simp at hk; omega
    · simp only [Option.some.injEq, Addr.mk.injEq, and_true] at e
      obtain ⟨rfl, rfl⟩ := e
      refine .inr ⟨b, off + k, rfl, fun i hi => ?_⟩
      rw [List.length_take, List.length_drop] at hi
      rw [Nat.add_assoc, hc (k + i) (by omega), List.getElem?_take, if_pos (by omega), List.getElem?_drop]
theorem both_image (r : Rs) (sa' : Option Addr) (sc' : Nat) (A K S T : List Int) (w : World) (ht : Tab w) (hm : RsM w r A K S) (hm' : RsM w { r with sa := sa', sc := sc' } A K S) (hti : TiM w r T) (hfew : r.sn ≤ 5000) (hc : r.sn ≤ r.sc ∧ r.sc ≤ maxLen) (hc' : r.sn ≤ sc' ∧ sc' ≤ maxLen) :
    ∃ W H N F er, N ≤ 65536 ∧ (∀ u, Below w.heap.size w u → Calls Tryd.prog 21 #[({ r with sa := sa', sc := sc' } : Rs).V] u fun e w' => ImAny u W H N F er e w') ∧ (∀ u, Below w.heap.size w u → Calls Tryd.prog 22 #[r.V] u fun e w' => ImAny u W H N F er e w') := by
  by_cases hch : chE r.W r.H r.C r.D r.tn A K S = 0
  · have hk : ckE r.W r.H r.C r.D r.tn A K = 0 := by
      by_cases q : ckE r.W r.H r.C r.D r.tn A K = 0
      · exact q
      · unfold chE at hch; rw [if_neg q] at hch; exact absurd hch q
    have hs : smE r.C r.D r.tn S (r.W * r.H) = 0 := by unfold chE at hch; rw [if_pos hk] at hch; rw [smE_nmE]; exact hch
    obtain ⟨s1, s2, s3⟩ := smE_len hs
    obtain ⟨_, f2, f3⟩ := may_facts (ckE_may hk)
    obtain ⟨N, hN⟩ : ∃ N : Nat, r.W * r.H = N := ⟨(r.W * r.H).toNat, by omega⟩
    obtain ⟨n, hn⟩ : ∃ n : Nat, spN r.C = n := ⟨(spN r.C).toNat, by omega⟩
    have hT : N * n = r.sn := by
      rw [hN, hn, hm.sn] at s1
      have : ((N * n : Nat) : Int) = (r.sn : Int) := by rw [Int.natCast_mul]; exact s1.symm
      omega
    have hSl : S.length = r.sn := hm.sn
    rw [hN] at f2
    rw [hn] at f3
    have hpos : 1 ≤ N * n := Nat.mul_pos (by omega) (by omega)
    obtain ⟨b, off, hsa, _⟩ := hm.s.at 0 (by omega)
    obtain ⟨b', off', hsa', _⟩ := hm'.s.at 0 (by omega)
    have hsa2 : sa' = some ⟨b', off', none⟩ := hsa'
    subst hsa2
    have each : ∀ i, i < N → ∃ q : Int × Int × Int × Int, ColC w { r with sa := some ⟨b', off', none⟩, sc := sc' } (some ⟨b', off' + i * n, none⟩) n q.1 q.2.1 q.2.2.1 q.2.2.2 ∧ ∀ lc, OfC 20 w r (some ⟨b, off + i * n, none⟩) n lc q.1 q.2.1 q.2.2.1 q.2.2.2 0 := fun i hi => by
      have hin : i * n + n ≤ S.length := by
        have := Nat.mul_le_mul_right n (show i + 1 ≤ N by omega)
        rw [Nat.add_mul] at this; omega
      have hsub : ∀ x ∈ (S.drop (i * n)).take n, x ∈ S := fun x hx => List.mem_of_mem_drop (List.mem_of_mem_take hx)
      have hlen : ((S.drop (i * n)).take n).length = n := by rw [List.length_take, List.length_drop]; omega
      have hs1 : smE r.C r.D r.tn ((S.drop (i * n)).take n) 1 = 0 := by
        unfold smE
        rw [if_pos ⟨by rw [hlen, hn]; omega, fun x hx => s2 x (hsub x hx)⟩, if_neg (fun q => q.2 (fun x hx => s3 q.1 x (hsub x hx)))]
      have r1 := hm.s
      rw [hsa] at r1
      obtain ⟨p, q, x, y, k1, k2⟩ := both_col r (some ⟨b', off', none⟩) sc' A K S T (some ⟨b, off + i * n, none⟩) (some ⟨b', off' + i * n, none⟩) n ((S.drop (i * n)).take n) w hm hm' hti (irow_part r1 _ _ hin) (irow_part hm'.s _ _ hin) hlen hk hs1
      exact ⟨(p, q, x, y), k1, k2⟩
    have hne : Inhabited (Int × Int × Int × Int) := ⟨(0, 0, 0, 0)⟩
    obtain ⟨F, hF⟩ := Deep.choose_lt each
    refine ⟨r.W, r.H, N, F, 0, by omega, fun u hu => ?_, fun u hu => ?_⟩
    · exact image_yes { r with sa := some ⟨b', off', none⟩, sc := sc' } A K S w u b' off' n N F rfl (ht.old hu) (hm'.old hu) hch hn (by omega) hN (by omega) hT hfew hc' hu (fun i hi => (hF i hi).1)
    · exact rimage_yes r A K S w u b off n N F hsa (hm.old hu) hch hn (by omega) (by omega) hT hfew hc hu (fun i hi lc => (hF i hi).2 lc)
  · refine ⟨0, 0, 0, fun _ => (0, 0, 0, 0), chE r.W r.H r.C r.D r.tn A K S, by omega, fun u hu => ?_, fun u hu => ?_⟩
    · exact (image_no { r with sa := sa', sc := sc' } A K S u (ht.old hu) (hm'.old hu) hch).mono fun e w' q => ⟨none, 0, q.1, World.ownsRow_nil _ _ _ _, q.2⟩
    · exact (rimage_no r A K S u (hm.old hu) hch).mono fun e w' q => ⟨none, 0, q.1, World.ownsRow_nil _ _ _ _, q.2⟩
end Go.Proofs.YtbjoalgglmalnaaDoor
/- PixelImages: the walk. -/
namespace Go.Proofs.YtbjoalgglmalnaaDoor
open Go.RowKit
theorem three_cells {w : World} {g : Nat} {a b c : Value} {t : TypeId} (h : w.heap[g]? = some (.cells #[a, b, c] t (0, 0))) : w.cell? ⟨g, 0, none⟩ = some a ∧ w.cell? ⟨g, 1, none⟩ = some b ∧ w.cell? ⟨g, 2, none⟩ = some c := by
  refine ⟨?_, ?_, ?_⟩ <;> simp [World.cell?, h]
set_option maxHeartbeats 6400000 in
theorem pimages_walk (r : Rs) (A K S T : List Int) (w : World) (ht : Tab w) (hm : RsA w r A K S ∧ TiM w r T ∧ r.sn ≤ r.sc ∧ r.sc ≤ maxLen ∧ (r.sa = none → r.sc = 0)) : Calls Tryd.prog 8 #[r.V] w fun e w' => e = .returned (.bool true) ∧ Below w.heap.size w w' := by
  have HQ : Hid (QR w r.c9 _) := QR.box w r.c9
  have C0 := fixed_any _ (ht.old HQ.out.1)
  have HFe : Hid (∀ u, QR w r.c9 u → Calls Tryd.prog 16 #[r.V] u fun e w' => e = .returned (.bool (decide (r.sn ≤ 5000 ∧ r.tn ≤ 300 ∧ r.an ≤ 300 ∧ r.cn ≤ 10))) ∧ QR w r.c9 w') := fun u h => (few_any r u).mono fun e w' q => ⟨q.1, h.old q.2⟩
  have HIm : Hid (decide (r.sn ≤ 5000 ∧ r.tn ≤ 300 ∧ r.an ≤ 300 ∧ r.cn ≤ 10) = true → r.sn ≤ 5000 ∧ IRow w r.sa S ∧ S.length = r.sn ∧ ∀ (w8 : World) (sa' : Option Addr) (sc' : Nat), Below w.heap.size w w8 → IRow w8 sa' S → r.sn ≤ sc' ∧ sc' ≤ maxLen → ∃ W H N F er, N ≤ 65536 ∧ (∀ u, Below w8.heap.size w8 u → Calls Tryd.prog 21 #[({ r with sa := sa', sc := sc' } : Rs).V] u fun e w' => ImAny u W H N F er e w') ∧ (∀ u, Below w8.heap.size w8 u → Calls Tryd.prog 22 #[r.V] u fun e w' => ImAny u W H N F er e w')) := fun hf => by
    have hfew := of_decide_eq_true hf
    have hrm := hm.1.few hfew
    refine ⟨hfew.1, hm.1.s, hm.1.sn, fun w8 sa' sc' hb hs hc => ?_⟩
    exact both_image r sa' sc' A K S T w8 (ht.old hb) (hrm.old hb) ⟨(hrm.old hb).a, hrm.an, (hrm.old hb).k, hrm.kn, hs, hrm.sn, hrm.bd⟩ (hm.2.1.old hb) hfew.1 ⟨hm.2.2.1, hm.2.2.2.1⟩ hc
  obtain ⟨G, hG⟩ : ∃ G, decide (r.sn ≤ 5000 ∧ r.tn ≤ 300 ∧ r.an ≤ 300 ∧ r.cn ≤ 10) = G := ⟨_, rfl⟩
  rw [hG] at HFe HIm
  have HNil : Hid (r.sa = none → r.sc = 0) := hm.2.2.2.2
  clear hG ht hm
  obtain ⟨W, H, C, D, L, ta, tn, tc, aa, an, ac, ca, cn, cc, sa, sn, sc⟩ := r
  unfold Rs.V at *
  unfold Rs.c9 at *
  simp only at *
  go_enter Tryd.func8, Tryd.ntmps8
  go_wp2_with fail
  refine C0.mono ?_
  clear C0
  rintro e w1 ⟨rfl, hb1⟩
  have HQ1 : Hid (QR w #[.int .i64 W, .int .i64 H, .int .i64 C, .int .i64 D, .bool L, .slice ta tn tc, .slice aa an ac, .slice ca cn cc, .slice sa sn sc] w1) := HQ.out.old hb1
  clear hb1 HQ
  obtain ⟨c0, c1, c2, c3, c4, c5, c6, c7, c8⟩ := nine_cells HQ1.out.2
  have CF := HFe.out w1 HQ1.out
  go_wp2_with fail
  refine CF.mono ?_
  clear CF HFe
  rintro e w3 ⟨rfl, q3⟩
  have HQ3 : Hid (QR w #[.int .i64 W, .int .i64 H, .int .i64 C, .int .i64 D, .bool L, .slice ta tn tc, .slice aa an ac, .slice ca cn cc, .slice sa sn sc] w3) := q3
  clear q3 HQ1 c0 c1 c2 c3 c4 c5 c6 c7 c8
  cases G
  · go_wp2
    go_ret
    exact ⟨rfl, HQ3.out.1⟩
  · obtain ⟨hsn, hrow, hSn, hboth⟩ := HIm.out rfl
    have HB : Hid (IRow w sa S ∧ S.length = sn) := ⟨hrow, hSn⟩
    have HBo : Hid _ := hboth
    clear HIm hrow hSn hboth
    obtain ⟨c0, c1, c2, c3, c4, c5, c6, c7, c8⟩ := nine_cells HQ3.out.2
    have hws : w.heap.size < w3.heap.size := lt_of_block HQ3.out.2
    have HSl : Hid (Sl ((w3.alloc (.cells #[.int .i64 W, .int .i64 H, .int .i64 C, .int .i64 D, .bool L, .slice ta tn tc, .slice aa an ac, .slice ca cn cc, .slice sa sn sc] 40)).alloc (.cells #[] 3)) 3 (.slice (some ⟨w3.heap.size + 1, 0, none⟩) 0 0) (some (w3.heap.size + 1)) (ivals [])) := by
      refine .inr ⟨w3.heap.size + 1, 0, 0, #[], rfl, rfl, ?_, by simp, by simp [ivals], by unfold maxLen; omega, by simp [ivals]⟩
      have := heap_alloc_newX (w3.alloc (.cells #[.int .i64 W, .int .i64 H, .int .i64 C, .int .i64 D, .bool L, .slice ta tn tc, .slice aa an ac, .slice ca cn cc, .slice sa sn sc] 40)) (.cells #[] 3); rwa [World.size_alloc] at this
    have hb5 : Below w3.heap.size w3 ((w3.alloc (.cells #[.int .i64 W, .int .i64 H, .int .i64 C, .int .i64 D, .bool L, .slice ta tn tc, .slice aa an ac, .slice ca cn cc, .slice sa sn sc] 40)).alloc (.cells #[] 3)) := ((Below.refl _ w3).alloc (Nat.le_refl _) _).alloc (by simp) _
    have HR5 : Hid (IRow ((w3.alloc (.cells #[.int .i64 W, .int .i64 H, .int .i64 C, .int .i64 D, .bool L, .slice ta tn tc, .slice aa an ac, .slice ca cn cc, .slice sa sn sc] 40)).alloc (.cells #[] 3)) sa S ∧ Below w3.heap.size w3 ((w3.alloc (.cells #[.int .i64 W, .int .i64 H, .int .i64 C, .int .i64 D, .bool L, .slice ta tn tc, .slice aa an ac, .slice ca cn cc, .slice sa sn sc] 40)).alloc (.cells #[] 3)) ∧ ((w3.alloc (.cells #[.int .i64 W, .int .i64 H, .int .i64 C, .int .i64 D, .bool L, .slice ta tn tc, .slice aa an ac, .slice ca cn cc, .slice sa sn sc] 40)).alloc (.cells #[] 3)).heap[w3.heap.size]? = some (.cells #[.int .i64 W, .int .i64 H, .int .i64 C, .int .i64 D, .bool L, .slice ta tn tc, .slice aa an ac, .slice ca cn cc, .slice sa sn sc] 40 (0, 0))) := by
      refine ⟨(HB.out.1.old (HQ3.out.1.trans (hb5.mono HQ3.out.1.size))), hb5, ?_⟩
      rw [Below.heap_alloc _ _ _ (by simp)]; exact heap_alloc_newX w3 _
    clear hb5
    go_wp2_with (at_builtin; refine wpList_moreI rfl _ _ rfl (.slice (some ⟨w3.heap.size + 1, 0, none⟩) 0 0) (some (w3.heap.size + 1)) [] rfl HSl.out sa sn sc S rfl HNil.out HB.out.2 HR5.out.1 (by simp; omega) ?_)
    intro v7 w7 g7 hs7 hg7 hgr7
    obtain ⟨a7, c7', hv7, l7, m7, n7⟩ := hs7.shape
    rw [ivals_len, HB.out.2] at hv7 l7
    subst hv7
    have k7 : ∀ k, k < w3.heap.size + 1 → w7.heap[k]? = ((w3.alloc (.cells #[.int .i64 W, .int .i64 H, .int .i64 C, .int .i64 D, .bool L, .slice ta tn tc, .slice aa an ac, .slice ca cn cc, .slice sa sn sc] 40)).alloc (.cells #[] 3)).heap[k]? := fun k hk => hgr7.block k (by simp; omega) (by intro e; cases e; omega)
    have ho7 : w7.heap[w3.heap.size]? = some (.cells #[.int .i64 W, .int .i64 H, .int .i64 C, .int .i64 D, .bool L, .slice ta tn tc, .slice aa an ac, .slice ca cn cc, .slice sa sn sc] 40 (0, 0)) := (k7 _ (by omega)).trans HR5.out.2.2
    have hb7 : Below w3.heap.size w3 w7 := ⟨hgr7.os.trans HR5.out.2.1.os, hgr7.tape.trans HR5.out.2.1.tape, hgr7.output.trans HR5.out.2.1.output, Nat.le_trans HR5.out.2.1.size hgr7.size, fun k hk => (k7 k (by omega)).trans (HR5.out.2.1.block k hk)⟩
    obtain ⟨w8, hw8⟩ : ∃ w8, w7.setCell ⟨w3.heap.size, 8, none⟩ (.slice a7 sn c7') = w8 := ⟨_, rfl⟩
    have ho8 : w8.heap[w3.heap.size]? = some (.cells #[.int .i64 W, .int .i64 H, .int .i64 C, .int .i64 D, .bool L, .slice ta tn tc, .slice aa an ac, .slice ca cn cc, .slice a7 sn c7'] 40 (0, 0)) := by
      rw [← hw8, heap_setCell_same w7 w3.heap.size 8 _ _ _ ho7]; rfl
    have hb8 : Below w3.heap.size w3 w8 := by rw [← hw8]; exact hb7.setCell (p := ⟨w3.heap.size, 8, none⟩) (Nat.le_refl _) _
    have hs8 : Sl w8 3 (.slice a7 sn c7') g7 (ivals S) := hs7.same fun k hk => by
      rw [← hw8]
      refine Below.heap_setCell _ _ _ _ (fun e => ?_)
      subst e
      rcases hs7 with ⟨_, h, _⟩ | ⟨b, off, cap, cur, _, h2, hh, _⟩
      · rw [h] at hk; cases hk
      · rw [h2] at hk; cases hk; rw [ho7] at hh; cases hh
    have HQ8 : Hid (QR w #[.int .i64 W, .int .i64 H, .int .i64 C, .int .i64 D, .bool L, .slice ta tn tc, .slice aa an ac, .slice ca cn cc, .slice sa sn sc] w8) := HQ3.out.old hb8
    obtain ⟨WW, HH, N, F, er, hNb, hC1, hC2⟩ := HBo.out w8 a7 c7' HQ8.out.1 (hs8.irow rfl) ⟨l7, m7⟩
    have HC1 : Hid _ := hC1
    have HC2 : Hid _ := hC2
    have H8 : Hid (w8.heap[w3.heap.size]? = some (.cells #[.int .i64 W, .int .i64 H, .int .i64 C, .int .i64 D, .bool L, .slice ta tn tc, .slice aa an ac, .slice ca cn cc, .slice a7 sn c7'] 40 (0, 0)) ∧ IRow w8 a7 S ∧ IRow w8 sa S ∧ S.length = sn) := ⟨ho8, hs8.irow rfl, HB.out.1.old HQ8.out.1, HB.out.2⟩
    obtain ⟨x0, x1, x2, x3, x4, x5, x6, x7, x8⟩ := nine_cells ho7
    have xf : ∀ j, w7.frozen? ⟨w3.heap.size, j, none⟩ = false := fun j => by simp [World.frozen?, ho7]
    obtain ⟨y0, y1, y2, y3, y4, y5, y6, y7, y8⟩ := nine_cells ho8
    have CI := HC1.out w8 (Below.refl _ _)
    clear hC1 hC2 hs7 hs8 hg7 hgr7 k7 ho7 ho8 hb7 hb8 HBo HR5 HSl HB c0 c1 c2 c3 c4 c5 c6 c7 c8 HQ3 HNil l7 m7 n7
    go_wp2_with fail
    refine CI.mono ?_
    clear CI hw8 x0 x1 x2 x3 x4 x5 x6 x7 x8 xf y0 y1 y2 y3 y4 y5 y6 y7 y8
    rintro e w9 ⟨ax, cx, rfl, ho, hb9⟩
    obtain ⟨w10, hw10⟩ : ∃ w10, w9.alloc (.cells #[.int .i64 WW, .int .i64 HH, .slice ax N cx] 51) = w10 := ⟨_, rfl⟩
    have hb10 : Below w9.heap.size w9 w10 := by rw [← hw10]; exact (Below.refl _ _).alloc (Nat.le_refl _) _
    have hbA : Below w8.heap.size w8 w10 := hb9.trans (hb10.mono hb9.size)
    have H10 : Hid (Below w8.heap.size w8 w10 ∧ w10.ownsRow w8.heap.size 45 4 (.slice ax N cx) N (colL F N) ∧ w10.heap[w9.heap.size]? = some (.cells #[.int .i64 WW, .int .i64 HH, .slice ax N cx] 51 (0, 0))) :=
      ⟨hbA, owns_cells ho fun k c _ hk => (hb10.block k (lt_of_block hk)).trans hk, by rw [← hw10]; exact heap_alloc_newX w9 _⟩
    obtain ⟨c0, c1, c2, c3, c4, c5, c6, c7, c8⟩ := nine_cells (HQ8.out.old hbA).2
    have CJ := HC2.out w10 hbA
    clear ho hb9 hb10 hbA
    go_wp2_with fail
    refine CJ.mono ?_
    clear CJ hw10 c0 c1 c2 c3 c4 c5 c6 c7 c8
    rintro e w11 ⟨ay, cy, rfl, ho, hb11⟩
    obtain ⟨w12, hw12⟩ : ∃ w12, w11.alloc (.cells #[.int .i64 WW, .int .i64 HH, .slice ay N cy] 51) = w12 := ⟨_, rfl⟩
    have hb12 : Below w11.heap.size w11 w12 := by rw [← hw12]; exact (Below.refl _ _).alloc (Nat.le_refl _) _
    have hbB : Below w10.heap.size w10 w12 := hb11.trans (hb12.mono hb11.size)
    have hbC : Below w8.heap.size w8 w12 := H10.out.1.trans (hbB.mono H10.out.1.size)
    have hx12 : w12.heap[w9.heap.size]? = some (.cells #[.int .i64 WW, .int .i64 HH, .slice ax N cx] 51 (0, 0)) := (hbB.block _ (lt_of_block H10.out.2.2)).trans H10.out.2.2
    have hy12 : w12.heap[w11.heap.size]? = some (.cells #[.int .i64 WW, .int .i64 HH, .slice ay N cy] 51 (0, 0)) := by rw [← hw12]; exact heap_alloc_newX w11 _
    have CS := imgsame_any WW HH N F _ _ ax ay cx cy w12 hNb (owns_cells H10.out.2.1 fun k c _ hk => (hbB.block k (lt_of_block hk)).trans hk) (owns_cells ho fun k c _ hk => (hb12.block k (lt_of_block hk)).trans hk)
    have H12 : Hid (Below w8.heap.size w8 w12 ∧ QR w #[.int .i64 W, .int .i64 H, .int .i64 C, .int .i64 D, .bool L, .slice ta tn tc, .slice aa an ac, .slice ca cn cc, .slice sa sn sc] w12 ∧ w12.heap[w3.heap.size]? = some (.cells #[.int .i64 W, .int .i64 H, .int .i64 C, .int .i64 D, .bool L, .slice ta tn tc, .slice aa an ac, .slice ca cn cc, .slice a7 sn c7'] 40 (0, 0))) := ⟨hbC, HQ8.out.old hbC, (hbC.block _ (lt_of_block H8.out.1)).trans H8.out.1⟩
    obtain ⟨s0, s1, s2⟩ := three_cells hx12
    obtain ⟨t0, t1, t2⟩ := three_cells hy12
    clear ho hb11 hb12 hbB hbC hx12 hy12 H10
    go_wp2_with fail
    refine CS.mono ?_
    clear CS hw12 s0 s1 s2 t0 t1 t2
    rintro e w13 ⟨rfl, hb13⟩
    have H13 : Hid (Below w8.heap.size w8 w13 ∧ QR w #[.int .i64 W, .int .i64 H, .int .i64 C, .int .i64 D, .bool L, .slice ta tn tc, .slice aa an ac, .slice ca cn cc, .slice sa sn sc] w13 ∧ w13.heap[w3.heap.size]? = some (.cells #[.int .i64 W, .int .i64 H, .int .i64 C, .int .i64 D, .bool L, .slice ta tn tc, .slice aa an ac, .slice ca cn cc, .slice a7 sn c7'] 40 (0, 0))) := ⟨H12.out.1.trans (hb13.mono H12.out.1.size), H12.out.2.1.old hb13, (hb13.block _ (lt_of_block H12.out.2.2)).trans H12.out.2.2⟩
    clear hb13 H12
    obtain ⟨c0, c1, c2, c3, c4, c5, c6, c7, c8⟩ := nine_cells H13.out.2.1.2
    obtain ⟨y0, y1, y2, y3, y4, y5, y6, y7, y8⟩ := nine_cells H13.out.2.2
    have CT := rsameI_any a7 sn c7' sa sn sc S S w13 H8.out.2.2.2 H8.out.2.2.2 (H8.out.2.1.old H13.out.1) (H8.out.2.2.1.old H13.out.1) (by omega)
    rw [decide_eq_true rfl] at CT
    go_wp2_with fail
    refine CT.mono ?_
    clear CT c0 c1 c2 c3 c4 c5 c6 c7 c8 y0 y1 y2 y3 y4 y5 y6 y7 y8
    rintro e w14 ⟨rfl, hb14⟩
    have HB14 : Hid (Below w.heap.size w w14) := H13.out.2.1.1.trans (hb14.mono H13.out.2.1.1.size)
    clear hb14
    go_wp2
    go_ret
    exact ⟨by simp, HB14.out⟩
end Go.Proofs.YtbjoalgglmalnaaDoor
