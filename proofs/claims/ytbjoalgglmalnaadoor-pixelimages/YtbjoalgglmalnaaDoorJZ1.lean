/- Joined: PzIb PzT PzU PzV. -/
import Derived.Test.YtbjoalgglmalnaaDoorPxC
import Derived.Test.YtbjoalgglmalnaaDoorJS
/- Rows of ints and of bytes of the call's own: one more at the end. -/
namespace Go.Proofs.YtbjoalgglmalnaaDoor
open Go.RowKit
theorem Tryd.info3Z : (Tryd.prog.info? 3).map (fun i => (i.zero, i.size, i.bytes)) = some (some (.int .i64 0), 1, 8) := by kernel_rfl
def ivals (l : List Int) : List Value := l.map (Value.int .i64)
theorem ivals_len (l : List Int) : (ivals l).length = l.length := by simp [ivals]
theorem ivals_append (l m : List Int) : ivals (l ++ m) = ivals l ++ ivals m := by simp [ivals]
theorem ivals_at (l : List Int) (i : Nat) (hi : i < l.length) : (ivals l)[i]? = some (.int .i64 (l[i]?.getD 0)) := by simp [ivals, hi]
theorem ivals_set (l : List Int) (k : Nat) (v : Int) : ivals (l.set k v) = (ivals l).set k (.int .i64 v) := by simp [ivals]
theorem Sl.irow {w : World} {v : Value} {g : Option Nat} {l : List Int} (h : Sl w 3 v g (ivals l)) {a : Option Addr} {n cap : Nat} (hv : v = .slice a n cap) : IRow w a l := by
  subst hv
  rcases h with ⟨_, _, h⟩ | ⟨b, off, cap', cur, h, _, hh, _, _, _, hc⟩
  · exact .inl (by simpa [ivals] using h)
  · simp only [Value.slice.injEq] at h
    obtain ⟨rfl, _, _⟩ := h
    refine .inr ⟨b, off, rfl, fun i hi => ?_⟩
    rw [← ivals_at l i hi, ← hc i (by rw [ivals_len]; exact hi)]
    simp [World.cell?, hh]
/-- One int more at the end of a slice of the call's own. -/
theorem wpList_push_intZ {w : World} {ops : Array Oper} {rest : List Oper} {o : Oper} {a : Act} {Q : Exit → Act → World → Prop} (hgd : o.guard = none) (s x : Operand)
    (ho : o.op = .call { callee := .builtin .append, args := #[s, x], argTypes := #[22, 22] })
    (B : Nat) (w0 wr : World) (z : Int) (hw : w = wr.alloc (.cells #[.int .i64 z] 3)) (v : Value) (g : Option Nat) (l : List Int) (hs : a.eval s = v) (hsl : Sl wr 3 v g (ivals l)) (hx : a.eval x = .slice (some ⟨wr.heap.size, 0, none⟩) 1 1)
    (hlen : l.length ≤ 1000000000) (hb : Below B w0 wr) (hB : B ≤ wr.heap.size) (hg : ∀ k, g = some k → B ≤ k)
    (h : ∀ v' w' g', Sl w' 3 v' g' (ivals (l ++ [z])) → (∀ k, g' = some k → B ≤ k) → Below B w0 w' → wpList Tryd.prog ops Q rest (a.put o.dst v') w') : wpList Tryd.prog ops Q (o :: rest) a w := by
  subst hw
  obtain ⟨i0, hi, hz0, hz1, hz2⟩ := info_parts Tryd.info3Z
  refine wpList_append_sl hgd s x _ ho 3 i0 (.int .i64 0) 8 Tryd.underlying22 hi hz0 hz1 hz2 rfl v g (ivals l) hs (hsl.same fun q hq => Below.heap_alloc wr _ q (hsl.lt hq)) ⟨wr.heap.size, 0, none⟩ 1 1 [.int .i64 z] hx rfl (cell_one_new _ _ _) (by intro y hy; simp at hy; subst hy; rfl) (by rw [ivals_len]; omega) (by rw [ivals_len]; unfold maxLen; omega) ?_
  intro v' w' g' h1 h2 h3
  refine h v' w' g' (by rw [ivals_append]; exact h1) ?_ ((hb.alloc hB _).grown h3 (by simp; omega) hg)
  intro k hk
  rcases h2 with e | ⟨q, e, hq⟩
  · exact hg k (by rw [← e]; exact hk)
  · rw [e] at hk; cases hk; simp at hq; omega
/-- One byte more at the end of a slice of the call's own, and a row of ints that stays. -/
theorem Sl.apart {w : World} {v v' : Value} {g g' : Option Nat} {xs ys : List Value} {e e' : TypeId} (he : e ≠ e') (h : Sl w e v g xs) (h' : Sl w e' v' g' ys) : ∀ k, g = some k → g' ≠ some k := by
  intro k hk hk'
  rcases h with ⟨_, h, _⟩ | ⟨b, off, cap, cur, _, h2, hh, _⟩
  · rw [h] at hk; cases hk
  · rcases h' with ⟨_, h, _⟩ | ⟨b', off', cap', cur', _, h2', hh', _⟩
    · rw [h] at hk'; cases hk'
    · rw [h2] at hk
      rw [h2'] at hk'
      cases hk
      cases hk'
      rw [hh] at hh'
      simp only [Option.some.injEq, Obj.cells.injEq] at hh'
      exact he hh'.2.1
theorem Sl.stays {w w' : World} {o : Obj} {v v' : Value} {g g' : Option Nat} {xs ys : List Value} {e e' : TypeId} (he : e ≠ e') (h : Sl w e v g xs) (h' : Sl w e' v' g' ys) (hg : (w.alloc o).grownBy w' g') : Sl w' e v g xs :=
  h.same fun k hk => (hg.block k (by have := h.lt hk; simp; omega) (fun e1 => h.apart he h' k hk e1.symm)).trans (Below.heap_alloc w _ k (h.lt hk))
theorem wpList_push_byteZ {w : World} {ops : Array Oper} {rest : List Oper} {o : Oper} {a : Act} {Q : Exit → Act → World → Prop} (hgd : o.guard = none) (s x : Operand)
    (ho : o.op = .call { callee := .builtin .append, args := #[s, x], argTypes := #[24, 24] })
    (B : Nat) (w0 wr : World) (z : Int) (hw : w = wr.alloc (.cells #[.int .u8 z] 5)) (v : Value) (g : Option Nat) (l : List Int) (hs : a.eval s = v) (hsl : Sl wr 5 v g (vals l)) (hx : a.eval x = .slice (some ⟨wr.heap.size, 0, none⟩) 1 1)
    (hlen : l.length ≤ 1000000000) (hb : Below B w0 wr) (hB : B ≤ wr.heap.size) (hg : ∀ k, g = some k → B ≤ k)
    (h : ∀ v' w' g', Sl w' 5 v' g' (vals (l ++ [z])) → (∀ k, g' = some k → B ≤ k) → Below B w0 w' → (wr.alloc (.cells #[.int .u8 z] 5)).grownBy w' g → wpList Tryd.prog ops Q rest (a.put o.dst v') w') : wpList Tryd.prog ops Q (o :: rest) a w := by
  subst hw
  obtain ⟨i0, hi, hz0, hz1, hz2⟩ := info_parts Tryd.info5
  refine wpList_append_sl hgd s x _ ho 5 i0 (.int .u8 0) 1 Tryd.underlying24 hi hz0 hz1 hz2 rfl v g (vals l) hs (hsl.same fun q hq => Below.heap_alloc wr _ q (hsl.lt hq)) ⟨wr.heap.size, 0, none⟩ 1 1 [.int .u8 z] hx rfl (cell_one_new _ _ _) (by intro y hy; simp at hy; subst hy; rfl) (by rw [vals_len]; omega) (by rw [vals_len]; unfold maxLen; omega) ?_
  intro v' w' g' h1 h2 h3
  refine h v' w' g' (by rw [vals_append]; exact h1) ?_ ((hb.alloc hB _).grown h3 (by simp; omega) hg) h3
  intro k hk
  rcases h2 with e | ⟨q, e, hq⟩
  · exact hg k (by rw [← e]; exact hk)
  · rw [e] at hk; cases hk; simp at hq; omega
theorem Row.atZ {w : World} {a : Option Addr} {zs : List Int} (h : Row w a zs) (k : Nat) (hk : k < zs.length) : ∃ b off, a = some ⟨b, off, none⟩ ∧ w.cell? ⟨b, off + k, none⟩ = some (.int .u8 (zs[k]?.getD 0)) := by
  rcases h with h | ⟨b, off, e, hc⟩
  · subst h; simp at hk
  · exact ⟨b, off, e, hc k hk⟩
end Go.Proofs.YtbjoalgglmalnaaDoor
/- All colours: the document's Image; and what both refuse. -/
namespace Go.Proofs.YtbjoalgglmalnaaDoor
open Go.RowKit
def ImNo (w : World) (er : Int) (e : Ending) (w' : World) : Prop := e = .returned (.tuple #[.agg #[.int .i64 0, .int .i64 0, .slice none 0 0], .int .i64 er]) ∧ Below w.heap.size w w'
theorem img_three {w w1 : World} (h : w1.heap[w.heap.size + 1]? = some (.cells #[.int .i64 0, .int .i64 0, .slice none 0 0] 51 (0, 0))) : w1.cell? ⟨w.heap.size + 1, 0, none⟩ = some (.int .i64 0) ∧ w1.cell? ⟨w.heap.size + 1, 1, none⟩ = some (.int .i64 0) ∧ w1.cell? ⟨w.heap.size + 1, 2, none⟩ = some (.slice none 0 0) ∧ (∀ j, w1.frozen? ⟨w.heap.size + 1, j, none⟩ = false) := by
  refine ⟨?_, ?_, ?_, fun j => ?_⟩ <;> simp [World.cell?, World.frozen?, h]
theorem img_box (w : World) (r : Rs) : QR w r.c9 ((w.alloc (.cells r.c9 40)).alloc (.cells #[.int .i64 0, .int .i64 0, .slice none 0 0] 51)) ∧ ((w.alloc (.cells r.c9 40)).alloc (.cells #[.int .i64 0, .int .i64 0, .slice none 0 0] 51)).heap[w.heap.size + 1]? = some (.cells #[.int .i64 0, .int .i64 0, .slice none 0 0] 51 (0, 0)) := by
  refine ⟨⟨((Below.refl _ w).alloc (Nat.le_refl _) _).alloc (by simp) _, by rw [Below.heap_alloc _ _ _ (by simp)]; exact heap_alloc_newX w _⟩, ?_⟩
  have := heap_alloc_newX (w.alloc (.cells r.c9 40)) (.cells #[.int .i64 0, .int .i64 0, .slice none 0 0] 51); rwa [World.size_alloc] at this
theorem three_set {w wr : World} (hb : Below w.heap.size w wr) (x y : Int) (v : Value) : Below w.heap.size w (((wr.setCell ⟨w.heap.size + 1, 0, none⟩ (.int .i64 x)).setCell ⟨w.heap.size + 1, 1, none⟩ (.int .i64 y)).setCell ⟨w.heap.size + 1, 2, none⟩ v) :=
  ((hb.setCell (p := ⟨w.heap.size + 1, 0, none⟩) (Nat.le_succ _) _).setCell (p := ⟨w.heap.size + 1, 1, none⟩) (Nat.le_succ _) _).setCell (p := ⟨w.heap.size + 1, 2, none⟩) (Nat.le_succ _) _
set_option maxHeartbeats 1600000 in
set_option maxRecDepth 20000 in
theorem image_no (r : Rs) (A K S : List Int) (w : World) (ht : Tab w) (hm : RsM w r A K S) (hch : chE r.W r.H r.C r.D r.tn A K S ≠ 0) : Calls Tryd.prog 21 #[r.V] w fun e w' => ImNo w (chE r.W r.H r.C r.D r.tn A K S) e w' := by
  obtain ⟨hq1, hr1⟩ := img_box w r
  have CK := check_any r A K S _ (ht.old hq1.1) (hm.old hq1.1)
  have HQ : Hid (QR w r.c9 _ ∧ _) := ⟨hq1, hr1⟩
  generalize chE r.W r.H r.C r.D r.tn A K S = E at *
  have hE : (E != 0) = true := by simpa using hch
  clear hq1 hr1 hm hch ht
  obtain ⟨W, H, C, D, L, ta, tn, tc, aa, an, ac, ca, cn, cc, sa, sn, sc⟩ := r
  unfold Rs.V at *
  unfold Rs.c9 at *
  simp only at *
  refine calls_of_wp_marks Tryd.func21 rfl ?_
  simp only [Tryd.ntmps21, List.size_toArray, List.length_cons, List.length_nil, Nat.reduceAdd, Nat.reduceSub, Array.replicate_succ, Array.replicate_zero, List.push_toArray, List.append_toArray, List.nil_append, List.cons_append]
  go_wp2_with fail
  refine CK.mono ?_
  clear CK
  rintro e w2 ⟨rfl, hb2⟩
  have HB : Hid (Below w.heap.size w w2) := HQ.out.1.1.trans (hb2.mono HQ.out.1.1.size)
  obtain ⟨r0, r1, r2, rf⟩ := img_three ((hb2.block _ (lt_of_block HQ.out.2)).trans HQ.out.2)
  clear hb2 HQ
  go_wp2
  refine ⟨.tuple #[.agg #[.int .i64 0, .int .i64 0, .slice none 0 0], .int .i64 E], ?_, ⟨rfl, three_set HB.out _ _ _⟩⟩
  rw [results_cellP rfl]
  go_simp
set_option maxHeartbeats 1600000 in
set_option maxRecDepth 20000 in
theorem rimage_no (r : Rs) (A K S : List Int) (w : World) (hm : RsM w r A K S) (hch : chE r.W r.H r.C r.D r.tn A K S ≠ 0) : Calls Tryd.prog 22 #[r.V] w fun e w' => ImNo w (chE r.W r.H r.C r.D r.tn A K S) e w' := by
  obtain ⟨hq1, hr1⟩ := img_box w r
  have CK := rcheck_any r A K S _ (hm.old hq1.1)
  have HQ : Hid (QR w r.c9 _ ∧ _) := ⟨hq1, hr1⟩
  generalize chE r.W r.H r.C r.D r.tn A K S = E at *
  have hE : (E != 0) = true := by simpa using hch
  clear hq1 hr1 hm hch
  obtain ⟨W, H, C, D, L, ta, tn, tc, aa, an, ac, ca, cn, cc, sa, sn, sc⟩ := r
  unfold Rs.V at *
  unfold Rs.c9 at *
  simp only at *
  go_enter Tryd.func22, Tryd.ntmps22
  go_wp2_with fail
  refine CK.mono ?_
  clear CK
  rintro e w2 ⟨rfl, hb2⟩
  have HB : Hid (Below w.heap.size w w2) := HQ.out.1.1.trans (hb2.mono HQ.out.1.1.size)
  obtain ⟨r0, r1, r2, rf⟩ := img_three ((hb2.block _ (lt_of_block HQ.out.2)).trans HQ.out.2)
  clear hb2 HQ
  go_wp2
  refine bodyPost_ret (v := .tuple #[.agg #[.int .i64 0, .int .i64 0, .slice none 0 0], .int .i64 E]) ?_ rfl ⟨rfl, three_set HB.out _ _ _⟩
  rw [results_cellP rfl]
  go_simp
end Go.Proofs.YtbjoalgglmalnaaDoor
/- All colours: the document's Image. -/
namespace Go.Proofs.YtbjoalgglmalnaaDoor
open Go.RowKit
/-- Between two rounds of the document's. -/
structure ImR (w : World) (r : Rs) (mb : Nat) (F : Nat → Int × Int × Int × Int) (k : Nat) (wr : World) : Prop where
  qr : QR w r.c9 wr
  rs : wr.heap[w.heap.size + 1]? = some (.cells #[.int .i64 0, .int .i64 0, .slice none 0 0] 51 (0, 0))
  ob : ∃ v, wr.heap[mb]? = some (.cells #[.int .i64 r.W, .int .i64 r.H, v] 51 (0, 0)) ∧ wr.ownsRow w.heap.size 45 4 v k (colL F k)
  mbl : w.heap.size + 1 < mb
theorem ImR.old {w : World} {r : Rs} {mb : Nat} {F : Nat → Int × Int × Int × Int} {k : Nat} {wr w' : World} (h : ImR w r mb F k wr) (hb : Below wr.heap.size wr w') : ImR w r mb F k w' := by
  obtain ⟨v, h1, h2⟩ := h.ob
  exact ⟨h.qr.old hb, (hb.block _ (lt_of_block h.rs)).trans h.rs, ⟨v, (hb.block _ (lt_of_block h1)).trans h1, owns_cells h2 fun k c _ hk => (hb.block k (lt_of_block hk)).trans hk⟩, h.mbl⟩
theorem ImR.push {w : World} {r : Rs} {mb : Nat} {F : Nat → Int × Int × Int × Int} {k : Nat} {wr w7 : World} {v v7 : Value} {va : Array Value} (h : ImR w r mb F k wr)
    (h1 : wr.heap[mb]? = some (.cells #[.int .i64 r.W, .int .i64 r.H, v] 51 (0, 0))) (h2 : wr.ownsRow w.heap.size 45 4 v k (colL F k)) (h7 : w7.ownsRow w.heap.size 45 4 v7 (k + 1) (colL F k ++ c4 F k)) (hg : (wr.alloc (.cells va 45)).grownBy w7 v.ownBlock) :
    w7.cell? ⟨mb, 2, none⟩ = some v ∧ w7.frozen? ⟨mb, 2, none⟩ = false ∧ ImR w r mb F (k + 1) (w7.setCell ⟨mb, 2, none⟩ v7) := by
  have hba : Below wr.heap.size wr (wr.alloc (.cells va 45)) := (Below.refl _ wr).alloc (Nat.le_refl _) _
  have kk : ∀ (j : Nat) (o : Obj), wr.heap[j]? = some o → (∀ c f, o ≠ .cells c 45 f) → w7.heap[j]? = some o := fun j o hj ho => by
    have ha := (hba.block j (lt_of_block hj)).trans hj
    refine (hg.block j (lt_of_block ha) (fun hb => ?_)).trans ha
    obtain ⟨_, c2, e2⟩ := owns_tag h2 hb.symm
    rw [hj] at e2
    simp only [Option.some.injEq] at e2
    exact ho _ _ e2
  have k1 := kk _ _ h1 (fun c f h => by cases h)
  have oth : ∀ j, j ≠ mb → (w7.setCell ⟨mb, 2, none⟩ v7).heap[j]? = w7.heap[j]? := fun j hj => Below.heap_setCell _ _ _ _ hj
  have hmb := h.mbl
  have b7 : Below w.heap.size w w7 := by
    have b1 := h.qr.1.trans (hba.mono h.qr.1.size)
    exact b1.grown hg b1.size (fun j hj => (owns_tag h2 hj).1)
  have b8 : Below w.heap.size w (w7.setCell ⟨mb, 2, none⟩ v7) := b7.setCell (p := ⟨mb, 2, none⟩) (by show w.heap.size ≤ mb; omega) _
  refine ⟨by simp [World.cell?, k1], by simp [World.frozen?, k1], ⟨⟨b8, (oth _ (by omega)).trans (kk _ _ h.qr.2 (fun c f h => by cases h))⟩, (oth _ (by omega)).trans (kk _ _ h.rs (fun c f h => by cases h)), ⟨v7, ?_, ?_⟩, h.mbl⟩⟩
  · rw [heap_setCell_same w7 mb 2 _ _ _ k1]; rfl
  · rw [colL_snoc]
    exact owns_cells h7 fun j c _ hj => (oth j (fun e => by subst e; rw [k1] at hj; cases hj)).trans hj
theorem four_at {w wr w' : World} {g : Nat} (hb : Below w.heap.size wr w') (hg : w.heap.size ≤ g) (a b c d : Value) : Below w.heap.size wr ((((w'.setCell ⟨g, 0, none⟩ a).setCell ⟨g, 1, none⟩ b).setCell ⟨g, 2, none⟩ c).setCell ⟨g, 3, none⟩ d) :=
  (((hb.setCell (p := ⟨g, 0, none⟩) hg _).setCell (p := ⟨g, 1, none⟩) hg _).setCell (p := ⟨g, 2, none⟩) hg _).setCell (p := ⟨g, 3, none⟩) hg _
theorem four_stored {w : World} {g : Nat} {x y z u : Value} {t : TypeId} (h : w.heap[g]? = some (.cells #[x, y, z, u] t (0, 0))) (a b c d : Value) : ((((w.setCell ⟨g, 0, none⟩ a).setCell ⟨g, 1, none⟩ b).setCell ⟨g, 2, none⟩ c).setCell ⟨g, 3, none⟩ d).heap[g]? = some (.cells #[a, b, c, d] t (0, 0)) := by
  have e1 := heap_setCell_same w g 0 _ _ a h
  have e2 := heap_setCell_same _ g 1 _ _ b e1
  have e3 := heap_setCell_same _ g 2 _ _ c e2
  have e4 := heap_setCell_same _ g 3 _ _ d e3
  exact e4
theorem four_cells {w : World} {g : Nat} {a b c d : Value} {t : TypeId} (h : w.heap[g]? = some (.cells #[a, b, c, d] t (0, 0))) : w.cell? ⟨g, 0, none⟩ = some a ∧ w.cell? ⟨g, 1, none⟩ = some b ∧ w.cell? ⟨g, 2, none⟩ = some c ∧ w.cell? ⟨g, 3, none⟩ = some d ∧ (∀ j, w.frozen? ⟨g, j, none⟩ = false) := by
  refine ⟨?_, ?_, ?_, ?_, fun j => ?_⟩ <;> simp [World.cell?, World.frozen?, h]
set_option maxHeartbeats 6400000 in
set_option maxRecDepth 20000 in
theorem rimage_yes (r : Rs) (A K S : List Int) (w0 w : World) (b off n N : Nat) (F : Nat → Int × Int × Int × Int) (hsa : r.sa = some ⟨b, off, none⟩) (hm : RsM w r A K S) (hch : chE r.W r.H r.C r.D r.tn A K S = 0) (hsp : spN r.C = n) (hn : 1 ≤ n ∧ n ≤ 4) (hN : 1 ≤ N ∧ N ≤ 65536) (hT : N * n = r.sn) (hTb : r.sn ≤ 5000) (hcap : r.sn ≤ r.sc ∧ r.sc ≤ maxLen)
    (hb0 : Below w0.heap.size w0 w) (HC : ∀ i, i < N → ∀ lc, OfC 20 w0 r (some ⟨b, off + i * n, none⟩) n lc (F i).1 (F i).2.1 (F i).2.2.1 (F i).2.2.2 0) :
    Calls Tryd.prog 22 #[r.V] w fun e w' => ImPost w r.W r.H N F e w' := by
  obtain ⟨hq1, hr1⟩ := img_box w r
  have CK := rcheck_any r A K S _ (hm.old hq1.1)
  rw [hch] at CK
  have HQ : Hid (QR w r.c9 _ ∧ _) := ⟨hq1, hr1⟩
  have HSp : Hid (∀ u, Calls Tryd.prog 33 #[.int .i64 r.C] u fun e w' => e = .returned (.int .i64 n) ∧ w' = u) := fun u => by
    have := rsamples_any r.C u; rwa [hsp] at this
  have HCol : Hid (∀ i, i < N → ∀ lc u, Below w.heap.size w u → Calls Tryd.prog 20 #[r.V, .slice (some ⟨b, off + i * n, none⟩) n lc] u fun en w' => en = .returned (.tuple #[.agg #[.int .u16 (F i).1, .int .u16 (F i).2.1, .int .u16 (F i).2.2.1, .int .u16 (F i).2.2.2], .int .i64 0]) ∧ Below u.heap.size u w') := fun i hi lc u hu => HC i hi lc u (hb0.trans (hu.mono hb0.size))
  have HMM : Hid (∀ i, i < N → i * n + n ≤ r.sn ∧ (i + 1) * n = i * n + n) := fun i hi => by
    have h1 : (i + 1) * n = i * n + n := by rw [Nat.add_mul]; omega
    have := Nat.mul_le_mul_right n (show i + 1 ≤ N by omega)
    exact ⟨by omega, h1⟩
  have HT : Hid (N * n = r.sn) := hT
  have hcb := hcap.2
  have hca := hcap.1
  unfold maxLen at hcb
  obtain ⟨hn1, hn4⟩ := hn
  clear hq1 hr1 hm hch HC hb0 hT hsp hcap
  obtain ⟨W, H, C, D, L, ta, tn, tc, aa, an, ac, ca, cn, cc, sa, sn, sc⟩ := r
  unfold Rs.V at *
  unfold Rs.c9 at *
  simp only at *
  subst hsa
  go_enter Tryd.func22, Tryd.ntmps22
  go_wp2_with fail
  refine CK.mono ?_
  clear CK
  rintro e w2 ⟨rfl, hb2⟩
  have HQ2 : Hid (QR w #[.int .i64 W, .int .i64 H, .int .i64 C, .int .i64 D, .bool L, .slice ta tn tc, .slice aa an ac, .slice ca cn cc, .slice (some ⟨b, off, none⟩) sn sc] w2 ∧ w2.heap[w.heap.size + 1]? = some (.cells #[.int .i64 0, .int .i64 0, .slice none 0 0] 51 (0, 0))) := ⟨HQ.out.1.old hb2, (hb2.block _ (lt_of_block HQ.out.2)).trans HQ.out.2⟩
  clear hb2 HQ
  obtain ⟨c0, c1, c2, c3, c4', c5, c6, c7, c8⟩ := nine_cells HQ2.out.1.2
  have HI0 : Hid (ImR w ⟨W, H, C, D, L, ta, tn, tc, aa, an, ac, ca, cn, cc, some ⟨b, off, none⟩, sn, sc⟩ w2.heap.size F 0 (w2.alloc (.cells #[.int .i64 W, .int .i64 H, .slice none 0 0] 51))) := by
    have hbn : Below w2.heap.size w2 (w2.alloc (.cells #[.int .i64 W, .int .i64 H, .slice none 0 0] 51)) := (Below.refl _ _).alloc (Nat.le_refl _) _
    exact ⟨HQ2.out.1.old hbn, (hbn.block _ (lt_of_block HQ2.out.2)).trans HQ2.out.2, ⟨.slice none 0 0, heap_alloc_newX w2 _, World.ownsRow_nil _ _ _ _⟩, lt_of_block HQ2.out.2⟩
  have hsz : w.heap.size < w2.heap.size := lt_of_block HQ2.out.1.2
  clear HQ2
  go_wp2_with fail
  refine (HSp.out _).mono ?_
  rintro e w3 ⟨rfl, rfl⟩
  clear c0 c1 c2 c3 c4' c5 c6 c7 c8 hsz
  obtain ⟨mb, hmb⟩ : ∃ mb, w2.heap.size = mb := ⟨_, rfl⟩
  rw [hmb] at HI0
  rw [hmb]
  generalize w2.alloc (.cells #[.int .i64 W, .int .i64 H, .slice none 0 0] 51) = w3 at *
  clear hmb
  go_wp2
  go_loopw [7, 8, 9] (fun v _ _ wr => ∃ i M : Nat, i ≤ N ∧ M = i * n ∧ v = .int .i64 (M : Int) ∧ Hid (ImR w ⟨W, H, C, D, L, ta, tn, tc, aa, an, ac, ca, cn, cc, some ⟨b, off, none⟩, sn, sc⟩ mb F i wr)) (fun v _ _ _ => sn + 1 - (intOf v).toNat)
  case atStart => exact ⟨0, 0, Nat.zero_le _, by simp, rfl, HI0⟩
  case round =>
    clear HI0
    obtain ⟨i, M, hi, hM, rfl, HI⟩ := hrel
    obtain ⟨c0, c1, c2, c3, c4', c5, c6, c7, c8⟩ := nine_cells HI.out.qr.2
    by_cases hlt : i < N
    · obtain ⟨g1, g2⟩ := HMM.out i hlt
      rw [← hM] at g1 g2
      obtain ⟨M2, hM2⟩ : ∃ M2, M + n = M2 := ⟨_, rfl⟩
      have HM2 : Hid (M2 = (i + 1) * n) := by show _ = _; rw [← hM2]; exact g2.symm
      have CCol := HCol.out i hlt
      rw [← hM] at CCol
      have hw1 : IntKind.i64.wrap ((M : Int) + (n : Int)) = (M2 : Int) := by rw [IntKind.wrap_i64]; omega
      have hw2 : IntKind.i64.wrap (M2 : Int) = (M2 : Int) := by rw [IntKind.wrap_i64]; omega
      have hsub : M2 - M = n := by omega
      have hl1 : (M : Int) < (sn : Int) := by omega
      have hl2 : (0 : Int) ≤ (M : Int) := by omega
      have hl3 : (M : Int) ≤ (M2 : Int) := by omega
      have hl4 : (M2 : Int) ≤ (sc : Int) := by omega
      have hl5 : ¬ sc = M := by omega
      have hMM2 : M2 ≤ 5000 := by omega
      have HMn : Hid (M + n = M2) := hM2
      have hmeas : M < M2 := by omega
      clear hM g1 g2 hM2
      have d0 : wr.drew.cell? ⟨w.heap.size, 0, none⟩ = _ := c0
      have d1 : wr.drew.cell? ⟨w.heap.size, 1, none⟩ = _ := c1
      have d2 : wr.drew.cell? ⟨w.heap.size, 2, none⟩ = _ := c2
      have d3 : wr.drew.cell? ⟨w.heap.size, 3, none⟩ = _ := c3
      have d4 : wr.drew.cell? ⟨w.heap.size, 4, none⟩ = _ := c4'
      have d5 : wr.drew.cell? ⟨w.heap.size, 5, none⟩ = _ := c5
      have d6 : wr.drew.cell? ⟨w.heap.size, 6, none⟩ = _ := c6
      have d7 : wr.drew.cell? ⟨w.heap.size, 7, none⟩ = _ := c7
      have d8 : wr.drew.cell? ⟨w.heap.size, 8, none⟩ = _ := c8
      have CCa := CCol (sc - M) wr.drew (HI.out.qr.1.trans ⟨rfl, rfl, rfl, Nat.le_refl _, fun _ _ => rfl⟩)
      have hbz : Below wr.heap.size wr (wr.alloc (.cells #[.int .u16 0, .int .u16 0, .int .u16 0, .int .u16 0] 45)).drew := ((Below.refl _ _).alloc (Nat.le_refl _) _).trans ⟨rfl, rfl, rfl, Nat.le_refl _, fun _ _ => rfl⟩
      have HBz : Hid (Below wr.heap.size wr (wr.alloc (.cells #[.int .u16 0, .int .u16 0, .int .u16 0, .int .u16 0] 45)).drew ∧ (wr.alloc (.cells #[.int .u16 0, .int .u16 0, .int .u16 0, .int .u16 0] 45)).drew.heap[wr.heap.size]? = some (.cells #[.int .u16 0, .int .u16 0, .int .u16 0, .int .u16 0] 45 (0, 0))) := ⟨hbz, heap_alloc_newX wr _⟩
      have CCb := CCol (sc - M) (wr.alloc (.cells #[.int .u16 0, .int .u16 0, .int .u16 0, .int .u16 0] 45)).drew (HI.out.qr.1.trans (hbz.mono HI.out.qr.1.size))
      obtain ⟨x0, x1, x2, x3, x4, x5, x6, x7, x8⟩ := nine_cells (HI.out.qr.old hbz).2
      have hwn : w.heap.size < wr.heap.size := lt_of_block HI.out.qr.2
      have hne1 : wr.heap.size ≠ w.heap.size := by omega
      have hne2 : w.heap.size ≠ wr.heap.size := by omega
      clear CCol hbz
      go_upto_region 9 with fail
      go_cut [8, 9] (fun v8 v9 wx => ∃ cb, v8 = .pointer (some ⟨cb, 0, none⟩) ∧ v9 = .int .i64 0 ∧ Below wr.heap.size wr wx ∧ wx.heap[cb]? = some (.cells #[.int .u16 (F i).1, .int .u16 (F i).2.1, .int .u16 (F i).2.2.1, .int .u16 (F i).2.2.2] 45 (0, 0)))
      case first =>
        go_wp2
        go_region_held3 (fun u => u.cell? ⟨w.heap.size, 0, none⟩ = some (.int .i64 W) ∧ u.cell? ⟨w.heap.size, 1, none⟩ = some (.int .i64 H) ∧ u.cell? ⟨w.heap.size, 2, none⟩ = some (.int .i64 C) ∧ u.cell? ⟨w.heap.size, 3, none⟩ = some (.int .i64 D) ∧ u.cell? ⟨w.heap.size, 4, none⟩ = some (.bool L) ∧ u.cell? ⟨w.heap.size, 5, none⟩ = some (.slice ta tn tc) ∧ u.cell? ⟨w.heap.size, 6, none⟩ = some (.slice aa an ac) ∧ u.cell? ⟨w.heap.size, 7, none⟩ = some (.slice ca cn cc) ∧ u.cell? ⟨w.heap.size, 8, none⟩ = some (.slice (some ⟨b, off, none⟩) sn sc))
          (first | (with_reducible exact ⟨by with_reducible assumption, by with_reducible assumption, by with_reducible assumption, by with_reducible assumption, by with_reducible assumption, by with_reducible assumption, by with_reducible assumption, by with_reducible assumption, by with_reducible assumption⟩) | go_keep) (first
          | (go_at_call 20; (with_reducible refine Calls.mono CCa ?_); rintro e w4 ⟨rfl, hb4⟩; have HB4 : Hid (Below wr.heap.size wr w4) := ⟨hb4.os, hb4.tape, hb4.output, hb4.size, hb4.block⟩; obtain ⟨e0, e1, e2, e3, e4, e5, e6, e7, e8⟩ := nine_cells (HI.out.qr.old HB4.out).2)
          | (go_at_call 20; (with_reducible refine Calls.mono CCb ?_); rintro e w4 ⟨rfl, hb4⟩; have HB4 : Hid (Below wr.heap.size wr w4 ∧ w4.heap[wr.heap.size]? = some (.cells #[.int .u16 0, .int .u16 0, .int .u16 0, .int .u16 0] 45 (0, 0))) := ⟨HBz.out.1.trans (hb4.mono HBz.out.1.size), (hb4.block _ (lt_of_block HBz.out.2)).trans HBz.out.2⟩; obtain ⟨e0, e1, e2, e3, e4, e5, e6, e7, e8⟩ := nine_cells (HI.out.qr.old HB4.out.1).2; obtain ⟨t0, t1, t2, t3, tf⟩ := four_cells HB4.out.2)
          | fail)
        · go_wp2
          go_meet
          exact ⟨w4.heap.size, rfl, rfl, HB4.out.alloc HB4.out.size _, heap_alloc_newX w4 _⟩
        · go_wp2
          go_meet
          exact ⟨wr.heap.size, rfl, rfl, four_at HB4.out.1 (Nat.le_refl _) _ _ _ _, four_stored HB4.out.2 _ _ _ _⟩
      case rest =>
        obtain ⟨cb, rfl, rfl, hbx, hcb2⟩ := hcut
        obtain ⟨w4, hw4⟩ : ∃ w4, w4 = wc := ⟨_, rfl⟩
        subst hw4
        have HI4 : Hid (ImR w ⟨W, H, C, D, L, ta, tn, tc, aa, an, ac, ca, cn, cc, some ⟨b, off, none⟩, sn, sc⟩ mb F i w4) := HI.out.old hbx
        obtain ⟨v, h1, h2⟩ := HI4.out.ob
        obtain ⟨av, cv, hv⟩ : ∃ av cv, v = .slice av i cv := by
          rcases h2.2 with ⟨rfl, h0⟩ | ⟨g, cap, cur, rfl, _⟩
          · exact ⟨none, 0, by rw [h0]⟩
          · exact ⟨_, _, rfl⟩
        subst hv
        have HO : Hid (w4.heap[mb]? = some (.cells #[.int .i64 W, .int .i64 H, .slice av i cv] 51 (0, 0)) ∧ w4.ownsRow w.heap.size 45 4 (.slice av i cv) i (colL F i)) := ⟨h1, h2⟩
        have k2 : w4.cell? ⟨mb, 2, none⟩ = some (.slice av i cv) := by simp [World.cell?, h1]
        obtain ⟨t0, t1, t2, t3, tf⟩ := four_cells hcb2
        clear hbx hcb2 h1 h2 c0 c1 c2 c3 c4' c5 c6 c7 c8 d0 d1 d2 d3 d4 d5 d6 d7 d8 x0 x1 x2 x3 x4 x5 x6 x7 x8 CCa CCb HBz HI hne1 hne2 hwn
        have HN : Hid ((w4.alloc (.cells #[.int .u16 (F i).1, .int .u16 (F i).2.1, .int .u16 (F i).2.2.1, .int .u16 (F i).2.2.2] 45)).ownsRow w.heap.size 45 4 (.slice av i cv) i (colL F i)) := HO.out.2.alloc _
        obtain ⟨i1, hj0, hy0, hy1, hy2⟩ := info_parts Tryd.infoCo
        have hiN : i ≤ 65536 := by omega
        go_wp2_with (at_builtin; refine wpList_append_own _ rfl _ _ 49 rfl w.heap.size 45 i1 _ 4 8 Tryd.underlying49 hj0 hy0 hy1 hy2 rfl (by decide) (.slice av i cv) i (colL F i) rfl HN.out ⟨w4.heap.size, 0, none⟩ 1 1 (c4 F i) rfl rfl (new4 w4 _ _ _ _) (one4 F i) (by unfold maxLen; omega) (by omega) (by have := HI4.out.qr.1.size; simp; omega) ?_)
        intro v7 w7 g1 g2 _
        obtain ⟨y1, y2, y5⟩ := HI4.out.push HO.out.1 HO.out.2 g1 g2
        obtain ⟨a7, c7', hv7⟩ : ∃ a7 c7, v7 = .slice a7 (i + 1) c7 := by
          rcases g1.2 with ⟨rfl, hn⟩ | ⟨g, cap, cur, rfl, _⟩
          · omega
          · exact ⟨_, _, rfl⟩
        subst hv7
        have HF : Hid (ImR w ⟨W, H, C, D, L, ta, tn, tc, aa, an, ac, ca, cn, cc, some ⟨b, off, none⟩, sn, sc⟩ mb F (i + 1) (w7.setCell ⟨mb, 2, none⟩ (.slice a7 (i + 1) c7'))) := y5
        clear g1 g2 y5 HN HO HI4 t0 t1 t2 t3 tf k2 hj0 hy0 hy1 hy2
        go_wp2
        go_roundw
        case rel => exact ⟨i + 1, M2, hlt, HM2.out, by have := HMn.out; go_num, HF⟩
        case measure => simp [intOf]; omega
    · obtain rfl : i = N := by omega
      have hMT : M = sn := by rw [hM, HT.out]
      have hge : ¬ (M : Int) < (sn : Int) := by omega
      obtain ⟨v, h1, h2⟩ := HI.out.ob
      obtain ⟨av, cv, hv⟩ : ∃ av cv, v = .slice av i cv := by
        rcases h2.2 with ⟨rfl, h0⟩ | ⟨g, cap, cur, rfl, _⟩
        · exact ⟨none, 0, by rw [h0]⟩
        · exact ⟨_, _, rfl⟩
      subst hv
      have hrs := HI.out.rs
      have HP : Hid (ImPost w W H i F (.returned (.tuple #[.agg #[.int .i64 W, .int .i64 H, .slice av i cv], .int .i64 0])) (((wr.setCell ⟨w.heap.size + 1, 0, none⟩ (.int .i64 W)).setCell ⟨w.heap.size + 1, 1, none⟩ (.int .i64 H)).setCell ⟨w.heap.size + 1, 2, none⟩ (.slice av i cv))) := by
        refine ⟨av, cv, rfl, owns_cells h2 fun k c hk hc => ?_, three_set HI.out.qr.1 _ _ _⟩
        have hne : k ≠ w.heap.size + 1 := fun e => by subst e; rw [hrs] at hc; cases hc
        rw [Below.heap_setCell _ _ _ _ hne, Below.heap_setCell _ _ _ _ hne, Below.heap_setCell _ _ _ _ hne]; exact hc
      have m0 : wr.cell? ⟨mb, 0, none⟩ = some (.int .i64 W) := by simp [World.cell?, h1]
      have m1 : wr.cell? ⟨mb, 1, none⟩ = some (.int .i64 H) := by simp [World.cell?, h1]
      have m2 : wr.cell? ⟨mb, 2, none⟩ = some (.slice av i cv) := by simp [World.cell?, h1]
      obtain ⟨r0, r1, r2, rf⟩ := img_three hrs
      clear hM hMT h1 h2 hrs HI
      go_wp2
      refine bodyPost_ret (v := .tuple #[.agg #[.int .i64 W, .int .i64 H, .slice av i cv], .int .i64 0]) ?_ rfl HP.out
      rw [results_cellP rfl]
      go_simp
end Go.Proofs.YtbjoalgglmalnaaDoor
/- Images are the same. -/
namespace Go.Proofs.YtbjoalgglmalnaaDoor
open Go.RowKit
theorem owns_four {w : World} {base : Nat} {a : Option Addr} {N c : Nat} {F : Nat → Int × Int × Int × Int} (h : w.ownsRow base 45 4 (.slice a N c) N (colL F N)) {i : Nat} (hi : i < N) : ∃ g, a = some ⟨g, 0, none⟩ ∧ w.cell? ⟨g, i * 4, none⟩ = some (.int .u16 (F i).1) ∧ w.cell? ⟨g, i * 4 + 1, none⟩ = some (.int .u16 (F i).2.1) ∧ w.cell? ⟨g, i * 4 + 2, none⟩ = some (.int .u16 (F i).2.2.1) ∧ w.cell? ⟨g, i * 4 + 3, none⟩ = some (.int .u16 (F i).2.2.2) := by
  rcases h.2 with ⟨he, h0⟩ | ⟨g, cap, cur, he, _⟩
  · omega
  · simp only [Value.slice.injEq] at he
    obtain ⟨rfl, _, rfl⟩ := he
    have at4 : ∀ j, j < 4 → w.cell? ⟨g, i * 4 + j, none⟩ = (c4 F i)[j]? := fun j hj => by
      rw [h.cellAt (i * 4 + j) (by omega), show i * 4 + j = 4 * i + j by omega, colL_at F N i j hi hj]
    exact ⟨g, rfl, at4 0 (by omega), at4 1 (by omega), at4 2 (by omega), at4 3 (by omega)⟩
theorem img2_box (w : World) (W H : Int) (v1 v2 : Value) : Below w.heap.size w ((w.alloc (.cells #[.int .i64 W, .int .i64 H, v1] 51)).alloc (.cells #[.int .i64 W, .int .i64 H, v2] 51)) := ((Below.refl _ w).alloc (Nat.le_refl _) _).alloc (by simp) _
set_option maxHeartbeats 3200000 in
theorem imgsame_any (W H : Int) (N : Nat) (F : Nat → Int × Int × Int × Int) (B1 B2 : Nat) (a1 a2 : Option Addr) (c1 c2 : Nat) (w : World) (hN : N ≤ 65536) (h1 : w.ownsRow B1 45 4 (.slice a1 N c1) N (colL F N)) (h2 : w.ownsRow B2 45 4 (.slice a2 N c2) N (colL F N)) :
    Calls Tryd.prog 23 #[.agg #[.int .i64 W, .int .i64 H, .slice a1 N c1], .agg #[.int .i64 W, .int .i64 H, .slice a2 N c2]] w fun e w' => e = .returned (.bool true) ∧ Below w.heap.size w w' := by
  obtain ⟨w1, hw1⟩ : ∃ w1, (w.alloc (.cells #[.int .i64 W, .int .i64 H, .slice a1 N c1] 51)).alloc (.cells #[.int .i64 W, .int .i64 H, .slice a2 N c2] 51) = w1 := ⟨_, rfl⟩
  have hb : Below w.heap.size w w1 := by rw [← hw1]; exact img2_box w W H _ _
  have hx : w1.heap[w.heap.size]? = some (.cells #[.int .i64 W, .int .i64 H, .slice a1 N c1] 51 (0, 0)) := by rw [← hw1, Below.heap_alloc _ _ _ (by simp)]; exact heap_alloc_newX w _
  have hy : w1.heap[w.heap.size + 1]? = some (.cells #[.int .i64 W, .int .i64 H, .slice a2 N c2] 51 (0, 0)) := by
    rw [← hw1]
    have := heap_alloc_newX (w.alloc (.cells #[.int .i64 W, .int .i64 H, .slice a1 N c1] 51)) (.cells #[.int .i64 W, .int .i64 H, .slice a2 N c2] 51); rwa [World.size_alloc] at this
  have HS : Hid (Below w.heap.size w w1 ∧ w1.ownsRow B1 45 4 (.slice a1 N c1) N (colL F N) ∧ w1.ownsRow B2 45 4 (.slice a2 N c2) N (colL F N)) := ⟨hb, owns_cells h1 fun k c _ hk => (hb.block k (lt_of_block hk)).trans hk, owns_cells h2 fun k c _ hk => (hb.block k (lt_of_block hk)).trans hk⟩
  have k0 : w1.cell? ⟨w.heap.size, 0, none⟩ = some (.int .i64 W) := by simp [World.cell?, hx]
  have k1 : w1.cell? ⟨w.heap.size, 1, none⟩ = some (.int .i64 H) := by simp [World.cell?, hx]
  have k2 : w1.cell? ⟨w.heap.size, 2, none⟩ = some (.slice a1 N c1) := by simp [World.cell?, hx]
  have l0 : w1.cell? ⟨w.heap.size + 1, 0, none⟩ = some (.int .i64 W) := by simp [World.cell?, hy]
  have l1 : w1.cell? ⟨w.heap.size + 1, 1, none⟩ = some (.int .i64 H) := by simp [World.cell?, hy]
  have l2 : w1.cell? ⟨w.heap.size + 1, 2, none⟩ = some (.slice a2 N c2) := by simp [World.cell?, hy]
  clear hb hx hy h1 h2
  go_enter Tryd.func23, Tryd.ntmps23
  go_wp2
  go_loopw [5, 30] (fun _ v wr => ∃ i m : Nat, i ≤ N ∧ v = .int .i64 i ∧ wr = w1.drewN m) (fun _ v _ => N - (intOf v).toNat)
  case atStart => exact ⟨0, 0, Nat.zero_le _, rfl, rfl⟩
  case round =>
    obtain ⟨i, m, hi, rfl, rfl⟩ := hrel
    by_cases hlt : i < N
    · obtain ⟨g1, rfl, p0, p1, p2, p3⟩ := owns_four HS.out.2.1 hlt
      obtain ⟨g2, rfl, q0, q1, q2, q3⟩ := owns_four HS.out.2.2 hlt
      generalize F i = f at *
      obtain ⟨x, y, z, u⟩ := f
      dsimp only at p0 p1 p2 p3 q0 q1 q2 q3
      go_wp2
      go_quiet (fail)
      go_wp2
      exact ⟨⟨i + 1, _, by omega, by go_num, rfl⟩, by simp [intOf]; omega⟩
    · obtain rfl : i = N := by omega
      go_wp2
      go_ret
      exact ⟨rfl, HS.out.1.trans ⟨rfl, rfl, rfl, Nat.le_refl _, fun _ _ => rfl⟩⟩
end Go.Proofs.YtbjoalgglmalnaaDoor
