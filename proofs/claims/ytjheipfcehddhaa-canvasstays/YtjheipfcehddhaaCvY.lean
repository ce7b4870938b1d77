/- The region of CanvasStays that copies a line: its law. -/
import Derived.Test.YtjheipfcehddhaaCvX
import Derived.Deep.MidRow
namespace Go.Proofs.Ytjheipfcehddhaa
open Go.RowKit
theorem wpList_moreS {w : World} {ops : Array Oper} {rest : List Oper} {o : Oper} {a : Act} {Q : Exit → Act → World → Prop} (hgd : o.guard = none) (s x : Operand)
    (ho : o.op = .call { callee := .builtin .append, args := #[s, x], argTypes := #[32, 32] }) (B g0 : Nat) (hs : a.eval s = .slice (some ⟨g0, 0, none⟩) 0 0) (hB : B ≤ g0) (hg : w.heap[g0]? = some (.cells #[] 58 (0, 0)))
    (ad : Option Addr) (m c : Nat) (S : List (Int × Int)) (hx : a.eval x = .slice ad m c) (hc : ad = none → c = 0) (hm : S.length = m) (hr : SpRow w ad S) (hl : m ≤ 1000000)
    (h : ∀ g c' w', B ≤ g → m ≤ c' → c' ≤ maxLen → SpM w' g S → w.grownBy w' (some g0) → wpList Try.prog ops Q rest (a.put o.dst (.slice (some ⟨g, 0, none⟩) m c')) w') : wpList Try.prog ops Q (o :: rest) a w := by
  obtain ⟨i0, hi, hz0, hz1, hz2⟩ := info_parts Try.infoSp
  have hlt : g0 < w.heap.size := lt_of_block hg
  cases ad with
  | none =>
    have hb : S = [] := by
      rcases hr with h | ⟨b, off, h, _⟩
      · exact h
      · cases h
    have hc0 := hc rfl
    subst hb hc0
    simp at hm
    subst hm
    refine wpList_append_sl_none hgd s x 32 ho 58 i0 Try.underlying32 hi _ 0 0 hs (Nat.le_refl _) hx ?_
    exact h g0 0 w hB (Nat.le_refl _) (by unfold maxLen; omega) ⟨#[], hg, fun i hi => by simp at hi⟩ ⟨rfl, rfl, rfl, Nat.le_refl _, fun _ _ _ => rfl⟩
  | some y =>
    have hnews : ∀ j u, (k2L S S.length)[j]? = some u → w.cell? (y.add j) = some u := by
      rcases hr with rfl | ⟨b, off, e, hq⟩
      · intro j u hj; simp [k2L] at hj
      · cases e; exact spots_news hq
    refine wpList_append_own w hgd s x 32 ho B 58 i0 _ 2 16 Try.underlying32 hi hz0 hz1 hz2 rfl (by decide) _ 0 [] hs ⟨rfl, .inr ⟨g0, 0, #[], rfl, hB, hg, Nat.le_refl _, by unfold maxLen; omega, rfl, rfl⟩⟩ y m c (k2L S S.length) hx (by rw [k2L_len, hm]) hnews (k2L_one S _) (by unfold maxLen; omega) (by omega) (by omega) ?_
    intro v' w' hown hgrow _
    rw [Nat.zero_add, List.nil_append] at hown
    rcases hown.2 with ⟨hv, h0⟩ | ⟨g', c', cur, hv, hb, hh, q1, q2, q3, q4⟩
    · rename_i hnil
      exact absurd (hnil.1 hv).1 (by simp)
    · subst hv
      subst hm
      exact h g' c' w' hb q1 q2 (owns_sp hown) hgrow
theorem wpList_moreC {w : World} {ops : Array Oper} {rest : List Oper} {o : Oper} {a : Act} {Q : Exit → Act → World → Prop} (hgd : o.guard = none) (s x : Operand)
    (ho : o.op = .call { callee := .builtin .append, args := #[s, x], argTypes := #[33, 33] }) (B g0 : Nat) (hs : a.eval s = .slice (some ⟨g0, 0, none⟩) 0 0) (hB : B ≤ g0) (hg : w.heap[g0]? = some (.cells #[] 49 (0, 0)))
    (ad : Option Addr) (m c : Nat) (S : List Col) (hx : a.eval x = .slice ad m c) (hc : ad = none → c = 0) (hm : S.length = m) (hr : CoRow w ad S) (hl : m ≤ 1000000)
    (h : ∀ g c' w', B ≤ g → m ≤ c' → c' ≤ maxLen → PxM w' g m (coA S) → w.grownBy w' (some g0) → wpList Try.prog ops Q rest (a.put o.dst (.slice (some ⟨g, 0, none⟩) m c')) w') : wpList Try.prog ops Q (o :: rest) a w := by
  obtain ⟨i0, hi, hz0, hz1, hz2⟩ := info_parts Try.infoCol
  have hlt : g0 < w.heap.size := lt_of_block hg
  cases ad with
  | none =>
    have hb : S = [] := by
      rcases hr with h | ⟨b, off, h, _⟩
      · exact h
      · cases h
    have hc0 := hc rfl
    subst hb hc0
    simp at hm
    subst hm
    refine wpList_append_sl_none hgd s x 33 ho 49 i0 Try.underlying33 hi _ 0 0 hs (Nat.le_refl _) hx ?_
    exact h g0 0 w hB (Nat.le_refl _) (by unfold maxLen; omega) ⟨#[], hg, fun i hi => by omega⟩ ⟨rfl, rfl, rfl, Nat.le_refl _, fun _ _ _ => rfl⟩
  | some y =>
    have hnews : ∀ j u, (k4L (coA S) S.length)[j]? = some u → w.cell? (y.add j) = some u := by
      rcases hr with rfl | ⟨b, off, e, hq⟩
      · intro j u hj; simp [k4L] at hj
      · cases e; exact cols_news hq
    refine wpList_append_own w hgd s x 33 ho B 49 i0 _ 4 8 Try.underlying33 hi hz0 hz1 hz2 rfl (by decide) _ 0 [] hs ⟨rfl, .inr ⟨g0, 0, #[], rfl, hB, hg, Nat.le_refl _, by unfold maxLen; omega, rfl, rfl⟩⟩ y m c (k4L (coA S) S.length) hx (by rw [k4L_len, hm]) hnews (k4L_one _ _) (by unfold maxLen; omega) (by omega) (by omega) ?_
    intro v' w' hown hgrow _
    rw [Nat.zero_add, List.nil_append] at hown
    rcases hown.2 with ⟨hv, h0⟩ | ⟨g', c', cur, hv, hb, hh, q1, q2, q3, q4⟩
    · rename_i hnil
      exact absurd (hnil.1 hv).1 (by simp)
    · subst hv
      subst hm
      exact h g' c' w' hb q1 q2 (owns_px hown) hgrow
/-- What holds between two operations. -/
structure OwnI (w5 : World) (l : Ln) (lb : Nat) (v15 v55 v56 v57 v58 v59 v60 v61 v62 v63 : Value) (b0 b1 b2 b3 b4 b5 b6 b7 b8 b9 b10 : Bool) (u : World) : Prop where
  be : Below w5.heap.size w5 u
  s0 : b0 = true → b3 = false → ∃ g, v55 = .slice (some ⟨g, 0, none⟩) 0 0 ∧ w5.heap.size ≤ g ∧ u.heap[g]? = some (.cells #[] 58 (0, 0))
  s1 : b1 = true → v56 = .pointer (some ⟨lb, 1, none⟩)
  s2 : b2 = true → v57 = .slice l.sa l.S.length l.sc
  s3 : b3 = true → ∃ g c, v58 = .slice (some ⟨g, 0, none⟩) l.S.length c ∧ l.S.length ≤ c ∧ c ≤ maxLen ∧ w5.heap.size ≤ g ∧ SpM u g l.S
  s4 : b4 = true → b7 = false → ∃ g, v59 = .slice (some ⟨g, 0, none⟩) 0 0 ∧ w5.heap.size ≤ g ∧ u.heap[g]? = some (.cells #[] 49 (0, 0))
  s5 : b5 = true → v60 = .pointer (some ⟨lb, 2, none⟩)
  s6 : b6 = true → v61 = .slice l.ca l.C.length l.cc
  s7 : b7 = true → ∃ g c, v62 = .slice (some ⟨g, 0, none⟩) l.C.length c ∧ l.C.length ≤ c ∧ c ≤ maxLen ∧ w5.heap.size ≤ g ∧ PxM u g l.C.length (coA l.C)
  s8 : b8 = true → v63 = .agg #[.int .i64 0, v58, v62]
  s9 : b9 = true → ∃ ob x y z, v15 = .pointer (some ⟨ob, 0, none⟩) ∧ w5.heap.size ≤ ob ∧ u.heap[ob]? = some (.cells #[x, y, z] 35 (0, 0)) ∧ (b10 = true → x = .int .i64 0 ∧ y = v58 ∧ z = v62)
  c8 : b8 = true → b3 = true ∧ b7 = true
  c10 : b10 = true → b3 = true ∧ b7 = true ∧ b9 = true
variable {w5 u u' : World} {l : Ln} {lb : Nat} {V0 : Nat → Value} {v15 v55 v56 v57 v58 v59 v60 v61 v62 v63 x : Value} {b0 b1 b2 b3 b4 b5 b6 b7 b8 b9 b10 : Bool}
theorem OwnI.move (h : OwnI w5 l lb v15 v55 v56 v57 v58 v59 v60 v61 v62 v63 b0 b1 b2 b3 b4 b5 b6 b7 b8 b9 b10 u) (T : TypeId) (hb : Below w5.heap.size w5 u') (hk : ∀ (j : Nat) (cs : Array Value) (t : TypeId), u.heap[j]? = some (Obj.cells cs t (0, 0)) → t ≠ T → u'.heap[j]? = some (Obj.cells cs t (0, 0)))
    (e0 : b0 = true → b3 = false → T ≠ 58) (e3 : b3 = true → T ≠ 58) (e4 : b4 = true → b7 = false → T ≠ 49) (e7 : b7 = true → T ≠ 49) (e9 : b9 = true → T ≠ 35) : OwnI w5 l lb v15 v55 v56 v57 v58 v59 v60 v61 v62 v63 b0 b1 b2 b3 b4 b5 b6 b7 b8 b9 b10 u' :=
  ⟨hb, fun p q => by obtain ⟨g, r1, r2, r3⟩ := h.s0 p q; exact ⟨g, r1, r2, hk _ _ _ r3 (fun e => e0 p q e.symm)⟩, h.s1, h.s2,
   fun p => by obtain ⟨g, c, r1, r2, r3, r4, cur, r5, r6⟩ := h.s3 p; exact ⟨g, c, r1, r2, r3, r4, cur, hk _ _ _ r5 (fun e => e3 p e.symm), r6⟩,
   fun p q => by obtain ⟨g, r1, r2, r3⟩ := h.s4 p q; exact ⟨g, r1, r2, hk _ _ _ r3 (fun e => e4 p q e.symm)⟩, h.s5, h.s6,
   fun p => by obtain ⟨g, c, r1, r2, r3, r4, cur, r5, r6⟩ := h.s7 p; exact ⟨g, c, r1, r2, r3, r4, cur, hk _ _ _ r5 (fun e => e7 p e.symm), r6⟩, h.s8,
   fun p => by obtain ⟨ob, x, y, z, r1, r2, r3, r4⟩ := h.s9 p; exact ⟨ob, x, y, z, r1, r2, hk _ _ _ r3 (fun e => e9 p e.symm), r4⟩, h.c8, h.c10⟩
theorem OwnI.alloc (h : OwnI w5 l lb v15 v55 v56 v57 v58 v59 v60 v61 v62 v63 b0 b1 b2 b3 b4 b5 b6 b7 b8 b9 b10 u) (o : Obj) : OwnI w5 l lb v15 v55 v56 v57 v58 v59 v60 v61 v62 v63 b0 b1 b2 b3 b4 b5 b6 b7 b8 b9 b10 (u.alloc o) :=
  h.move 1000000 (h.be.alloc h.be.size _) (fun j cs t q _ => (Below.heap_alloc _ _ _ (lt_of_block q)).trans q) (fun _ _ => by decide) (fun _ => by decide) (fun _ _ => by decide) (fun _ => by decide) (fun _ => by decide)
theorem TA.ext {a0 a b : Act} {V : Nat → Value} (h : TA a0 a V) (k : TA a0 b V) : a = b := by
  have e1 : a.tmps = b.tmps := by
    apply Array.ext_getElem?
    intro i
    by_cases hi : i < 168
    · rw [h.v i hi, k.v i hi]
    · rw [Array.getElem?_eq_none (by rw [h.s]; omega), Array.getElem?_eq_none (by rw [k.s]; omega)]
  have e2 : a.defers = b.defers := h.d.trans k.d.symm
  cases a; cases b; simp_all
theorem sel_id (V0 : Nat → Value) : sel V0 (V0 15) (V0 55) (V0 56) (V0 57) (V0 58) (V0 59) (V0 60) (V0 61) (V0 62) (V0 63) = V0 := by
  funext k
  unfold sel
  repeat (split; · rename_i h; rw [h])
  rfl
theorem TA.self {a0 : Act} (hs : a0.tmps.size = 168) : TA a0 a0 (fun k => a0.tmps.getD k undef) := by
  refine ⟨rfl, hs, fun k hk => ?_⟩
  have hk' : k < a0.tmps.size := by omega
  simp [Array.getD, hk']
set_option maxHeartbeats 1600000 in
theorem own_region {Q : Exit → Act → World → Prop} {a0 : Act} {w5 : World} {l : Ln} {lb : Nat} (hsz : a0.tmps.size = 168) (h12 : a0.eval (.tmp 12) = .pointer (some ⟨lb, 0, none⟩)) (c1 : w5.cell? ⟨lb, 1, none⟩ = some (.slice l.sa l.S.length l.sc)) (c2 : w5.cell? ⟨lb, 2, none⟩ = some (.slice l.ca l.C.length l.cc)) (hl : LnM w5 l) (ho : LnOk l) (hsn : l.sa = none → l.sc = 0) (hcn : l.ca = none → l.cc = 0)
    (hQ : ∀ (v55 v56 v57 v59 v60 v61 v63 : Value) (u : World) (ob gs cs gc cc : Nat), Below w5.heap.size w5 u → w5.heap.size ≤ ob → w5.heap.size ≤ gs → w5.heap.size ≤ gc → l.S.length ≤ cs → l.C.length ≤ cc → u.heap[ob]? = some (.cells #[.int .i64 0, .slice (some ⟨gs, 0, none⟩) l.S.length cs, .slice (some ⟨gc, 0, none⟩) l.C.length cc] 35 (0, 0)) → SpM u gs l.S → PxM u gc l.C.length (coA l.C) →
      Q .normal ((((((((((a0.put (some 15) (.pointer (some ⟨ob, 0, none⟩))).put (some 55) v55).put (some 56) v56).put (some 57) v57).put (some 58) (.slice (some ⟨gs, 0, none⟩) l.S.length cs)).put (some 59) v59).put (some 60) v60).put (some 61) v61).put (some 62) (.slice (some ⟨gc, 0, none⟩) l.C.length cc)).put (some 63) v63) u) :
    wpAny Try.prog .any ownOps Q 11 #[false, false, false, false, false, false, false, false, false, false, false] a0 w5 := by
  obtain ⟨V0, hV0⟩ : ∃ V0, (fun k => a0.tmps.getD k undef) = V0 := ⟨_, rfl⟩
  have hT0 : TA a0 a0 V0 := by rw [← hV0]; exact TA.self hsz
  have hlb : lb < w5.heap.size := cell_lt c1
  have e12 : V0 12 = .pointer (some ⟨lb, 0, none⟩) := (hT0.ev (j := 12) (by decide)).symm.trans h12
  refine wpAny_inv (fun L a u => ∃ (b0 b1 b2 b3 b4 b5 b6 b7 b8 b9 b10 : Bool) (v15 v55 v56 v57 v58 v59 v60 v61 v62 v63 : Value), L = #[b0, b1, b2, b3, b4, b5, b6, b7, b8, b9, b10] ∧ TA a0 a (sel V0 v15 v55 v56 v57 v58 v59 v60 v61 v62 v63) ∧ OwnI w5 l lb v15 v55 v56 v57 v58 v59 v60 v61 v62 v63 b0 b1 b2 b3 b4 b5 b6 b7 b8 b9 b10 u) ?_ ?_ ?_ _ _ _ _ ?_ (by decide)
  · rintro L a u ⟨b0, b1, b2, b3, b4, b5, b6, b7, b8, b9, b10, v15, v55, v56, v57, v58, v59, v60, v61, v62, v63, rfl, _, _⟩
    rfl
  · rintro L a u ⟨b0, b1, b2, b3, b4, b5, b6, b7, b8, b9, b10, v15, v55, v56, v57, v58, v59, v60, v61, v62, v63, rfl, hTA, hI⟩ i hi
    have q12 : a.eval (.tmp 12) = .pointer (some ⟨lb, 0, none⟩) := (hTA.ev (j := 12) (by decide)).trans e12
    have d1 : u.cell? ⟨lb, 1, none⟩ = some (.slice l.sa l.S.length l.sc) := (World.cell?_of_block (a := ⟨lb, 1, none⟩) (hI.be.block lb hlb)).trans c1
    have d2 : u.cell? ⟨lb, 2, none⟩ = some (.slice l.ca l.C.length l.cc) := (World.cell?_of_block (a := ⟨lb, 2, none⟩) (hI.be.block lb hlb)).trans c2
    rcases own_deps b0 b1 b2 b3 b4 b5 b6 b7 b8 b9 b10 i hi with ⟨rfl, rfl⟩ | ⟨rfl, rfl⟩ | ⟨rfl, rfl, rfl⟩ | ⟨rfl, rfl, rfl, rfl⟩ | ⟨rfl, rfl⟩ | ⟨rfl, rfl⟩ | ⟨rfl, rfl, rfl⟩ | ⟨rfl, rfl, rfl, rfl, rfl⟩ | ⟨rfl, rfl, rfl, rfl⟩ | ⟨rfl, rfl⟩ | ⟨rfl, rfl, rfl, rfl, rfl, rfl⟩
    · refine wpOp_val (o := ownOps[0]!) rfl rfl (run_0 _ u) ?_
      refine ⟨true, b1, b2, b3, b4, b5, b6, b7, b8, b9, b10, v15, .slice (some ⟨u.heap.size, 0, none⟩) 0 0, v56, v57, v58, v59, v60, v61, v62, v63, rfl, ?_, ?_⟩
      · have := hTA.put 55 (.slice (some ⟨u.heap.size, 0, none⟩) 0 0); rw [sel55] at this; exact this
      · have h := hI.alloc (.cells #[] 58)
        exact ⟨h.be, fun _ _ => ⟨u.heap.size, rfl, hI.be.size, World.alloc_heap_new u _⟩, h.s1, h.s2, h.s3, h.s4, h.s5, h.s6, h.s7, h.s8, h.s9, h.c8, h.c10⟩
    · refine wpOp_val (o := ownOps[1]!) rfl rfl (run_1 _ u lb q12) ?_
      refine ⟨b0, true, b2, b3, b4, b5, b6, b7, b8, b9, b10, v15, v55, .pointer (some ⟨lb, 1, none⟩), v57, v58, v59, v60, v61, v62, v63, rfl, ?_, ?_⟩
      · have := hTA.put 56 (.pointer (some ⟨lb, 1, none⟩)); rw [sel56] at this; exact this
      · exact ⟨hI.be, hI.s0, fun _ => rfl, hI.s2, hI.s3, hI.s4, hI.s5, hI.s6, hI.s7, hI.s8, hI.s9, hI.c8, hI.c10⟩
    · refine wpOp_val (o := ownOps[2]!) rfl rfl (run_2 _ u lb _ _ _ ((hTA.ev (j := 56) (by decide)).trans (hI.s1 rfl)) d1) ?_
      refine ⟨b0, true, true, b3, b4, b5, b6, b7, b8, b9, b10, v15, v55, v56, .slice l.sa l.S.length l.sc, v58, v59, v60, v61, v62, v63, rfl, ?_, ?_⟩
      · have := hTA.put 57 (.slice l.sa l.S.length l.sc); rw [sel57] at this; exact this
      · exact ⟨hI.be, hI.s0, hI.s1, fun _ => rfl, hI.s3, hI.s4, hI.s5, hI.s6, hI.s7, hI.s8, hI.s9, hI.c8, hI.c10⟩
    · obtain ⟨g, r1, r2, r3⟩ := hI.s0 rfl rfl
      refine wpOp_list (o := ownOps[3]!) rfl rfl ?_
      refine wpList_moreS rfl (.tmp 55) (.tmp 57) rfl w5.heap.size g ((hTA.ev (j := 55) (by decide)).trans r1) r2 r3 l.sa l.S.length l.sc l.S ((hTA.ev (j := 57) (by decide)).trans (hI.s2 rfl)) hsn rfl (hl.s.old hI.be) ho.sm ?_
      intro g' c' w' q1 q2 q3 q4 q5
      refine ⟨rfl, ?_⟩
      refine ⟨true, b1, true, true, b4, b5, b6, b7, b8, b9, b10, v15, v55, v56, v57, .slice (some ⟨g', 0, none⟩) l.S.length c', v59, v60, v61, v62, v63, rfl, ?_, ?_⟩
      · have := hTA.put 58 (.slice (some ⟨g', 0, none⟩) l.S.length c'); rw [sel58] at this; exact this
      · have h : OwnI w5 l lb v15 v55 v56 v57 v58 v59 v60 v61 v62 v63 false b1 true false b4 b5 b6 b7 b8 b9 b10 u := ⟨hI.be, (fun h => by cases h), hI.s1, hI.s2, hI.s3, hI.s4, hI.s5, hI.s6, hI.s7, hI.s8, hI.s9, hI.c8, hI.c10⟩
        have h := h.move 58 (hI.be.grown q5 hI.be.size (fun k e => by cases e; exact r2)) (fun j cs t e1 e2 => (q5.block j (lt_of_block e1) (fun e => by cases e; rw [r3] at e1; cases e1; exact e2 rfl)).trans e1) (fun h => by cases h) (fun h => by cases h) (fun _ _ => by decide) (fun _ => by decide) (fun _ => by decide)
        exact ⟨h.be, (fun _ h => by cases h), h.s1, h.s2, fun _ => ⟨g', c', rfl, q2, q3, q1, q4⟩, h.s4, h.s5, h.s6, h.s7, (fun e => by cases (h.c8 e).1), (fun e => by obtain ⟨ob, x, y, z, y1, y2, y3, y4⟩ := h.s9 e; exact ⟨ob, x, y, z, y1, y2, y3, fun e => by cases (h.c10 e).1⟩), (fun e => by cases (h.c8 e).1), fun e => by cases (h.c10 e).1⟩
    · refine wpOp_val (o := ownOps[4]!) rfl rfl (run_4 _ u) ?_
      refine ⟨b0, b1, b2, b3, true, b5, b6, b7, b8, b9, b10, v15, v55, v56, v57, v58, .slice (some ⟨u.heap.size, 0, none⟩) 0 0, v60, v61, v62, v63, rfl, ?_, ?_⟩
      · have := hTA.put 59 (.slice (some ⟨u.heap.size, 0, none⟩) 0 0); rw [sel59] at this; exact this
      · have h := hI.alloc (.cells #[] 49)
        exact ⟨h.be, h.s0, h.s1, h.s2, h.s3, fun _ _ => ⟨u.heap.size, rfl, hI.be.size, World.alloc_heap_new u _⟩, h.s5, h.s6, h.s7, h.s8, h.s9, h.c8, h.c10⟩
    · refine wpOp_val (o := ownOps[5]!) rfl rfl (run_5 _ u lb q12) ?_
      refine ⟨b0, b1, b2, b3, b4, true, b6, b7, b8, b9, b10, v15, v55, v56, v57, v58, v59, .pointer (some ⟨lb, 2, none⟩), v61, v62, v63, rfl, ?_, ?_⟩
      · have := hTA.put 60 (.pointer (some ⟨lb, 2, none⟩)); rw [sel60] at this; exact this
      · exact ⟨hI.be, hI.s0, hI.s1, hI.s2, hI.s3, hI.s4, fun _ => rfl, hI.s6, hI.s7, hI.s8, hI.s9, hI.c8, hI.c10⟩
    · refine wpOp_val (o := ownOps[6]!) rfl rfl (run_6 _ u lb _ _ _ ((hTA.ev (j := 60) (by decide)).trans (hI.s5 rfl)) d2) ?_
      refine ⟨b0, b1, b2, b3, b4, true, true, b7, b8, b9, b10, v15, v55, v56, v57, v58, v59, v60, .slice l.ca l.C.length l.cc, v62, v63, rfl, ?_, ?_⟩
      · have := hTA.put 61 (.slice l.ca l.C.length l.cc); rw [sel61] at this; exact this
      · exact ⟨hI.be, hI.s0, hI.s1, hI.s2, hI.s3, hI.s4, hI.s5, fun _ => rfl, hI.s7, hI.s8, hI.s9, hI.c8, hI.c10⟩
    · obtain ⟨g, r1, r2, r3⟩ := hI.s4 rfl rfl
      refine wpOp_list (o := ownOps[7]!) rfl rfl ?_
      refine wpList_moreC rfl (.tmp 59) (.tmp 61) rfl w5.heap.size g ((hTA.ev (j := 59) (by decide)).trans r1) r2 r3 l.ca l.C.length l.cc l.C ((hTA.ev (j := 61) (by decide)).trans (hI.s6 rfl)) hcn rfl (hl.c.old hI.be) ho.cm ?_
      intro g' c' w' q1 q2 q3 q4 q5
      refine ⟨rfl, ?_⟩
      refine ⟨b0, b1, b2, true, true, b5, true, true, b8, b9, b10, v15, v55, v56, v57, v58, v59, v60, v61, .slice (some ⟨g', 0, none⟩) l.C.length c', v63, rfl, ?_, ?_⟩
      · have := hTA.put 62 (.slice (some ⟨g', 0, none⟩) l.C.length c'); rw [sel62] at this; exact this
      · have h : OwnI w5 l lb v15 v55 v56 v57 v58 v59 v60 v61 v62 v63 b0 b1 b2 true false b5 true false b8 b9 b10 u := ⟨hI.be, hI.s0, hI.s1, hI.s2, hI.s3, (fun h => by cases h), hI.s5, hI.s6, hI.s7, hI.s8, hI.s9, hI.c8, hI.c10⟩
        have h := h.move 49 (hI.be.grown q5 hI.be.size (fun k e => by cases e; exact r2)) (fun j cs t e1 e2 => (q5.block j (lt_of_block e1) (fun e => by cases e; rw [r3] at e1; cases e1; exact e2 rfl)).trans e1) (fun _ _ => by decide) (fun _ => by decide) (fun h => by cases h) (fun h => by cases h) (fun _ => by decide)
        exact ⟨h.be, h.s0, h.s1, h.s2, h.s3, (fun _ h => by cases h), h.s5, h.s6, fun _ => ⟨g', c', rfl, q2, q3, q1, q4⟩, (fun e => by cases (h.c8 e).2), (fun e => by obtain ⟨ob, x, y, z, y1, y2, y3, y4⟩ := h.s9 e; exact ⟨ob, x, y, z, y1, y2, y3, fun e => by cases (h.c10 e).2.1⟩), (fun e => by cases (h.c8 e).2), fun e => by cases (h.c10 e).2.1⟩
    · obtain ⟨g1, k1, x1, x2, x3, x4, x5⟩ := hI.s3 rfl
      obtain ⟨g2, k2, y1, y2, y3, y4, y5⟩ := hI.s7 rfl
      subst x1 y1
      refine wpOp_val (o := ownOps[8]!) rfl rfl (run_8 _ u _ _ _ _ _ _ (hTA.ev (j := 58) (by decide)) (hTA.ev (j := 62) (by decide))) ?_
      refine ⟨b0, b1, b2, true, b4, b5, b6, true, true, b9, b10, v15, v55, v56, v57, .slice (some ⟨g1, 0, none⟩) l.S.length k1, v59, v60, v61, .slice (some ⟨g2, 0, none⟩) l.C.length k2, .agg #[.int .i64 0, .slice (some ⟨g1, 0, none⟩) l.S.length k1, .slice (some ⟨g2, 0, none⟩) l.C.length k2], rfl, ?_, ?_⟩
      · have := hTA.put 63 (.agg #[.int .i64 0, .slice (some ⟨g1, 0, none⟩) l.S.length k1, .slice (some ⟨g2, 0, none⟩) l.C.length k2]); rw [sel63] at this; exact this
      · exact ⟨hI.be, hI.s0, hI.s1, hI.s2, hI.s3, hI.s4, hI.s5, hI.s6, hI.s7, fun _ => rfl, hI.s9, fun _ => ⟨rfl, rfl⟩, hI.c10⟩
    · refine wpOp_val (o := ownOps[9]!) rfl rfl (run_9 _ u) ?_
      refine ⟨b0, b1, b2, b3, b4, b5, b6, b7, b8, true, b10, .pointer (some ⟨u.heap.size, 0, none⟩), v55, v56, v57, v58, v59, v60, v61, v62, v63, rfl, ?_, ?_⟩
      · have := hTA.put 15 (.pointer (some ⟨u.heap.size, 0, none⟩)); rw [sel15] at this; exact this
      · have h := hI.alloc (.cells #[.int .i64 0, .slice none 0 0, .slice none 0 0] 35)
        exact ⟨h.be, h.s0, h.s1, h.s2, h.s3, h.s4, h.s5, h.s6, h.s7, h.s8, fun _ => ⟨u.heap.size, _, _, _, rfl, hI.be.size, World.alloc_heap_new u _, fun e => by cases (h.c10 e).2.2⟩, h.c8, fun e => by cases (h.c10 e).2.2⟩
    · obtain ⟨g1, k1, x1, x2, x3, x4, x5⟩ := hI.s3 rfl
      obtain ⟨g2, k2, y1, y2, y3, y4, y5⟩ := hI.s7 rfl
      obtain ⟨ob, x, y, z, z1, z2, z3, z4⟩ := hI.s9 rfl
      have e63 := hI.s8 rfl
      subst x1 y1 z1 e63
      refine wpOp_list (o := ownOps[10]!) rfl rfl ?_
      refine wpList_store_mid rfl 35 (.tmp 15) (.tmp 63) rfl ob 0 #[.int .i64 0, .slice (some ⟨g1, 0, none⟩) l.S.length k1, .slice (some ⟨g2, 0, none⟩) l.C.length k2] (hTA.ev (j := 15) (by decide)) (hTA.ev (j := 63) (by decide)) (fun j hj => by
        constructor
        · have hj3 : j < 3 := hj
          match j, hj3 with
          | 0, _ => simp [World.cell?, z3]
          | 1, _ => simp [World.cell?, z3]
          | 2, _ => simp [World.cell?, z3]
        · simp [World.frozen?, z3]) (by kernel_rfl) (by simp [Value.oneCell']) ?_
      refine ⟨rfl, ?_⟩
      refine ⟨b0, b1, b2, true, b4, b5, b6, true, true, true, true, .pointer (some ⟨ob, 0, none⟩), v55, v56, v57, .slice (some ⟨g1, 0, none⟩) l.S.length k1, v59, v60, v61, .slice (some ⟨g2, 0, none⟩) l.C.length k2, .agg #[.int .i64 0, .slice (some ⟨g1, 0, none⟩) l.S.length k1, .slice (some ⟨g2, 0, none⟩) l.C.length k2], rfl, ?_, ?_⟩
      · exact hTA
      · have e0 := heap_setCell_same u ob 0 _ _ (.int .i64 0) z3
        have e1 := heap_setCell_same _ ob 1 _ _ (.slice (some ⟨g1, 0, none⟩) l.S.length k1) e0
        have e2 := heap_setCell_same _ ob 2 _ _ (.slice (some ⟨g2, 0, none⟩) l.C.length k2) e1
        have h : OwnI w5 l lb (.pointer (some ⟨ob, 0, none⟩)) v55 v56 v57 (.slice (some ⟨g1, 0, none⟩) l.S.length k1) v59 v60 v61 (.slice (some ⟨g2, 0, none⟩) l.C.length k2) (.agg #[.int .i64 0, .slice (some ⟨g1, 0, none⟩) l.S.length k1, .slice (some ⟨g2, 0, none⟩) l.C.length k2]) b0 b1 b2 true b4 b5 b6 true true false false u := ⟨hI.be, hI.s0, hI.s1, hI.s2, hI.s3, hI.s4, hI.s5, hI.s6, hI.s7, hI.s8, (fun h => by cases h), hI.c8, (fun h => by cases h)⟩
        have h := h.move (u' := ((u.setCell ⟨ob, 0, none⟩ (.int .i64 0)).setCell ⟨ob, 1, none⟩ (.slice (some ⟨g1, 0, none⟩) l.S.length k1)).setCell ⟨ob, 2, none⟩ (.slice (some ⟨g2, 0, none⟩) l.C.length k2)) 35 (((hI.be.setCell (p := ⟨ob, 0, none⟩) z2 _).setCell (p := ⟨ob, 1, none⟩) z2 _).setCell (p := ⟨ob, 2, none⟩) z2 _) (fun j cs t q1 q2 => by
          have hne : j ≠ ob := fun e => by rw [e, z3] at q1; cases q1; exact q2 rfl
          rw [Below.heap_setCell _ _ _ _ hne, Below.heap_setCell _ _ _ _ hne, Below.heap_setCell _ _ _ _ hne]; exact q1) (fun _ _ => by decide) (fun _ => by decide) (fun _ _ => by decide) (fun _ => by decide) (fun h => by cases h)
        exact ⟨h.be, h.s0, h.s1, h.s2, h.s3, h.s4, h.s5, h.s6, h.s7, h.s8, fun _ => ⟨ob, _, _, _, rfl, z2, e2, fun _ => ⟨rfl, rfl, rfl⟩⟩, h.c8, fun _ => ⟨rfl, rfl, rfl⟩⟩
  · rintro L a u ⟨b0, b1, b2, b3, b4, b5, b6, b7, b8, b9, b10, v15, v55, v56, v57, v58, v59, v60, v61, v62, v63, rfl, hTA, hI⟩ hr
    obtain ⟨rfl, rfl, rfl, rfl⟩ := own_end b0 b1 b2 b3 b4 b5 b6 b7 b8 b9 b10 hr
    obtain ⟨g1, k1, x1, x2, x3, x4, x5⟩ := hI.s3 rfl
    obtain ⟨g2, k2, y1, y2, y3, y4, y5⟩ := hI.s7 rfl
    obtain ⟨ob, x, y, z, z1, z2, z3, z4⟩ := hI.s9 rfl
    obtain ⟨rfl, rfl, rfl⟩ := z4 rfl
    subst x1 y1 z1
    have t0 : TA a0 a0 (sel V0 (V0 15) (V0 55) (V0 56) (V0 57) (V0 58) (V0 59) (V0 60) (V0 61) (V0 62) (V0 63)) := by rw [sel_id]; exact hT0
    have t15 := t0.put 15 (.pointer (some ⟨ob, 0, none⟩))
    rw [sel15] at t15
    have t55 := t15.put 55 (v55)
    rw [sel55] at t55
    have t56 := t55.put 56 (v56)
    rw [sel56] at t56
    have t57 := t56.put 57 (v57)
    rw [sel57] at t57
    have t58 := t57.put 58 (.slice (some ⟨g1, 0, none⟩) l.S.length k1)
    rw [sel58] at t58
    have t59 := t58.put 59 (v59)
    rw [sel59] at t59
    have t60 := t59.put 60 (v60)
    rw [sel60] at t60
    have t61 := t60.put 61 (v61)
    rw [sel61] at t61
    have t62 := t61.put 62 (.slice (some ⟨g2, 0, none⟩) l.C.length k2)
    rw [sel62] at t62
    have t63 := t62.put 63 (v63)
    rw [sel63] at t63
    rw [hTA.ext t63]
    exact hQ v55 v56 v57 v59 v60 v61 v63 u ob g1 k1 g2 k2 hI.be z2 x4 y4 x2 y2 z3 x5 y5
  · exact ⟨false, false, false, false, false, false, false, false, false, false, false, V0 15, V0 55, V0 56, V0 57, V0 58, V0 59, V0 60, V0 61, V0 62, V0 63, rfl, by rw [sel_id]; exact hT0, Below.refl _ _, (fun h => by cases h), (fun h => by cases h), (fun h => by cases h), (fun h => by cases h), (fun h => by cases h), (fun h => by cases h), (fun h => by cases h), (fun h => by cases h), (fun h => by cases h), (fun h => by cases h), (fun h => by cases h), (fun h => by cases h)⟩
end Go.Proofs.Ytjheipfcehddhaa
