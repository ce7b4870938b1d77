/- A GIF's beginning is read: the program. -/
import Derived.Test.YtgffcdldljgiiaaGreatScG
import Derived.WalkMore
namespace Go.Proofs.YtgffcdldljgiiaaGreat
open Go.RowKit
def RdP (w : World) (c U : Nat) (G : Except Int (Scr × List Int)) (e : Ending) (w' : World) : Prop := ∃ (s : Scr) (tv : Value) (st : St), e = .returned (ScV s.W s.H tv s.Lo s.C s.La s.B) ∧ TJ w' tv s.T ∧ CS w' c U st ∧ shut s st = G ∧ w.grownBy w' (some c)
/-- What holds between two parts: the screen, and what all of it will come to. -/
structure RdI (w w3 : World) (c U sb : Nat) (s : Scr) (tv : Value) (st : St) (wr : World) : Prop where
  si : SI w3 c U sb s.W s.H tv s.T s.Lo s.C s.La s.B st wr
  gr : w.grownBy w3 (some c)
  rs : w3.heap[w.heap.size]? = some (.cells #[.int .i64 0, .int .i64 0, .slice none 0 0, .bool false, .int .i64 0, .bool false, .int .i64 0] 303 (0, 0))
  lt : w.heap.size < sb
  cl : c < w.heap.size
theorem RdI.rest {w w3 : World} {c U sb : Nat} {s : Scr} {tv : Value} {st : St} {wr : World} (h : RdI w w3 c U sb s tv st wr) : wr.heap[w.heap.size]? = some (.cells #[.int .i64 0, .int .i64 0, .slice none 0 0, .bool false, .int .i64 0, .bool false, .int .i64 0] 303 (0, 0)) :=
  (h.si.fr.block _ (lt_of_block h.rs) (by have := h.cl; omega) (by have := h.lt; omega)).trans h.rs
theorem RdI.step {w w3 : World} {c U sb : Nat} {s s' : Scr} {tv tv' : Value} {st st' : St} {wr w' : World} (h : RdI w w3 c U sb s tv st wr) (hs : SI w3 c U sb s'.W s'.H tv' s'.T s'.Lo s'.C s'.La s'.B st' w') : RdI w w3 c U sb s' tv' st' w' := ⟨hs, h.gr, h.rs, h.lt, h.cl⟩
theorem RdI.fin {w w3 : World} {c U sb : Nat} {s : Scr} {tv : Value} {st : St} {wr : World} {G : Except Int (Scr × List Int)} (h : RdI w w3 c U sb s tv st wr) (hU : U ≤ w.heap.size) (hG : shut s st = G) (u0 u1 u2 u3 u4 u5 u6 : Value) : RdP w c U G (.returned (ScV s.W s.H tv s.Lo s.C s.La s.B)) (((((((wr.setCell ⟨w.heap.size, 0, none⟩ u0).setCell ⟨w.heap.size, 1, none⟩ u1).setCell ⟨w.heap.size, 2, none⟩ u2).setCell ⟨w.heap.size, 3, none⟩ u3).setCell ⟨w.heap.size, 4, none⟩ u4).setCell ⟨w.heap.size, 5, none⟩ u5).setCell ⟨w.heap.size, 6, none⟩ u6) := by
  have hrs : SC wr w.heap.size 0 0 (.slice none 0 0) false 0 false 0 := h.rest
  refine ⟨s, tv, st, rfl, h.si.ti.grown (grown7 _ _ _ _ _ _ _) hrs.row, h.si.cs.grown (grown7 _ _ _ _ _ _ _) hU, hG, ?_⟩
  have g1 : w.grownBy wr (some c) := by
    have hf := h.si.fr
    have hl := h.lt
    exact ⟨hf.os.trans h.gr.os, hf.tape.trans h.gr.tape, hf.output.trans h.gr.output, Nat.le_trans h.gr.size hf.size, fun k hk hne => (hf.block k (by have := h.gr.size; omega) (fun e => hne (by rw [e])) (by omega)).trans (h.gr.block k hk hne)⟩
  exact grownBy_own g1 (grown7 _ _ _ _ _ _ _) (Nat.le_refl _)
theorem nmAt_len (st : St) : ∀ k, (stZ (nmAt st k)).length ≤ (stZ st).length
  | 0 => Nat.le_refl _
  | k + 1 => by
    refine Nat.le_trans ?_ (nmAt_len st k)
    show (stZ (nm1 _ _)).length ≤ _
    unfold nm1
    split
    · exact bS_len _ _
    · rw [fS_len]; omega
theorem sdS_len (st : St) : (stZ (sdS st)).length ≤ (stZ st).length := by
  have h1 : (stZ (sdA st)).length ≤ (stZ st).length := Nat.le_trans (bS_len _ _) (Nat.le_trans (bS_len _ _) (Nat.le_trans (bS_len _ _) (bS_len _ _)))
  have h2 : (stZ (sdB st)).length ≤ (stZ st).length := by
    unfold sdB; split
    · exact h1
    · rw [fS_len]; omega
  unfold sdS; split
  · exact Nat.le_trans (bS_len _ _) h2
  · exact h2
def gSt (st : St) : Except Int (Scr × List Int) := gRest ((stZ st).length + 2) (sdV (nmAt st 6)) (sdS (nmAt st 6))
set_option maxHeartbeats 6400000 in
set_option maxRecDepth 20000 in
theorem sread_any (c U : Nat) (st : St) (w : World) (h : CS w c U st) (hU : U ≤ w.heap.size) : Calls Tryz.prog 230 #[.pointer (some ⟨c, 0, none⟩)] w fun e w' => RdP w c U (gSt st) e w' := by
  have HU : Hid (U ≤ w.heap.size) := hU
  obtain ⟨w0, hw0⟩ : ∃ w0, w.alloc (.cells #[.int .i64 0, .int .i64 0, .slice none 0 0, .bool false, .int .i64 0, .bool false, .int .i64 0] 303) = w0 := ⟨_, rfl⟩
  have hb0 : Below w.heap.size w w0 := by rw [← hw0]; exact (Below.refl _ w).alloc (Nat.le_refl _) _
  have HR0 : Hid (w0.heap[w.heap.size]? = some (.cells #[.int .i64 0, .int .i64 0, .slice none 0 0, .bool false, .int .i64 0, .bool false, .int .i64 0] 303 (0, 0)) ∧ Below w.heap.size w w0 ∧ c < w.heap.size) := ⟨by rw [← hw0]; exact World.alloc_heap_new w _, hb0, h.lt⟩
  have CN := readName_any c U st w0 (h.old hb0)
  have HG : Hid (∃ f, (stZ (sdS (nmAt st 6))).length < f ∧ f ≤ (stZ st).length + 2 ∧ gRest f (sdV (nmAt st 6)) (sdS (nmAt st 6)) = gSt st) := ⟨(stZ st).length + 2, by have := sdS_len (nmAt st 6); have := nmAt_len st 6; omega, Nat.le_refl _, rfl⟩
  have HV : Hid (sdV (nmAt st 6) = ⟨l2 (nmAt st 6), sdH (nmAt st 6), sdT (nmAt st 6), false, -1, false, 0⟩) := rfl
  generalize gSt st = G at *
  generalize nmAt st 6 = s6 at *
  clear h hb0 hU
  go_enter Tryz.func230, Tryz.ntmps230
  go_wp2_with fail
  try go_step3
  go_wp2_with fail
  refine CN.mono ?_
  clear CN hw0
  rintro e w1 ⟨rfl, hc1, hg1⟩
  have CS1 := readSides_any c U s6 w1 hc1 (by have := HU.out; have := hg1.size; have := HR0.out.2.1.size; omega)
  have HX1 : Hid (w.grownBy w1 (some c) ∧ w1.heap[w.heap.size]? = some (.cells #[.int .i64 0, .int .i64 0, .slice none 0 0, .bool false, .int .i64 0, .bool false, .int .i64 0] 303 (0, 0))) := ⟨grownBy_trans (grownBy_of_below HR0.out.2.1 _) hg1, (hg1.block _ (lt_of_block HR0.out.1) (by have := HR0.out.2.2; simp; omega)).trans HR0.out.1⟩
  clear hc1 hg1
  go_wp2_with fail
  refine CS1.mono ?_
  clear CS1
  rintro e w2 ⟨tv, rfl, ht2, hc2, hg2⟩
  unfold ScV
  have HT2 : Hid (TJ w2 tv (sdT s6)) := ht2.toTJ
  obtain ⟨ta, tn, tc, htv, -⟩ := ht2
  subst htv
  obtain ⟨w3, hw3⟩ : ∃ w3, w3 = w2.alloc (.cells #[.int .i64 (l2 s6), .int .i64 (sdH s6), .slice ta tn tc, .bool false, .int .i64 (-1), .bool false, .int .i64 0] 303) := ⟨_, rfl⟩
  have HI : Hid (RdI w w3 c U w2.heap.size (sdV s6) (.slice ta tn tc) (sdS s6) w3) := by
    have hb : Below w2.heap.size w2 w3 := by rw [hw3]; exact (Below.refl _ w2).alloc (Nat.le_refl _) _
    have hr2 := (hg2.block _ (lt_of_block HX1.out.2) (by have := HR0.out.2.2; simp; omega)).trans HX1.out.2
    have hsc : SC w3 w2.heap.size (l2 s6) (sdH s6) (.slice ta tn tc) false (-1) false 0 := by unfold SC; rw [hw3]; exact World.alloc_heap_new w2 _
    have hgw2 := grownBy_trans HX1.out.1 hg2
    refine ⟨⟨hc2.old hb, ?_, HT2.out.old hb, F2.refl _ _ _, by have := HU.out; have := hgw2.size; omega⟩, grownBy_trans hgw2 (grownBy_of_below hb _), (hb.block _ (lt_of_block hr2)).trans hr2, lt_of_block hr2, HR0.out.2.2⟩
    rw [HV.out]
    exact hsc
  clear hc2 hg2 HX1 HR0 HT2
  go_wp2_with fail
  go_step3
  go_wp2_with fail
  rw [← hw3]
  clear hw3 HV
  obtain ⟨f0, hf0, hf1, hf2⟩ := HG.out
  have HGf : Hid (gRest f0 (sdV s6) (sdS s6) = G ∧ (stZ (sdS s6)).length < f0) := ⟨hf2, hf0⟩
  clear hf0 hf1 hf2 HG
  generalize sdV s6 = s0 at *
  generalize sdS s6 = st0 at *
  generalize w2.heap.size = sb at *
  generalize l2 s6 = l6 at *
  generalize sdH s6 = h6 at *
  go_loopg [12, 16, 20] f0 (fun fu _ _ _ wr => ∃ (s : Scr) (st : St) (ta : Option Addr) (tn tc : Nat), Hid (gRest fu s st = G ∧ (stZ st).length < fu) ∧ Hid (RdI w w3 c U sb s (.slice ta tn tc) st wr))
  case atStart => exact ⟨s0, st0, ta, tn, tc, HGf, HI⟩
  case round =>
    clear HI HGf
    obtain ⟨s, st, ta, tn, tc, HGf, HI⟩ := hrel
    have CB := HI.out.si.cs.big
    obtain ⟨g, rfl⟩ : ∃ g, gk = g + 1 := ⟨gk - 1, by have := HGf.out.2; omega⟩
    have HE : Hid (∀ w1, RdI w w3 c U sb s (.slice ta tn tc) (bS 1 st) w1 → Calls Tryz.prog 242 #[.pointer (some ⟨c, 0, none⟩), .pointer (some ⟨sb, 0, none⟩)] w1 fun e w' => ExPost w3 c U sb s.W s.H (.slice ta tn tc) s.T s.Lo (exC s.C (bS 1 st)) s.La s.B (exS (bS 1 st)) e w') := fun w1 h => readExtension_any c U sb s.W s.H _ s.T s.Lo s.C s.La s.B (bS 1 st) w3 w1 h.si
    have HP : Hid (∀ w1, RdI w w3 c U sb s (.slice ta tn tc) (bS 1 st) w1 → Calls Tryz.prog 243 #[.pointer (some ⟨c, 0, none⟩), .pointer (some ⟨sb, 0, none⟩)] w1 fun e w' => PcPost w3 c U sb s.W s.H (pcT s (bS 1 st)) (decide (128 ≤ pcM (bS 1 st))) s.C (decide (pcM (bS 1 st) / 64 % 2 = 1)) (b1 (pcB s (bS 1 st))) (pcS s (bS 1 st)) e w') := fun w1 h => readPicture_any c U sb s.W s.H _ s.T s.Lo s.C s.La s.B (bS 1 st) w3 w1 s ⟨rfl, rfl, rfl⟩ h.si
    by_cases h33 : b1 st = 33
    · obtain ⟨r, hr1, hr2⟩ := b1_pos (st := st) (by omega)
      have HN : Hid (gRest g { s with C := exC s.C (bS 1 st) } (exS (bS 1 st)) = G ∧ (stZ (exS (bS 1 st))).length < g) := by
        refine ⟨by rw [← gRest_33 h33]; exact HGf.out.1, ?_⟩
        have h1 := exS_len (bS 1 st)
        have h2 := HGf.out.2
        have h3 : (stZ st).length = r.length + 1 := congrArg (fun s => (stZ s).length) hr1
        have h4 : (stZ (bS 1 st)).length = r.length := congrArg (fun s => (stZ s).length) hr2
        omega
      rw [h33] at CB
      clear hr1 hr2 h33 HP HGf
      go_wp2_with fail
      refine CB.mono ?_
      clear CB
      rintro e w4 ⟨rfl, hc4, hg4⟩
      have HI4 : Hid (RdI w w3 c U sb s (.slice ta tn tc) (bS 1 st) w4) := HI.out.step (HI.out.si.step hc4 hg4)
      have CE := HE.out w4 HI4.out
      clear hc4 hg4 HI HE
      go_wp2_with fail
      refine CE.mono ?_
      clear CE
      rintro e w5 ⟨rfl, hs5⟩
      have HI5 : Hid (RdI w w3 c U sb { s with C := exC s.C (bS 1 st) } (.slice ta tn tc) (exS (bS 1 st)) w5) := HI4.out.step hs5
      clear hs5 HI4
      go_wp2
      go_roundg g
      case rel => exact ⟨_, _, ta, tn, tc, HN, HI5⟩
      case measure => omega
    · have k33 : (b1 st == 33) = false := by simpa using h33
      by_cases h44 : b1 st = 44
      · have HN : Hid (shut (pcV s (bS 1 st)) (pcS s (bS 1 st)) = G) := by show _ = _; rw [← gRest_44 (f := g) h44]; exact HGf.out.1
        rw [h44] at CB
        clear h33 h44 k33 HE HGf
        go_wp2_with fail
        refine CB.mono ?_
        clear CB
        rintro e w4 ⟨rfl, hc4, hg4⟩
        have HI4 : Hid (RdI w w3 c U sb s (.slice ta tn tc) (bS 1 st) w4) := HI.out.step (HI.out.si.step hc4 hg4)
        have CP := HP.out w4 HI4.out
        clear hc4 hg4 HI HP
        go_wp2_with fail
        refine CP.mono ?_
        clear CP
        rintro e w5 ⟨rfl, tv5, hs5⟩
        have HI5 : Hid (RdI w w3 c U sb (pcV s (bS 1 st)) tv5 (pcS s (bS 1 st)) w5) := HI4.out.step hs5
        obtain ⟨t5, n5, c5, htv5, -⟩ := hs5.ti
        subst htv5
        clear hs5 HI4
        generalize pcV s (bS 1 st) = s5 at *
        generalize pcS s (bS 1 st) = st5 at *
        obtain ⟨j0, j1, j2, j3, j4, j5, j6, jf⟩ := HI5.out.si.sc.cells
        obtain ⟨r0, r1, r2, r3, r4, r5, r6, rf⟩ := seven_cells HI5.out.rest
        have rf0 := rf 0
        have rf1 := rf 1
        have rf2 := rf 2
        have rf3 := rf 3
        have rf4 := rf 4
        have rf5 := rf 5
        have rf6 := rf 6
        clear jf rf
        go_wp2
        try rw [Exit.noGoto_ret]
        refine bodyPost_ret (v := ScV s5.W s5.H (.slice t5 n5 c5) s5.Lo s5.C s5.La s5.B) ?_ rfl (HI5.out.fin HU.out HN.out _ _ _ _ _ _ _)
        rw [results_cellA rfl]
        go_simp
        rfl
      · have k44 : (b1 st == 44) = false := by simpa using h44
        have HF : Hid (∀ w1 x, x ≠ 0 → RdI w w3 c U sb s (.slice ta tn tc) (bS 1 st) w1 → Calls Tryz.prog 123 #[.pointer (some ⟨c, 0, none⟩), .int .i64 x] w1 fun e w' => e = .returned (.tuple #[]) ∧ RdI w w3 c U sb s (.slice ta tn tc) (fS x (bS 1 st)) w') := fun w1 x hx h => (h.si.cs.fail x hx).mono fun e w' ⟨e1, e2, e3⟩ => ⟨e1, h.step (h.si.step e2 e3)⟩
        by_cases h59 : b1 st = 59
        · have HN : Hid (shut s (fS 16 (bS 1 st)) = G) := by show _ = _; rw [← gRest_59 (f := g) h59]; exact HGf.out.1
          rw [h59] at CB
          clear h33 h44 h59 k33 k44 HE HP HGf
          go_wp2_with fail
          refine CB.mono ?_
          clear CB
          rintro e w4 ⟨rfl, hc4, hg4⟩
          have CF := HF.out w4 16 (by omega) (HI.out.step (HI.out.si.step hc4 hg4))
          clear hc4 hg4 HI HF
          go_wp2_with fail
          refine CF.mono ?_
          clear CF
          rintro e w5 ⟨rfl, hs5⟩
          have HI5 : Hid (RdI w w3 c U sb s (.slice ta tn tc) (fS 16 (bS 1 st)) w5) := hs5
          clear hs5
          generalize fS 16 (bS 1 st) = st5 at *
          obtain ⟨j0, j1, j2, j3, j4, j5, j6, jf⟩ := HI5.out.si.sc.cells
          obtain ⟨r0, r1, r2, r3, r4, r5, r6, rf⟩ := seven_cells HI5.out.rest
          have rf0 := rf 0
          have rf1 := rf 1
          have rf2 := rf 2
          have rf3 := rf 3
          have rf4 := rf 4
          have rf5 := rf 5
          have rf6 := rf 6
          clear jf rf
          go_wp2
          try rw [Exit.noGoto_ret]
          refine bodyPost_ret (v := ScV s.W s.H (.slice ta tn tc) s.Lo s.C s.La s.B) ?_ rfl (HI5.out.fin HU.out HN.out _ _ _ _ _ _ _)
          rw [results_cellA rfl]
          go_simp
          rfl
        · have k59 : (b1 st == 59) = false := by simpa using h59
          have HN : Hid (shut s (fS 3 (bS 1 st)) = G) := by show _ = _; rw [← gRest_no (f := g) h33 h44 h59]; exact HGf.out.1
          clear h33 h44 h59 HE HP HGf
          generalize b1 st = X at *
          go_wp2_with fail
          refine CB.mono ?_
          clear CB
          rintro e w4 ⟨rfl, hc4, hg4⟩
          have CF := HF.out w4 3 (by omega) (HI.out.step (HI.out.si.step hc4 hg4))
          clear hc4 hg4 HI HF
          go_wp2_with fail
          refine CF.mono ?_
          clear CF
          rintro e w5 ⟨rfl, hs5⟩
          have HI5 : Hid (RdI w w3 c U sb s (.slice ta tn tc) (fS 3 (bS 1 st)) w5) := hs5
          clear hs5
          generalize fS 3 (bS 1 st) = st5 at *
          obtain ⟨j0, j1, j2, j3, j4, j5, j6, jf⟩ := HI5.out.si.sc.cells
          obtain ⟨r0, r1, r2, r3, r4, r5, r6, rf⟩ := seven_cells HI5.out.rest
          have rf0 := rf 0
          have rf1 := rf 1
          have rf2 := rf 2
          have rf3 := rf 3
          have rf4 := rf 4
          have rf5 := rf 5
          have rf6 := rf 6
          clear jf rf
          go_wp2
          try rw [Exit.noGoto_ret]
          refine bodyPost_ret (v := ScV s.W s.H (.slice ta tn tc) s.Lo s.C s.La s.B) ?_ rfl (HI5.out.fin HU.out HN.out _ _ _ _ _ _ _)
          rw [results_cellA rfl]
          go_simp
          rfl
end Go.Proofs.YtgffcdldljgiiaaGreat
