/- A GIF's beginning: the program's Read. -/
import Derived.Test.YtgffcdldljgiiaaGreatScH
namespace Go.Proofs.YtgffcdldljgiiaaGreat
open Go.RowKit
/-- What Read answers. -/
def RaPost (w : World) (zs : List Int) (e : Ending) (w' : World) : Prop :=
  (∃ (s : Scr) (r : List Int) (tv : Value), gAll zs = .ok (s, r) ∧ r.length ≤ zs.length ∧ e = .returned (.tuple #[ScV s.W s.H tv s.Lo s.C s.La s.B, .int .i64 ((zs.length : Int) - r.length), .int .i64 0]) ∧ TJ w' tv s.T ∧ Below w.heap.size w w') ∨
  (∃ E : Int, gAll zs = .error E ∧ E ≠ 0 ∧ e = .returned (.tuple #[ScV 0 0 (.slice none 0 0) false 0 false 0, .int .i64 0, .int .i64 E]) ∧ Below w.heap.size w w')
theorem results_cell3 {fn : Func} {p q r : Tmp} {ty : TypeId} (h : fn.results = #[.cell p ty, .tmp q, .tmp r]) (tmps : Array Value) (P : Program) (w : World) :
    (results fn tmps).run P w = ((asAddr (tmps.getD p undef)).run P w).andThen fun a w₁ => ((loadVar ty a).run P w₁).andThen fun v w₂ => .ok (.tuple #[v, tmps.getD q undef, tmps.getD r undef]) w₂ := by
  simp only [results, h]
  simp [Sem.run_bind]
theorem gRest_len : ∀ (f : Nat) (s : Scr) (st : St) (s' : Scr) (r : List Int), gRest f s st = .ok (s', r) → r.length ≤ (stZ st).length
  | 0, _, _, _, _, h => by cases h
  | f + 1, s, st, s', r, h => by
    have hb := bS_len 1 st
    by_cases h33 : b1 st = 33
    · rw [gRest_33 h33] at h
      have := gRest_len f _ _ _ _ h
      exact Nat.le_trans this (Nat.le_trans (exS_len _) hb)
    · by_cases h44 : b1 st = 44
      · rw [gRest_44 h44] at h
        have hp : (stZ (pcS s (bS 1 st))).length ≤ (stZ (bS 1 st)).length := by
          have h8 : (stZ (pc8 (bS 1 st))).length ≤ (stZ (bS 1 st)).length := Nat.le_trans (bS_len _ _) (Nat.le_trans (bS_len _ _) (Nat.le_trans (bS_len _ _) (bS_len _ _)))
          have h9 : (stZ (bS 1 (pc8 (bS 1 st)))).length ≤ (stZ (bS 1 st)).length := Nat.le_trans (bS_len _ _) h8
          have hA : (stZ (pcA s (bS 1 st))).length ≤ (stZ (bS 1 st)).length := by
            unfold pcA
            split
            · split
              · rw [fS_len]; omega
              · exact h9
            · rw [fS_len]; omega
          have hB : (stZ (pcB s (bS 1 st))).length ≤ (stZ (bS 1 st)).length := by
            unfold pcB
            split
            · exact Nat.le_trans (bS_len _ _) hA
            · exact hA
          unfold pcS
          split
          · exact Nat.le_trans (bS_len _ _) hB
          · rw [fS_len]; omega
        generalize pcS s (bS 1 st) = q at *
        cases q with
        | ok z => simp only [shut, Except.ok.injEq, Prod.mk.injEq] at h; rw [← h.2]; exact Nat.le_trans hp hb
        | error e => cases h
      · by_cases h59 : b1 st = 59
        · rw [gRest_59 h59] at h
          generalize bS 1 st = q at h
          cases q <;> cases h
        · rw [gRest_no h33 h44 h59] at h
          generalize bS 1 st = q at h
          cases q <;> cases h
theorem gAll_len {zs : List Int} {s : Scr} {r : List Int} (h : gAll zs = .ok (s, r)) : r.length ≤ zs.length :=
  Nat.le_trans (gRest_len _ _ _ _ _ h) (Nat.le_trans (sdS_len _) (nmAt_len (.ok zs) 6))
theorem drew_old (w : World) : Below w.heap.size w w.drew := ⟨rfl, rfl, rfl, Nat.le_refl _, fun _ _ => rfl⟩
theorem drew_below {B : Nat} {a w : World} (h : Below B a w) : Below B a w.drew := ⟨h.os, h.tape, h.output, h.size, h.block⟩
set_option maxHeartbeats 3200000 in
set_option maxRecDepth 20000 in
theorem sRead_any (a : Option Addr) (n cap : Nat) (zs : List Int) (w : World) (hn : zs.length = n) (hnil : a = none → cap = 0) (hl : n ≤ 140737488355328) (hb : Bytes zs) (hr : Row w a zs) :
    Calls Tryz.prog 224 #[.slice a n cap] w fun e w' => RaPost w zs e w' := by
  obtain ⟨w0, hw0⟩ : ∃ w0, w.alloc (.cells #[.int .i64 0, .int .i64 0, .slice none 0 0, .bool false, .int .i64 0, .bool false, .int .i64 0] 303) = w0 := ⟨_, rfl⟩
  have hb0 : Below w.heap.size w w0 := by rw [← hw0]; exact (Below.refl _ w).alloc (Nat.le_refl _) _
  have HR0 : Hid (w0.heap[w.heap.size]? = some (.cells #[.int .i64 0, .int .i64 0, .slice none 0 0, .bool false, .int .i64 0, .bool false, .int .i64 0] 303 (0, 0)) ∧ Below w.heap.size w w0) := ⟨by rw [← hw0]; exact World.alloc_heap_new w _, hb0⟩
  have CN := new_anyX a n cap zs w0 hn hnil hl (hr.old hb0)
  have HZ : Hid (zs.length = n ∧ n ≤ 140737488355328 ∧ Bytes zs) := ⟨hn, hl, hb⟩
  clear hb0 hr hn hb hnil
  go_enter Tryz.func224, Tryz.ntmps224
  go_wp2_with fail
  refine CN.mono ?_
  clear CN hw0
  rintro e w1 ⟨c, rfl, hc1, hb1, a1, cap1, hh1, hl1, hm1, hr1, hx1⟩
  have HC1 : Hid (CS w1 c w1.heap.size (.ok zs)) := ⟨⟨a1, cap1, hh1, hl1, hm1, hr1, fun x hx hz => hr1.lt x hx hz⟩, HZ.out.2.2, by show zs.length ≤ _; have := HZ.out; omega, (by intro e he; cases he), lt_of_block hh1⟩
  have HX1 : Hid (Below w.heap.size w w1 ∧ w1.heap[w.heap.size]? = some (.cells #[.int .i64 0, .int .i64 0, .slice none 0 0, .bool false, .int .i64 0, .bool false, .int .i64 0] 303 (0, 0)) ∧ w.heap.size < c) := ⟨HR0.out.2.trans (hb1.mono HR0.out.2.size), (hb1.block _ (lt_of_block HR0.out.1)).trans HR0.out.1, by have := lt_of_block HR0.out.1; omega⟩
  have CR := sread_any c w1.heap.size (.ok zs) w1 HC1.out (Nat.le_refl _)
  have eG : gSt (.ok zs) = gAll zs := rfl
  rw [eG] at CR
  clear hc1 hb1 hh1 hl1 hm1 hr1 hx1 eG HR0 HC1
  go_wp2_with fail
  refine CR.mono ?_
  clear CR
  rintro e w2 ⟨s, tv, st, rfl, ht2, hc2, hG, hg2⟩
  unfold ScV
  have HT2 : Hid (TJ w2 tv s.T) := ht2
  obtain ⟨ta, tn, tc, htv, -⟩ := ht2
  subst htv
  obtain ⟨w3, hw3⟩ : ∃ w3, w3 = w2.alloc (.cells #[.int .i64 s.W, .int .i64 s.H, .slice ta tn tc, .bool s.Lo, .int .i64 s.C, .bool s.La, .int .i64 s.B] 303) := ⟨_, rfl⟩
  have HX3 : Hid (CS w3 c w1.heap.size st ∧ TJ w3 (.slice ta tn tc) s.T ∧ Below w.heap.size w w3 ∧ SC w3 w.heap.size 0 0 (.slice none 0 0) false 0 false 0 ∧ SC w3 w2.heap.size s.W s.H (.slice ta tn tc) s.Lo s.C s.La s.B ∧ w.heap.size < w2.heap.size) := by
    have hb : Below w2.heap.size w2 w3 := by rw [hw3]; exact (Below.refl _ w2).alloc (Nat.le_refl _) _
    have hr2 := (hg2.block _ (lt_of_block HX1.out.2.1) (by have := HX1.out.2.2; simp; omega)).trans HX1.out.2.1
    have hbw2 : Below w.heap.size w w2 := HX1.out.1.grown hg2 HX1.out.1.size (fun k hk => by cases hk; have := HX1.out.2.2; omega)
    exact ⟨hc2.old hb, HT2.out.old hb, hbw2.trans (hb.mono hbw2.size), (hb.block _ (lt_of_block hr2)).trans hr2, by unfold SC; rw [hw3]; exact World.alloc_heap_new w2 _, lt_of_block hr2⟩
  have HG : Hid (shut s st = gAll zs) := hG
  have CE := HX3.out.1.err
  rw [hw3] at CE
  clear hc2 hG hg2 HT2 HX1
  cases st with
  | error E =>
    have hE : E ≠ 0 := HX3.out.1.ne E rfl
    have k1 : (E != 0) = true := by simpa using hE
    have k2 : (E == 0) = false := by simpa using hE
    have CE : Calls Tryz.prog 139 #[.pointer (some ⟨c, 0, none⟩)] (w2.alloc (.cells #[.int .i64 s.W, .int .i64 s.H, .slice ta tn tc, .bool s.Lo, .int .i64 s.C, .bool s.La, .int .i64 s.B] 303)) fun e w' => e = .returned (.int .i64 E) ∧ w' = w2.alloc (.cells #[.int .i64 s.W, .int .i64 s.H, .slice ta tn tc, .bool s.Lo, .int .i64 s.C, .bool s.La, .int .i64 s.B] 303) := CE
    obtain ⟨r0, r1, r2, r3, r4, r5, r6, rf⟩ := HX3.out.2.2.2.1.cells
    have rf0 := rf 0
    have rf1 := rf 1
    have rf2 := rf 2
    have rf3 := rf 3
    have rf4 := rf 4
    have rf5 := rf 5
    have rf6 := rf 6
    have HP : Hid (∀ u0 u1 u2 u3 u4 u5 u6, RaPost w zs (.returned (.tuple #[ScV 0 0 (.slice none 0 0) false 0 false 0, .int .i64 0, .int .i64 E])) (((((((w3.setCell ⟨w.heap.size, 0, none⟩ u0).setCell ⟨w.heap.size, 1, none⟩ u1).setCell ⟨w.heap.size, 2, none⟩ u2).setCell ⟨w.heap.size, 3, none⟩ u3).setCell ⟨w.heap.size, 4, none⟩ u4).setCell ⟨w.heap.size, 5, none⟩ u5).setCell ⟨w.heap.size, 6, none⟩ u6)) := fun u0 u1 u2 u3 u4 u5 u6 =>
      .inr ⟨E, HG.out.symm, hE, rfl, HX3.out.2.2.1.grown (grown7 u0 u1 u2 u3 u4 u5 u6) HX3.out.2.2.1.size (fun k hk => by cases hk; exact Nat.le_refl _)⟩
    clear rf HX3 HG hE
    go_wp2_with (go_at_call 139; refine CE.mono ?_; rintro e w4 ⟨rfl, rfl⟩; clear CE; rw [← hw3]; clear hw3)
    refine bodyPost_ret (v := .tuple #[ScV 0 0 (.slice none 0 0) false 0 false 0, .int .i64 0, .int .i64 E]) ?_ rfl (HP.out _ _ _ _ _ _ _)
    rw [results_cell3 rfl]
    go_simp
    rfl
  | ok z =>
    have CE : Calls Tryz.prog 139 #[.pointer (some ⟨c, 0, none⟩)] (w2.alloc (.cells #[.int .i64 s.W, .int .i64 s.H, .slice ta tn tc, .bool s.Lo, .int .i64 s.C, .bool s.La, .int .i64 s.B] 303)) fun e w' => e = .returned (.int .i64 0) ∧ w' = w2.alloc (.cells #[.int .i64 s.W, .int .i64 s.H, .slice ta tn tc, .bool s.Lo, .int .i64 s.C, .bool s.La, .int .i64 s.B] 303) := CE
    have HL : Hid (∀ wx : World, Below w3.heap.size w3 wx → Calls Tryz.prog 106 #[.pointer (some ⟨c, 0, none⟩)] wx fun e w' => e = .returned (.int .i64 (z.length : Int)) ∧ w' = wx) := fun wx hb => (HX3.out.1.old hb).left
    have hzl : z.length ≤ n := by rw [← HZ.out.1]; exact gAll_len HG.out.symm
    obtain ⟨r0, r1, r2, r3, r4, r5, r6, rf⟩ := HX3.out.2.2.2.1.cells
    obtain ⟨j0, j1, j2, j3, j4, j5, j6, jf⟩ := HX3.out.2.2.2.2.1.cells
    have rf0 := rf 0
    have rf1 := rf 1
    have rf2 := rf 2
    have rf3 := rf 3
    have rf4 := rf 4
    have rf5 := rf 5
    have rf6 := rf 6
    have HP : Hid (∀ u0 u1 u2 u3 u4 u5 u6, RaPost w zs (.returned (.tuple #[ScV s.W s.H (.slice ta tn tc) s.Lo s.C s.La s.B, .int .i64 ((n : Int) - z.length), .int .i64 0])) (((((((w3.setCell ⟨w.heap.size, 0, none⟩ u0).setCell ⟨w.heap.size, 1, none⟩ u1).setCell ⟨w.heap.size, 2, none⟩ u2).setCell ⟨w.heap.size, 3, none⟩ u3).setCell ⟨w.heap.size, 4, none⟩ u4).setCell ⟨w.heap.size, 5, none⟩ u5).setCell ⟨w.heap.size, 6, none⟩ u6).drew) := fun u0 u1 u2 u3 u4 u5 u6 => by
      have hbd := HX3.out.2.2.1.grown (grown7 (b := w.heap.size) u0 u1 u2 u3 u4 u5 u6) HX3.out.2.2.1.size (fun k hk => by cases hk; exact Nat.le_refl _)
      have htd := HX3.out.2.1.grown (grown7 (b := w.heap.size) u0 u1 u2 u3 u4 u5 u6) HX3.out.2.2.2.1.row
      exact .inl ⟨s, z, .slice ta tn tc, HG.out.symm, gAll_len HG.out.symm, by rw [HZ.out.1], htd.old (drew_old _), drew_below hbd⟩
    have hl := HZ.out.2.1
    have hwn : IntKind.i64.wrap ((n : Int) - (z.length : Int)) = (n : Int) - (z.length : Int) := by rw [IntKind.wrap_i64]; omega
    have hne : w.heap.size ≠ w2.heap.size := by have := HX3.out.2.2.2.2.2; omega
    have CL := HL.out w3.drew (drew_old _)
    have d0 : w3.drew.cell? ⟨w2.heap.size, 0, none⟩ = _ := j0
    have d1 : w3.drew.cell? ⟨w2.heap.size, 1, none⟩ = _ := j1
    have d2 : w3.drew.cell? ⟨w2.heap.size, 2, none⟩ = _ := j2
    have d3 : w3.drew.cell? ⟨w2.heap.size, 3, none⟩ = _ := j3
    have d4 : w3.drew.cell? ⟨w2.heap.size, 4, none⟩ = _ := j4
    have d5 : w3.drew.cell? ⟨w2.heap.size, 5, none⟩ = _ := j5
    have d6 : w3.drew.cell? ⟨w2.heap.size, 6, none⟩ = _ := j6
    clear rf jf HG HX3 HL
    go_wp2_with (go_at_call 139; refine CE.mono ?_; rintro e w4 ⟨rfl, rfl⟩; clear CE; rw [← hw3]; clear hw3)
    generalize w2.heap.size = sb at *
    go_region_held3 (fun u => u.cell? ⟨sb, 0, none⟩ = some (.int .i64 s.W) ∧ u.cell? ⟨sb, 1, none⟩ = some (.int .i64 s.H) ∧ u.cell? ⟨sb, 2, none⟩ = some (.slice ta tn tc) ∧ u.cell? ⟨sb, 3, none⟩ = some (.bool s.Lo) ∧ u.cell? ⟨sb, 4, none⟩ = some (.int .i64 s.C) ∧ u.cell? ⟨sb, 5, none⟩ = some (.bool s.La) ∧ u.cell? ⟨sb, 6, none⟩ = some (.int .i64 s.B))
      (first | (with_reducible exact ⟨by with_reducible assumption, by with_reducible assumption, by with_reducible assumption, by with_reducible assumption, by with_reducible assumption, by with_reducible assumption, by with_reducible assumption⟩) | go_keep)
      (first | (go_at_call 106; refine Calls.mono CL ?_; rintro e w5 ⟨rfl, rfl⟩) | fail)
    all_goals
      go_wp2
      refine bodyPost_ret (v := .tuple #[ScV s.W s.H (.slice ta tn tc) s.Lo s.C s.La s.B, .int .i64 ((n : Int) - z.length), .int .i64 0]) ?_ rfl (HP.out _ _ _ _ _ _ _)
      rw [results_cell3 rfl]
      go_simp
      rfl
end Go.Proofs.YtgffcdldljgiiaaGreat
