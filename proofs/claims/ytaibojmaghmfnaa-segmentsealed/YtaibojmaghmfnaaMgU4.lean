/- An ack off a cursor: the program. -/
import Derived.Test.YtaibojmaghmfnaaMgU3
import Derived.Deep.RegionLaw
namespace Go.Proofs.Ytaibojmaghmfnaa
open Go.RowKit
theorem RgR.same {w w' : World} {a : Option Addr} {G : List (Int × Int)} (h : RgR w a G) (hs : ∀ x, a = some x → w'.heap[x.block]? = w.heap[x.block]?) : RgR w' a G := by
  rcases h with h | ⟨b, off, rfl, hc⟩
  · exact .inl h
  · exact .inr ⟨b, off, rfl, fun i hi => ⟨(World.cell?_of_block (a := ⟨b, off + i * 2, none⟩) (hs ⟨b, off, none⟩ rfl)).trans (hc i hi).1, (World.cell?_of_block (a := ⟨b, off + i * 2 + 1, none⟩) (hs ⟨b, off, none⟩ rfl)).trans (hc i hi).2⟩⟩
def akN (st : St) : Nat := (bN 1 (bS 4 st)).toNat
def tk_ack (st : St) : Mn := ⟨0, 0, 0, 0, 0, 0, 0, bN 4 st, 0, 0, (rdG (akN st) (bS 1 (bS 4 st))).1, []⟩
def tk_ackS (st : St) : St := (rdG (akN st) (bS 1 (bS 4 st))).2
set_option maxHeartbeats 6400000 in
theorem take_ack (w : World) (c U : Nat) (st : St) (h : CS w c U st) (hU : U ≤ w.heap.size) : Calls Try.prog 74 #[.pointer (some ⟨c, 0, none⟩)] w fun e w' => TkP w c U (tk_ack st) (tk_ackS st) e w' := by
  have h0 : CS (w.alloc (.cells #[.int .i64 0, .int .u32 0, .int .i64 0, .int .u32 0, .int .i64 0, .int .i64 0, .int .i64 0, .int .i64 0, .int .i64 0, .int .i64 0, .slice none 0 0, .slice none 0 0] 26)) c U st := h.old ((Below.refl _ _).alloc (Nat.le_refl _) _)
  have hz0 := heap_alloc_newM w (.cells #[.int .i64 0, .int .u32 0, .int .i64 0, .int .u32 0, .int .i64 0, .int .i64 0, .int .i64 0, .int .i64 0, .int .i64 0, .int .i64 0, .slice none 0 0, .slice none 0 0] 26)
  have HG0 : Hid (w.grownBy (w.alloc (.cells #[.int .i64 0, .int .u32 0, .int .i64 0, .int .u32 0, .int .i64 0, .int .i64 0, .int .i64 0, .int .i64 0, .int .i64 0, .int .i64 0, .slice none 0 0, .slice none 0 0] 26)) (some c)) := grownBy_of_below ((Below.refl _ _).alloc (Nat.le_refl _) _) _
  have HH0 : Hid (CS (w.alloc (.cells #[.int .i64 0, .int .u32 0, .int .i64 0, .int .u32 0, .int .i64 0, .int .i64 0, .int .i64 0, .int .i64 0, .int .i64 0, .int .i64 0, .slice none 0 0, .slice none 0 0] 26)) c U st) := h0
  have HZ0 : Hid ((w.alloc (.cells #[.int .i64 0, .int .u32 0, .int .i64 0, .int .u32 0, .int .i64 0, .int .i64 0, .int .i64 0, .int .i64 0, .int .i64 0, .int .i64 0, .slice none 0 0, .slice none 0 0] 26)).heap[w.heap.size]? = some (.cells #[.int .i64 0, .int .u32 0, .int .i64 0, .int .u32 0, .int .i64 0, .int .i64 0, .int .i64 0, .int .i64 0, .int .i64 0, .int .i64 0, .slice none 0 0, .slice none 0 0] 26 (0, 0))) := hz0
  have HC : Hid (c < w.heap.size) := h.lt
  have hby := h.byt
  have HN1 : Hid (akN st ≤ 255 ∧ bN 1 (bS 4 st) = (akN st : Int)) := by
    have hb1 : Bytes (stZ (bS 4 st)) := by
      cases st with
      | ok z =>
        by_cases hn : z.length < 4
        · rw [bS_short hn]; exact Bytes.nil
        · rw [bS_more hn]; exact Bytes.drop hby 4
      | error e => exact Bytes.nil
    have := bN_byte hb1 1
    simp at this
    show akN st ≤ 255 ∧ _
    unfold akN
    omega
  have HT : Hid (tk_ack st = ⟨0, 0, 0, 0, 0, 0, 0, bN 4 st, 0, 0, (rdG (akN st) (bS 1 (bS 4 st))).1, []⟩ ∧ tk_ackS st = (rdG (akN st) (bS 1 (bS 4 st))).2) := ⟨rfl, rfl⟩
  clear h0 hz0 h hby
  go_enter Try.func74, Try.ntmps74
  go_wp2_with fail
  refine Calls.mono (HH0.out.bigN 4 (by omega) (by omega)) ?_
  rintro e w1 ⟨rfl, h1, g1⟩
  obtain ⟨v0, hv0⟩ : ∃ v, bN 4 st = v := ⟨_, rfl⟩
  rw [hv0]
  have HV0 : Hid (bN 4 st = v0) := hv0
  have HZ1 : Hid (w1.heap[w.heap.size]? = some (.cells #[.int .i64 0, .int .u32 0, .int .i64 0, .int .u32 0, .int .i64 0, .int .i64 0, .int .i64 0, .int .i64 0, .int .i64 0, .int .i64 0, .slice none 0 0, .slice none 0 0] 26 (0, 0))) := (g1.block _ (lt_of_block HZ0.out) (fun e => by cases e; exact absurd HC.out (Nat.lt_irrefl _))).trans HZ0.out
  obtain ⟨Bm, hBm⟩ : ∃ B, B = w1.heap.size := ⟨_, rfl⟩
  have HBm : Hid (Bm = w1.heap.size) := hBm
  have hA1 : Below w1.heap.size w1 (w1.alloc (.cells #[.int .i64 0, .int .u32 0, .int .i64 0, .int .u32 0, .int .i64 0, .int .i64 0, .int .i64 0, .int .i64 v0, .int .i64 0, .int .i64 0, .slice none 0 0, .slice none 0 0] 26)) := (Below.refl _ _).alloc (Nat.le_refl _) _
  have HM1 : Hid ((w1.alloc (.cells #[.int .i64 0, .int .u32 0, .int .i64 0, .int .u32 0, .int .i64 0, .int .i64 0, .int .i64 0, .int .i64 v0, .int .i64 0, .int .i64 0, .slice none 0 0, .slice none 0 0] 26)).heap[Bm]? = some (.cells #[.int .i64 0, .int .u32 0, .int .i64 0, .int .u32 0, .int .i64 0, .int .i64 0, .int .i64 0, .int .i64 v0, .int .i64 0, .int .i64 0, .slice none 0 0, .slice none 0 0] 26 (0, 0))) := by rw [hBm]; exact heap_alloc_newM w1 _
  have HG1 : Hid (w.grownBy (w1.alloc (.cells #[.int .i64 0, .int .u32 0, .int .i64 0, .int .u32 0, .int .i64 0, .int .i64 0, .int .i64 0, .int .i64 v0, .int .i64 0, .int .i64 0, .slice none 0 0, .slice none 0 0] 26)) (some c)) := grownBy_trans (grownBy_trans HG0.out g1) (grownBy_of_below hA1 _)
  have HH1 : Hid (CS (w1.alloc (.cells #[.int .i64 0, .int .u32 0, .int .i64 0, .int .u32 0, .int .i64 0, .int .i64 0, .int .i64 0, .int .i64 v0, .int .i64 0, .int .i64 0, .slice none 0 0, .slice none 0 0] 26)) c U (bS 4 st)) := h1.old hA1
  have HR1 : Hid ((w1.alloc (.cells #[.int .i64 0, .int .u32 0, .int .i64 0, .int .u32 0, .int .i64 0, .int .i64 0, .int .i64 0, .int .i64 v0, .int .i64 0, .int .i64 0, .slice none 0 0, .slice none 0 0] 26)).heap[w.heap.size]? = some (.cells #[.int .i64 0, .int .u32 0, .int .i64 0, .int .u32 0, .int .i64 0, .int .i64 0, .int .i64 0, .int .i64 0, .int .i64 0, .int .i64 0, .slice none 0 0, .slice none 0 0] 26 (0, 0))) := (hA1.block _ (lt_of_block HZ1.out)).trans HZ1.out
  have HWB : Hid (w.heap.size < Bm) := (by rw [hBm]; exact lt_of_block HZ1.out : w.heap.size < Bm)
  obtain ⟨N, hN⟩ : ∃ N, akN st = N := ⟨_, rfl⟩
  rw [hN] at HN1 HT
  have hN255 : N ≤ 255 := HN1.out.1
  clear h1 g1 HZ0 HG0 HH0 hv0 hA1 hN
  go_wp2_with fail
  refine Calls.mono (HH1.out.bigN 1 (by omega) (by omega)) ?_
  rw [HN1.out.2, ← hBm]
  rintro e w2 ⟨rfl, h2, g2⟩
  have HA0 : Hid (AkR w c U Bm v0 (bS 1 (bS 4 st)) 0 (.slice none 0 0) w2) := by
    obtain ⟨q1, q2, q3, q4⟩ := AkR.call HC.out HWB.out g2 HM1.out HR1.out (World.ownsRow_nil _ _ _ _) HG1.out (n := 0) (xs := [])
    exact ⟨h2, q1, q3, q2, q4⟩
  clear h2 g2 HM1 HR1 HG1 HH1 HZ1 hBm HBm
  generalize bS 1 (bS 4 st) = s2 at *
  go_wp2
  go_loopw [9] (fun t wr => ∃ (j : Nat) (v : Value), j ≤ N ∧ t = .int .i64 j ∧ AkR w c U Bm v0 s2 j v wr) (fun t _ => N - (intOf t).toNat)
  case atStart => exact ⟨0, _, Nat.zero_le _, rfl, HA0.out⟩
  case round =>
    clear HA0
    obtain ⟨j, v, hj, rfl, HA⟩ := hrel
    have HAk : Hid (AkR w c U Bm v0 s2 j v wr) := HA
    clear HA
    by_cases hlt : j < N
    · go_upto_region 4 with fail
      have hd : Below wr.heap.size wr wr.drew := ⟨rfl, rfl, rfl, Nat.le_refl _, fun _ _ => rfl⟩
      have hm0 := HAk.out.m
      have ho0 : wr.drew.ownsRow (Bm + 1) 53 2 v j (gv (rdG j s2).1) := own_same HAk.out.own fun k hk => rfl
      have hcs0 : CS wr.drew c U (rdG j s2).2 := HAk.out.cs.old hd
      have HM0 : Hid (wr.drew.heap[Bm]? = some (.cells #[.int .i64 0, .int .u32 0, .int .i64 0, .int .u32 0, .int .i64 0, .int .i64 0, .int .i64 0, .int .i64 v0, .int .i64 0, .int .i64 0, v, .slice none 0 0] 26 (0, 0))) := hm0
      have HR0 : Hid (wr.drew.heap[w.heap.size]? = some (.cells #[.int .i64 0, .int .u32 0, .int .i64 0, .int .u32 0, .int .i64 0, .int .i64 0, .int .i64 0, .int .i64 0, .int .i64 0, .int .i64 0, .slice none 0 0, .slice none 0 0] 26 (0, 0))) := HAk.out.res
      have HO0 : Hid (wr.drew.ownsRow (Bm + 1) 53 2 v j (gv (rdG j s2).1)) := ho0
      have HGr0 : Hid (w.grownBy wr.drew (some c)) := grownBy_trans HAk.out.gr (grownBy_of_below hd _)
      have C1 : Hid (Calls Try.prog 49 #[.pointer (some ⟨c, 0, none⟩), .int .i64 4] wr.drew fun e w' => e = .returned (.int .i64 (bN 4 (rdG j s2).2)) ∧ CS w' c U (bS 4 (rdG j s2).2) ∧ wr.drew.grownBy w' (some c)) := hcs0.bigN 4 (by omega) (by omega)
      obtain ⟨b0, b1, b2, b3, b4, b5, b6, b7, b8, b9, b10, b11⟩ := twelve_cells HM0.out
      obtain ⟨y, hy⟩ : ∃ y, bN 4 (rdG j s2).2 = y := ⟨_, rfl⟩
      obtain ⟨z, hz⟩ : ∃ z, bN 4 (bS 4 (rdG j s2).2) = z := ⟨_, rfl⟩
      have HY : Hid (bN 4 (rdG j s2).2 = y ∧ bN 4 (bS 4 (rdG j s2).2) = z) := ⟨hy, hz⟩
      rw [hy] at C1
      clear hd hm0 ho0 hcs0 hy hz
      go_region_law (first
        | (go_simp; go_at_call 49; (with_reducible refine Calls.mono C1.out ?_); rintro e x1 ⟨rfl, h1, g1⟩; have HQ1 : Hid (x1.heap[Bm]? = some (.cells #[.int .i64 0, .int .u32 0, .int .i64 0, .int .u32 0, .int .i64 0, .int .i64 0, .int .i64 0, .int .i64 v0, .int .i64 0, .int .i64 0, v, .slice none 0 0] 26 (0, 0)) ∧ x1.heap[w.heap.size]? = some (.cells #[.int .i64 0, .int .u32 0, .int .i64 0, .int .u32 0, .int .i64 0, .int .i64 0, .int .i64 0, .int .i64 0, .int .i64 0, .int .i64 0, .slice none 0 0, .slice none 0 0] 26 (0, 0)) ∧ x1.ownsRow (Bm + 1) 53 2 v j (gv (rdG j s2).1) ∧ w.grownBy x1 (some c)) := AkR.call HC.out HWB.out g1 HM0.out HR0.out HO0.out HGr0.out; have C2 : Hid (Calls Try.prog 49 #[.pointer (some ⟨c, 0, none⟩), .int .i64 4] x1 fun e w' => e = .returned (.int .i64 z) ∧ CS w' c U (bS 4 (bS 4 (rdG j s2).2)) ∧ x1.grownBy w' (some c)) := (by rw [← HY.out.2]; exact h1.bigN 4 (by omega) (by omega)); obtain ⟨e0, e1, e2, e3, e4, e5, e6, e7, e8, e9, e10, e11⟩ := twelve_cells HQ1.out.1; clear h1 g1)
        | (go_simp; go_at_call 49; (with_reducible refine Calls.mono C2.out ?_); rintro e x2 ⟨rfl, h2, g2⟩; have HQ2 : Hid (x2.heap[Bm]? = some (.cells #[.int .i64 0, .int .u32 0, .int .i64 0, .int .u32 0, .int .i64 0, .int .i64 0, .int .i64 0, .int .i64 v0, .int .i64 0, .int .i64 0, v, .slice none 0 0] 26 (0, 0)) ∧ x2.heap[w.heap.size]? = some (.cells #[.int .i64 0, .int .u32 0, .int .i64 0, .int .u32 0, .int .i64 0, .int .i64 0, .int .i64 0, .int .i64 0, .int .i64 0, .int .i64 0, .slice none 0 0, .slice none 0 0] 26 (0, 0)) ∧ x2.ownsRow (Bm + 1) 53 2 v j (gv (rdG j s2).1) ∧ w.grownBy x2 (some c)) := AkR.call HC.out HWB.out g2 HQ1.out.1 HQ1.out.2.1 HQ1.out.2.2.1 HQ1.out.2.2.2; have HS2 : Hid (CS x2 c U (bS 4 (bS 4 (rdG j s2).2))) := h2; have hsz2 := lt_of_block HQ2.out.1; obtain ⟨f0, f1, f2, f3, f4, f5, f6, f7, f8, f9, f10, f11⟩ := twelve_cells HQ2.out.1; clear h2 g2)
        | (refine step_rg rfl _ _ rfl (Bm + 1) v j (rdG j s2).1 y z rfl rfl HQ2.out.2.2.1 (by omega) (by omega) ?_; intro v9 w9 o9 g9; have HN9 : Hid (AkR w c U Bm v0 s2 (j + 1) v9 (w9.setCell ⟨Bm, 10, none⟩ v9) ∧ w9.heap[Bm]? = some (.cells #[.int .i64 0, .int .u32 0, .int .i64 0, .int .u32 0, .int .i64 0, .int .i64 0, .int .i64 0, .int .i64 v0, .int .i64 0, .int .i64 0, v, .slice none 0 0] 26 (0, 0))) := AkR.next HWB.out hU HS2.out HQ2.out.1 HQ2.out.2.1 HQ2.out.2.2.1 HQ2.out.2.2.2 _ (by rw [HY.out.1, HY.out.2]; exact o9) g9; obtain ⟨k0, k1, k2, k3, k4, k5, k6, k7, k8, k9, k10, k11⟩ := twelve_cells HN9.out.2; have hfz := (fz_twelve HN9.out.2).2.2.2.2.2.2.2.2.2.2.1; obtain ⟨a9, c9, hv9, -⟩ := owns_rgR o9; subst hv9; clear o9 g9)
        | fail)
      all_goals
        go_wp2
        go_roundw
        case rel => exact ⟨j + 1, _, by omega, by go_num, HN9.out.1⟩
        case measure => simp [intOf]; omega
    · obtain rfl : j = N := by omega
      obtain ⟨a, cap, rfl, hrg, hra⟩ := owns_rgR HAk.out.own
      have HRg : Hid (RgR wr a (rdG j s2).1 ∧ ∀ x, a = some x → Bm + 1 ≤ x.block) := ⟨hrg, hra⟩
      clear hrg hra
      have HP : Hid (∀ x, x = wr.setCells w.heap.size 0 (Array.toList #[.int .i64 0, .int .u32 0, .int .i64 0, .int .u32 0, .int .i64 0, .int .i64 0, .int .i64 0, .int .i64 v0, .int .i64 0, .int .i64 0, .slice a j cap, .slice none 0 0]) → TkP w c U (tk_ack st) (tk_ackS st) (.returned (.agg #[.int .i64 0, .int .u32 0, .int .i64 0, .int .u32 0, .int .i64 0, .int .i64 0, .int .i64 0, .int .i64 v0, .int .i64 0, .int .i64 0, .slice a j cap, .slice none 0 0])) x ∧ x.heap[w.heap.size]? = some (.cells #[.int .i64 0, .int .u32 0, .int .i64 0, .int .u32 0, .int .i64 0, .int .i64 0, .int .i64 0, .int .i64 v0, .int .i64 0, .int .i64 0, .slice a j cap, .slice none 0 0] 26 (0, 0))) := by
        intro x hx
        rw [HT.out.1, HT.out.2, HV0.out]
        have gs := grownBy_setCells w.heap.size (Array.toList #[.int .i64 0, .int .u32 0, .int .i64 0, .int .u32 0, .int .i64 0, .int .i64 0, .int .i64 0, .int .i64 v0, .int .i64 0, .int .i64 0, .slice a j cap, .slice none 0 0]) 0 wr
        rw [← hx] at gs
        have HG := HAk.out.gr
        refine ⟨⟨a, cap, none, 0, by unfold Mn.ms Ms.V Ms.c12; simp only [rdG_len]; rfl, ⟨HRg.out.1.same fun y hy => gs.block y.block ?_ (fun e => by have := HRg.out.2 y hy; have := HWB.out; simp at e; omega), ⟨rfl, Bytes.nil, Nat.le_refl _, (by simp), (fun _ => rfl), .inl rfl⟩, (fun y hy => by have := HRg.out.2 y hy; have := HWB.out; omega), (fun x hx => by cases hx)⟩, HAk.out.cs.grown gs hU, ?_⟩, by rw [hx]; exact set_twelve _ _ _ _ _ _ _ _ _ _ _ _ HAk.out.res⟩
        · rcases HAk.out.own.2 with ⟨e, _⟩ | ⟨g, cap', cur, e, _, hg, _⟩
          · simp at e; rw [e.1] at hy; cases hy
          · simp at e; rw [e.1] at hy; cases hy; exact lt_of_block hg
        · exact ⟨gs.os.trans HG.os, gs.tape.trans HG.tape, gs.output.trans HG.output, Nat.le_trans HG.size gs.size, fun k hk hr => (gs.block k (Nat.lt_of_lt_of_le hk HG.size) (by intro e; cases e; exact absurd hk (Nat.lt_irrefl _))).trans (HG.block k hk hr)⟩
      obtain ⟨z0, z1, z2, z3, z4, z5, z6, z7, z8, z9, z10, z11⟩ := twelve_cells HAk.out.res
      obtain ⟨y0, y1, y2, y3, y4, y5, y6, y7, y8, y9, y10, y11⟩ := fz_twelve HAk.out.res
      obtain ⟨x0, x1, x2, x3, x4, x5, x6, x7, x8, x9, x10, x11⟩ := twelve_cells HAk.out.m
      go_wp2
      refine bodyPost_ret (v := .agg #[.int .i64 0, .int .u32 0, .int .i64 0, .int .u32 0, .int .i64 0, .int .i64 0, .int .i64 0, .int .i64 v0, .int .i64 0, .int .i64 0, .slice a j cap, .slice none 0 0]) ?_ rfl (HP.out _ rfl).1
      rw [results_cell1 rfl]
      simp [asAddr]
      exact load_msg (HP.out _ rfl).2
end Go.Proofs.Ytaibojmaghmfnaa
