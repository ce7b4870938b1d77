/- Data off a cursor: the program. -/
import Derived.Test.YtaibojmaghmfnaaMgU
namespace Go.Proofs.Ytaibojmaghmfnaa
open Go.RowKit
theorem stZ_bS (n : Nat) (st : St) : (stZ (bS n st)).length ≤ (stZ st).length := by
  cases st with
  | ok z =>
    by_cases h : z.length < n
    · rw [bS_short h]; simp [stZ]
    · rw [bS_more h]; simp [stZ]
  | error e => exact Nat.le_refl _
def dtS (st : St) : St := bS 1 (bS 4 st)
def tk_data (st : St) : Mn := ⟨0, 0, 0, 0, 0, 0, 0, bN 4 st, bN 1 (bS 4 st), 0, [], bL (stZ (dtS st)).length (dtS st)⟩
theorem mn_data (st : St) (da : Option Addr) (dc : Nat) : (tk_data st).ms none 0 da dc = ⟨0, 0, 0, 0, 0, 0, 0, bN 4 st, bN 1 (bS 4 st), 0, none, 0, 0, da, (bL (stZ (dtS st)).length (dtS st)).length, dc⟩ := rfl
set_option maxHeartbeats 3200000 in
theorem take_data (w : World) (c U : Nat) (st : St) (h : CS w c U st) (hU : U ≤ w.heap.size) (hl : (stZ st).length ≤ 100000) : Calls Try.prog 68 #[.pointer (some ⟨c, 0, none⟩)] w fun e w' => TkP w c U (tk_data st) (bS (stZ (dtS st)).length (dtS st)) e w' := by
  have h0 : CS (w.alloc (.cells #[.int .i64 0, .int .u32 0, .int .i64 0, .int .u32 0, .int .i64 0, .int .i64 0, .int .i64 0, .int .i64 0, .int .i64 0, .int .i64 0, .slice none 0 0, .slice none 0 0] 26)) c U st := h.old ((Below.refl _ _).alloc (Nat.le_refl _) _)
  have hz0 := heap_alloc_newM w (.cells #[.int .i64 0, .int .u32 0, .int .i64 0, .int .u32 0, .int .i64 0, .int .i64 0, .int .i64 0, .int .i64 0, .int .i64 0, .int .i64 0, .slice none 0 0, .slice none 0 0] 26)
  have HG0 : Hid (w.grownBy (w.alloc (.cells #[.int .i64 0, .int .u32 0, .int .i64 0, .int .u32 0, .int .i64 0, .int .i64 0, .int .i64 0, .int .i64 0, .int .i64 0, .int .i64 0, .slice none 0 0, .slice none 0 0] 26)) (some c)) := grownBy_of_below ((Below.refl _ _).alloc (Nat.le_refl _) _) _
  have HH0 : Hid (CS (w.alloc (.cells #[.int .i64 0, .int .u32 0, .int .i64 0, .int .u32 0, .int .i64 0, .int .i64 0, .int .i64 0, .int .i64 0, .int .i64 0, .int .i64 0, .slice none 0 0, .slice none 0 0] 26)) c U st) := h0
  have HZ0 : Hid ((w.alloc (.cells #[.int .i64 0, .int .u32 0, .int .i64 0, .int .u32 0, .int .i64 0, .int .i64 0, .int .i64 0, .int .i64 0, .int .i64 0, .int .i64 0, .slice none 0 0, .slice none 0 0] 26)).heap[w.heap.size]? = some (.cells #[.int .i64 0, .int .u32 0, .int .i64 0, .int .u32 0, .int .i64 0, .int .i64 0, .int .i64 0, .int .i64 0, .int .i64 0, .int .i64 0, .slice none 0 0, .slice none 0 0] 26 (0, 0))) := hz0
  have HC : Hid (c < w.heap.size) := h.lt
  have HLn : Hid ((stZ (dtS st)).length ≤ 100000) := Nat.le_trans (Nat.le_trans (stZ_bS 1 _) (stZ_bS 4 _)) hl
  have HE : Hid (bS 1 (bS 4 st) = dtS st) := rfl
  clear h0 hz0 h hl
  go_enter Try.func68, Try.ntmps68
  go_wp2_with fail
  refine Calls.mono (HH0.out.bigN 4 (by omega) (by omega)) ?_
  rintro e w1 ⟨rfl, h1, g1⟩
  have HZ1 : Hid (w1.heap[w.heap.size]? = some (.cells #[.int .i64 0, .int .u32 0, .int .i64 0, .int .u32 0, .int .i64 0, .int .i64 0, .int .i64 0, .int .i64 0, .int .i64 0, .int .i64 0, .slice none 0 0, .slice none 0 0] 26 (0, 0))) := (g1.block _ (lt_of_block HZ0.out) (fun e => by cases e; exact absurd HC.out (Nat.lt_irrefl _))).trans HZ0.out
  have HG1 : Hid (w.grownBy w1 (some c)) := grownBy_trans HG0.out g1
  have HH1 : Hid (CS w1 c U (bS 4 st)) := h1
  obtain ⟨v0, hv0⟩ : ∃ v, bN 4 st = v := ⟨_, rfl⟩
  rw [hv0]
  have HV0 : Hid (bN 4 st = v0) := hv0
  clear h1 g1 HZ0 HG0 HH0 hv0
  go_wp2_with fail
  refine Calls.mono (HH1.out.bigN 1 (by omega) (by omega)) ?_
  rintro e w2 ⟨rfl, h2, g2⟩
  have HZ2 : Hid (w2.heap[w.heap.size]? = some (.cells #[.int .i64 0, .int .u32 0, .int .i64 0, .int .u32 0, .int .i64 0, .int .i64 0, .int .i64 0, .int .i64 0, .int .i64 0, .int .i64 0, .slice none 0 0, .slice none 0 0] 26 (0, 0))) := (g2.block _ (lt_of_block HZ1.out) (fun e => by cases e; exact absurd HC.out (Nat.lt_irrefl _))).trans HZ1.out
  have HG2 : Hid (w.grownBy w2 (some c)) := grownBy_trans HG1.out g2
  have HH2 : Hid (CS w2 c U (bS 1 (bS 4 st))) := h2
  obtain ⟨v1, hv1⟩ : ∃ v, bN 1 (bS 4 st) = v := ⟨_, rfl⟩
  rw [hv1]
  have HV1 : Hid (bN 1 (bS 4 st) = v1) := hv1
  clear h2 g2 HZ1 HG1 HH1 hv1
  rw [HE.out] at HH2
  obtain ⟨Z, hZ⟩ : ∃ Z, (stZ (dtS st)).length = Z := ⟨_, rfl⟩
  have HZe : Hid ((stZ (dtS st)).length = Z) := hZ
  have hZb : Z ≤ 100000 := by rw [← hZ]; exact HLn.out
  have CL := HH2.out.left
  have CB := HH2.out.bytes Z (by omega)
  rw [hZ] at CL
  have HCB : Hid _ := CB
  clear hZ CB
  go_wp2_with fail
  refine CL.mono ?_
  rintro e w' ⟨rfl, rfl⟩
  clear CL
  go_wp2_with fail
  refine Calls.mono HCB.out ?_
  rintro e w3 ⟨a3, c3, g3, rfl, sl3, fr3, h31, h32, h33, h34, h35⟩
  have HB3 : Hid (w'.heap.size ≤ w3.heap.size ∧ w.heap.size < w'.heap.size) := ⟨h35.size, lt_of_block HZ2.out⟩
  have HZ3 : Hid (w3.heap[w.heap.size]? = some (.cells #[.int .i64 0, .int .u32 0, .int .i64 0, .int .u32 0, .int .i64 0, .int .i64 0, .int .i64 0, .int .i64 0, .int .i64 0, .int .i64 0, .slice none 0 0, .slice none 0 0] 26 (0, 0))) := (h35.block _ (lt_of_block HZ2.out) (fun e => by cases e; exact absurd HC.out (Nat.lt_irrefl _))).trans HZ2.out
  have HG3 : Hid (w.grownBy w3 (some c)) := grownBy_trans HG2.out h35
  have HH3 : Hid (CS w3 c U (bS Z (dtS st))) := h34
  have HS3 : Hid (Sl w3 5 (.slice a3 (bL Z (dtS st)).length c3) g3 (vals (bL Z (dtS st)))) := sl3
  have HF3 : Hid (∀ k, g3 = some k → w'.heap.size ≤ k) := fr3
  have HBy : Hid (Bytes (bL Z (dtS st))) := HH2.out.bl Z
  have HLb : Hid ((bL Z (dtS st)).length ≤ 100000) := by
    show _ ≤ _
    rcases bL_len Z (dtS st) with e | e
    · rw [e]; exact hZb
    · rw [e]; simp
  have hLb := HLb.out
  have HQ : Hid (tk_data st = ⟨0, 0, 0, 0, 0, 0, 0, v0, v1, 0, [], bL Z (dtS st)⟩) := (by unfold tk_data; rw [HV0.out, HV1.out, HZe.out] : tk_data st = ⟨0, 0, 0, 0, 0, 0, 0, v0, v1, 0, [], bL Z (dtS st)⟩)
  have HT : Hid (bS (stZ (dtS st)).length (dtS st) = bS Z (dtS st)) := (by rw [HZe.out] : bS (stZ (dtS st)).length (dtS st) = bS Z (dtS st))
  clear sl3 fr3 h34 h35 HZ2 HG2 HH2 HCB
  generalize bL Z (dtS st) = L at *
  obtain ⟨LL, hLL⟩ : ∃ LL, L.length = LL := ⟨_, rfl⟩
  rw [hLL] at h31 hLb HS3 ⊢
  have HLL : Hid (L.length = LL) := hLL
  clear hLL
  have HP : Hid (∀ x, x = w3.setCells w.heap.size 0 (Array.toList #[.int .i64 0, .int .u32 0, .int .i64 0, .int .u32 0, .int .i64 0, .int .i64 0, .int .i64 0, .int .i64 v0, .int .i64 v1, .int .i64 0, .slice none 0 0, .slice a3 LL c3]) → TkP w c U (tk_data st) (bS (stZ (dtS st)).length (dtS st)) (.returned (.agg #[.int .i64 0, .int .u32 0, .int .i64 0, .int .u32 0, .int .i64 0, .int .i64 0, .int .i64 0, .int .i64 v0, .int .i64 v1, .int .i64 0, .slice none 0 0, .slice a3 LL c3])) x ∧ x.heap[w.heap.size]? = some (.cells #[.int .i64 0, .int .u32 0, .int .i64 0, .int .u32 0, .int .i64 0, .int .i64 0, .int .i64 0, .int .i64 v0, .int .i64 v1, .int .i64 0, .slice none 0 0, .slice a3 LL c3] 26 (0, 0))) := by
    intro x hx
    rw [HQ.out, HT.out]
    have gs := grownBy_setCells w.heap.size (Array.toList #[.int .i64 0, .int .u32 0, .int .i64 0, .int .u32 0, .int .i64 0, .int .i64 0, .int .i64 0, .int .i64 v0, .int .i64 v1, .int .i64 0, .slice none 0 0, .slice a3 LL c3]) 0 w3
    rw [← hx] at gs
    have hbk := HS3.out.bok HLL.out HBy.out (by omega)
    have hfr : ∀ x, a3 = some x → w.heap.size < x.block := by
      intro x hx
      rcases HS3.out with ⟨q, _⟩ | ⟨b, off, cap, cur, q, q2, _⟩
      · simp at q; rw [hx] at q; simp at q
      · simp at q
        rw [hx] at q
        have e : x = ⟨b, off, none⟩ := by simpa using q.1
        have := HF3.out b q2
        have := HB3.out.2
        rw [e]; show _ < b; omega
    refine ⟨⟨none, 0, a3, c3, by unfold Mn.ms Ms.V Ms.c12; simp only [HLL.out]; rfl, ⟨.inl rfl, ?_, (fun x hx => by cases hx), fun x hx => Nat.le_of_lt (hfr x hx)⟩, HH3.out.grown gs hU, ?_⟩, by rw [hx]; exact set_twelve _ _ _ _ _ _ _ _ _ _ _ _ HZ3.out⟩
    · show BOk x a3 L.length c3 L
      rw [HLL.out]
      exact ⟨hbk.1, hbk.2.1, hbk.2.2.1, hbk.2.2.2.1, hbk.2.2.2.2.1, hbk.2.2.2.2.2.grown gs (fun y hy _ => by have := hfr y hy; omega)⟩
    · exact ⟨gs.os.trans HG3.out.os, gs.tape.trans HG3.out.tape, gs.output.trans HG3.out.output, Nat.le_trans HG3.out.size gs.size, fun k hk hr => (gs.block k (Nat.lt_of_lt_of_le hk HG3.out.size) (by intro e; cases e; exact absurd hk (Nat.lt_irrefl _))).trans (HG3.out.block k hk hr)⟩
  obtain ⟨z0, z1, z2, z3, z4, z5, z6, z7, z8, z9, z10, z11⟩ := twelve_cells HZ3.out
  obtain ⟨y0, y1, y2, y3, y4, y5, y6, y7, y8, y9, y10, y11⟩ := fz_twelve HZ3.out
  go_wp2
  refine bodyPost_ret (v := .agg #[.int .i64 0, .int .u32 0, .int .i64 0, .int .u32 0, .int .i64 0, .int .i64 0, .int .i64 0, .int .i64 v0, .int .i64 v1, .int .i64 0, .slice none 0 0, .slice a3 LL c3]) ?_ rfl (HP.out _ rfl).1
  rw [results_cell1 rfl]
  simp [asAddr]
  exact load_msg (HP.out _ rfl).2
end Go.Proofs.Ytaibojmaghmfnaa
