/- A kind's fields off a cursor: the program. -/
import Derived.Test.YtaibojmaghmfnaaMgC
import Derived.Test.YtaibojmaghmfnaaMgT2
namespace Go.Proofs.Ytaibojmaghmfnaa
open Go.RowKit
/-- What a message says. -/
structure Mn where
  k : Int
  bo : Int
  fi : Int
  su : Int
  si : Int
  ap : Int
  bd : Int
  ix : Int
  pa : Int
  co : Int
  G : List (Int × Int)
  D : List Int
def Mn.ms (n : Mn) (ra : Option Addr) (rc : Nat) (da : Option Addr) (dc : Nat) : Ms := ⟨n.k, n.bo, n.fi, n.su, n.si, n.ap, n.bd, n.ix, n.pa, n.co, ra, n.G.length, rc, da, n.D.length, dc⟩
/-- Its ranges and data in new memory. -/
structure MsR (U0 : Nat) (w : World) (n : Mn) (ra : Option Addr) (rc : Nat) (da : Option Addr) (dc : Nat) : Prop where
  g : RgR w ra n.G
  d : BOk w da n.D.length dc n.D
  fg : ∀ x, ra = some x → U0 ≤ x.block
  fd : ∀ x, da = some x → U0 ≤ x.block
theorem MsR.old {U0 : Nat} {w w' : World} {n : Mn} {ra : Option Addr} {rc : Nat} {da : Option Addr} {dc : Nat} (h : MsR U0 w n ra rc da dc) (hb : Below w.heap.size w w') : MsR U0 w' n ra rc da dc := ⟨h.g.old hb, h.d.old hb, h.fg, h.fd⟩
def TkP (w : World) (c U : Nat) (n : Mn) (st : St) (e : Ending) (w' : World) : Prop := ∃ ra rc da dc, e = .returned (n.ms ra rc da dc).V ∧ MsR w.heap.size w' n ra rc da dc ∧ CS w' c U st ∧ w.grownBy w' (some c)
theorem results_cell1 {fn : Func} {p : Tmp} {ty : TypeId} (h : fn.results = #[.cell p ty]) (tmps : Array Value) (P : Program) (w : World) :
    (results fn tmps).run P w = ((asAddr (tmps.getD p undef)).run P w).andThen fun a w₁ => (loadVar ty a).run P w₁ := by
  simp only [results, h]
  simp [Sem.run_bind]
theorem set_twelve {w : World} {b : Nat} {z0 z1 z2 z3 z4 z5 z6 z7 z8 z9 z10 z11 : Value} (v0 v1 v2 v3 v4 v5 v6 v7 v8 v9 v10 v11 : Value) {t : TypeId} (h : w.heap[b]? = some (.cells #[z0, z1, z2, z3, z4, z5, z6, z7, z8, z9, z10, z11] t (0, 0))) : (w.setCells b 0 [v0, v1, v2, v3, v4, v5, v6, v7, v8, v9, v10, v11]).heap[b]? = some (.cells #[v0, v1, v2, v3, v4, v5, v6, v7, v8, v9, v10, v11] t (0, 0)) := by
  rw [heap_setCells _ _ _ _ h]
  simp [setArr]
theorem there_twelve {w : World} {b : Nat} {z0 z1 z2 z3 z4 z5 z6 z7 z8 z9 z10 z11 : Value} {t : TypeId} (h : w.heap[b]? = some (.cells #[z0, z1, z2, z3, z4, z5, z6, z7, z8, z9, z10, z11] t (0, 0))) : w.there b 0 12 := by
  intro j hj
  match j, hj with
  | 0, _ => simp [World.cell?, World.frozen?, h]
  | 1, _ => simp [World.cell?, World.frozen?, h]
  | 2, _ => simp [World.cell?, World.frozen?, h]
  | 3, _ => simp [World.cell?, World.frozen?, h]
  | 4, _ => simp [World.cell?, World.frozen?, h]
  | 5, _ => simp [World.cell?, World.frozen?, h]
  | 6, _ => simp [World.cell?, World.frozen?, h]
  | 7, _ => simp [World.cell?, World.frozen?, h]
  | 8, _ => simp [World.cell?, World.frozen?, h]
  | 9, _ => simp [World.cell?, World.frozen?, h]
  | 10, _ => simp [World.cell?, World.frozen?, h]
  | 11, _ => simp [World.cell?, World.frozen?, h]
theorem fz_twelve {w : World} {b : Nat} {z0 z1 z2 z3 z4 z5 z6 z7 z8 z9 z10 z11 : Value} {t : TypeId} (h : w.heap[b]? = some (.cells #[z0, z1, z2, z3, z4, z5, z6, z7, z8, z9, z10, z11] t (0, 0))) : w.frozen? ⟨b, 0, none⟩ = false ∧ w.frozen? ⟨b, 1, none⟩ = false ∧ w.frozen? ⟨b, 2, none⟩ = false ∧ w.frozen? ⟨b, 3, none⟩ = false ∧ w.frozen? ⟨b, 4, none⟩ = false ∧ w.frozen? ⟨b, 5, none⟩ = false ∧ w.frozen? ⟨b, 6, none⟩ = false ∧ w.frozen? ⟨b, 7, none⟩ = false ∧ w.frozen? ⟨b, 8, none⟩ = false ∧ w.frozen? ⟨b, 9, none⟩ = false ∧ w.frozen? ⟨b, 10, none⟩ = false ∧ w.frozen? ⟨b, 11, none⟩ = false := by
  simp [World.frozen?, h]
theorem info_msg : (Try.prog.info? 26).map (·.size) = some 12 := by kernel_rfl
theorem load_msg {w : World} {b : Nat} {v0 v1 v2 v3 v4 v5 v6 v7 v8 v9 v10 v11 : Value} {t : TypeId} (h : w.heap[b]? = some (.cells #[v0, v1, v2, v3, v4, v5, v6, v7, v8, v9, v10, v11] t (0, 0))) : (loadVar 26 ⟨b, 0, none⟩).run Try.prog w = .ok (.agg #[v0, v1, v2, v3, v4, v5, v6, v7, v8, v9, v10, v11]) w := by
  obtain ⟨z0, z1, z2, z3, z4, z5, z6, z7, z8, z9, z10, z11⟩ := twelve_cells h
  clear h
  unfold loadVar
  go_simp
def tk_ask (st : St) : Mn := ⟨0, 0, bN 1 st, bN 4 (bS 1 st), 0, bN 4 (bS 4 (bS 1 st)), 0, 0, 0, 0, [], []⟩
set_option maxHeartbeats 3200000 in
theorem take_ask (w : World) (c U : Nat) (st : St) (h : CS w c U st) (hU : U ≤ w.heap.size) : Calls Try.prog 59 #[.pointer (some ⟨c, 0, none⟩)] w fun e w' => TkP w c U (tk_ask st) (bS 4 (bS 4 (bS 1 st))) e w' := by
  have h0 : CS (w.alloc (.cells #[.int .i64 0, .int .u32 0, .int .i64 0, .int .u32 0, .int .i64 0, .int .i64 0, .int .i64 0, .int .i64 0, .int .i64 0, .int .i64 0, .slice none 0 0, .slice none 0 0] 26)) c U st := h.old ((Below.refl _ _).alloc (Nat.le_refl _) _)
  have hz0 := heap_alloc_newM w (.cells #[.int .i64 0, .int .u32 0, .int .i64 0, .int .u32 0, .int .i64 0, .int .i64 0, .int .i64 0, .int .i64 0, .int .i64 0, .int .i64 0, .slice none 0 0, .slice none 0 0] 26)
  have HG0 : Hid (w.grownBy (w.alloc (.cells #[.int .i64 0, .int .u32 0, .int .i64 0, .int .u32 0, .int .i64 0, .int .i64 0, .int .i64 0, .int .i64 0, .int .i64 0, .int .i64 0, .slice none 0 0, .slice none 0 0] 26)) (some c)) := grownBy_of_below ((Below.refl _ _).alloc (Nat.le_refl _) _) _
  have HH0 : Hid (CS (w.alloc (.cells #[.int .i64 0, .int .u32 0, .int .i64 0, .int .u32 0, .int .i64 0, .int .i64 0, .int .i64 0, .int .i64 0, .int .i64 0, .int .i64 0, .slice none 0 0, .slice none 0 0] 26)) c U st) := h0
  have HZ0 : Hid ((w.alloc (.cells #[.int .i64 0, .int .u32 0, .int .i64 0, .int .u32 0, .int .i64 0, .int .i64 0, .int .i64 0, .int .i64 0, .int .i64 0, .int .i64 0, .slice none 0 0, .slice none 0 0] 26)).heap[w.heap.size]? = some (.cells #[.int .i64 0, .int .u32 0, .int .i64 0, .int .u32 0, .int .i64 0, .int .i64 0, .int .i64 0, .int .i64 0, .int .i64 0, .int .i64 0, .slice none 0 0, .slice none 0 0] 26 (0, 0))) := hz0
  have HC : Hid (c < w.heap.size) := h.lt
  have hb0 := h.byt
  have HBy : Hid (Bytes (stZ st)) := hb0
  clear h0 hz0 h hb0
  unfold tk_ask
  go_enter Try.func59, Try.ntmps59
  go_wp2_with fail
  refine Calls.mono (HH0.out.bigN 1 (by omega) (by omega)) ?_
  rintro e w1 ⟨rfl, h1, g1⟩
  have bd0 := bN_byte HH0.out.byt 1
  have HZ1 : Hid (w1.heap[w.heap.size]? = some (.cells #[.int .i64 0, .int .u32 0, .int .i64 0, .int .u32 0, .int .i64 0, .int .i64 0, .int .i64 0, .int .i64 0, .int .i64 0, .int .i64 0, .slice none 0 0, .slice none 0 0] 26 (0, 0))) := (g1.block _ (lt_of_block HZ0.out) (fun e => by cases e; exact absurd HC.out (Nat.lt_irrefl _))).trans HZ0.out
  have HG1 : Hid (w.grownBy w1 (some c)) := grownBy_trans HG0.out g1
  have HH1 : Hid (CS w1 c U (bS 1 st)) := h1
  obtain ⟨v0, hv0⟩ : ∃ v, bN 1 st = v := ⟨_, rfl⟩
  rw [hv0] at bd0 ⊢
  have HV0 : Hid (bN 1 st = v0) := hv0
  clear h1 g1 HZ0 HG0 HH0 hv0
  go_wp2_with fail
  refine Calls.mono (HH1.out.bigN 4 (by omega) (by omega)) ?_
  rintro e w2 ⟨rfl, h2, g2⟩
  have bd1 := bN_byte HH1.out.byt 4
  have HZ2 : Hid (w2.heap[w.heap.size]? = some (.cells #[.int .i64 0, .int .u32 0, .int .i64 0, .int .u32 0, .int .i64 0, .int .i64 0, .int .i64 0, .int .i64 0, .int .i64 0, .int .i64 0, .slice none 0 0, .slice none 0 0] 26 (0, 0))) := (g2.block _ (lt_of_block HZ1.out) (fun e => by cases e; exact absurd HC.out (Nat.lt_irrefl _))).trans HZ1.out
  have HG2 : Hid (w.grownBy w2 (some c)) := grownBy_trans HG1.out g2
  have HH2 : Hid (CS w2 c U (bS 4 (bS 1 st))) := h2
  obtain ⟨v1, hv1⟩ : ∃ v, bN 4 (bS 1 st) = v := ⟨_, rfl⟩
  rw [hv1] at bd1 ⊢
  have HV1 : Hid (bN 4 (bS 1 st) = v1) := hv1
  clear h2 g2 HZ1 HG1 HH1 hv1
  go_wp2_with fail
  refine Calls.mono (HH2.out.bigN 4 (by omega) (by omega)) ?_
  rintro e w3 ⟨rfl, h3, g3⟩
  have bd2 := bN_byte HH2.out.byt 4
  have HZ3 : Hid (w3.heap[w.heap.size]? = some (.cells #[.int .i64 0, .int .u32 0, .int .i64 0, .int .u32 0, .int .i64 0, .int .i64 0, .int .i64 0, .int .i64 0, .int .i64 0, .int .i64 0, .slice none 0 0, .slice none 0 0] 26 (0, 0))) := (g3.block _ (lt_of_block HZ2.out) (fun e => by cases e; exact absurd HC.out (Nat.lt_irrefl _))).trans HZ2.out
  have HG3 : Hid (w.grownBy w3 (some c)) := grownBy_trans HG2.out g3
  have HH3 : Hid (CS w3 c U (bS 4 (bS 4 (bS 1 st)))) := h3
  obtain ⟨v2, hv2⟩ : ∃ v, bN 4 (bS 4 (bS 1 st)) = v := ⟨_, rfl⟩
  rw [hv2] at bd2 ⊢
  have HV2 : Hid (bN 4 (bS 4 (bS 1 st)) = v2) := hv2
  clear h3 g3 HZ2 HG2 HH2 hv2
  have HP : Hid (∀ x, x = w3.setCells w.heap.size 0 (Array.toList #[.int .i64 0, .int .u32 0, .int .i64 v0, .int .u32 v1, .int .i64 0, .int .i64 v2, .int .i64 0, .int .i64 0, .int .i64 0, .int .i64 0, .slice none 0 0, .slice none 0 0]) → TkP w c U ⟨0, 0, bN 1 st, bN 4 (bS 1 st), 0, bN 4 (bS 4 (bS 1 st)), 0, 0, 0, 0, [], []⟩ (bS 4 (bS 4 (bS 1 st))) (.returned (.agg #[.int .i64 0, .int .u32 0, .int .i64 v0, .int .u32 v1, .int .i64 0, .int .i64 v2, .int .i64 0, .int .i64 0, .int .i64 0, .int .i64 0, .slice none 0 0, .slice none 0 0])) x ∧ x.heap[w.heap.size]? = some (.cells #[.int .i64 0, .int .u32 0, .int .i64 v0, .int .u32 v1, .int .i64 0, .int .i64 v2, .int .i64 0, .int .i64 0, .int .i64 0, .int .i64 0, .slice none 0 0, .slice none 0 0] 26 (0, 0))) := by
    intro x hx
    rw [HV0.out, HV1.out, HV2.out]
    have gs := grownBy_setCells w.heap.size (Array.toList #[.int .i64 0, .int .u32 0, .int .i64 v0, .int .u32 v1, .int .i64 0, .int .i64 v2, .int .i64 0, .int .i64 0, .int .i64 0, .int .i64 0, .slice none 0 0, .slice none 0 0]) 0 w3
    rw [← hx] at gs
    refine ⟨⟨none, 0, none, 0, rfl, ⟨.inl rfl, ⟨rfl, Bytes.nil, Nat.le_refl _, (by simp), (fun _ => rfl), .inl rfl⟩, (fun x hx => by cases hx), (fun x hx => by cases hx)⟩, HH3.out.grown gs hU, ?_⟩, by rw [hx]; exact set_twelve _ _ _ _ _ _ _ _ _ _ _ _ HZ3.out⟩
    exact ⟨gs.os.trans HG3.out.os, gs.tape.trans HG3.out.tape, gs.output.trans HG3.out.output, Nat.le_trans HG3.out.size gs.size, fun k hk hr => (gs.block k (Nat.lt_of_lt_of_le hk HG3.out.size) (by intro e; cases e; exact absurd hk (Nat.lt_irrefl _))).trans (HG3.out.block k hk hr)⟩
  obtain ⟨z0, z1, z2, z3, z4, z5, z6, z7, z8, z9, z10, z11⟩ := twelve_cells HZ3.out
  obtain ⟨y0, y1, y2, y3, y4, y5, y6, y7, y8, y9, y10, y11⟩ := fz_twelve HZ3.out
  go_wp2
  refine bodyPost_ret (v := .agg #[.int .i64 0, .int .u32 0, .int .i64 v0, .int .u32 v1, .int .i64 0, .int .i64 v2, .int .i64 0, .int .i64 0, .int .i64 0, .int .i64 0, .slice none 0 0, .slice none 0 0]) ?_ rfl (HP.out _ rfl).1
  rw [results_cell1 rfl]
  simp [asAddr]
  exact load_msg (HP.out _ rfl).2
def tk_no (st : St) : Mn := ⟨0, 0, bN 1 st, 0, 0, 0, 0, 0, 0, bN 1 (bS 1 st), [], []⟩
set_option maxHeartbeats 3200000 in
theorem take_no (w : World) (c U : Nat) (st : St) (h : CS w c U st) (hU : U ≤ w.heap.size) : Calls Try.prog 78 #[.pointer (some ⟨c, 0, none⟩)] w fun e w' => TkP w c U (tk_no st) (bS 1 (bS 1 st)) e w' := by
  have h0 : CS (w.alloc (.cells #[.int .i64 0, .int .u32 0, .int .i64 0, .int .u32 0, .int .i64 0, .int .i64 0, .int .i64 0, .int .i64 0, .int .i64 0, .int .i64 0, .slice none 0 0, .slice none 0 0] 26)) c U st := h.old ((Below.refl _ _).alloc (Nat.le_refl _) _)
  have hz0 := heap_alloc_newM w (.cells #[.int .i64 0, .int .u32 0, .int .i64 0, .int .u32 0, .int .i64 0, .int .i64 0, .int .i64 0, .int .i64 0, .int .i64 0, .int .i64 0, .slice none 0 0, .slice none 0 0] 26)
  have HG0 : Hid (w.grownBy (w.alloc (.cells #[.int .i64 0, .int .u32 0, .int .i64 0, .int .u32 0, .int .i64 0, .int .i64 0, .int .i64 0, .int .i64 0, .int .i64 0, .int .i64 0, .slice none 0 0, .slice none 0 0] 26)) (some c)) := grownBy_of_below ((Below.refl _ _).alloc (Nat.le_refl _) _) _
  have HH0 : Hid (CS (w.alloc (.cells #[.int .i64 0, .int .u32 0, .int .i64 0, .int .u32 0, .int .i64 0, .int .i64 0, .int .i64 0, .int .i64 0, .int .i64 0, .int .i64 0, .slice none 0 0, .slice none 0 0] 26)) c U st) := h0
  have HZ0 : Hid ((w.alloc (.cells #[.int .i64 0, .int .u32 0, .int .i64 0, .int .u32 0, .int .i64 0, .int .i64 0, .int .i64 0, .int .i64 0, .int .i64 0, .int .i64 0, .slice none 0 0, .slice none 0 0] 26)).heap[w.heap.size]? = some (.cells #[.int .i64 0, .int .u32 0, .int .i64 0, .int .u32 0, .int .i64 0, .int .i64 0, .int .i64 0, .int .i64 0, .int .i64 0, .int .i64 0, .slice none 0 0, .slice none 0 0] 26 (0, 0))) := hz0
  have HC : Hid (c < w.heap.size) := h.lt
  have hb0 := h.byt
  have HBy : Hid (Bytes (stZ st)) := hb0
  clear h0 hz0 h hb0
  unfold tk_no
  go_enter Try.func78, Try.ntmps78
  go_wp2_with fail
  refine Calls.mono (HH0.out.bigN 1 (by omega) (by omega)) ?_
  rintro e w1 ⟨rfl, h1, g1⟩
  have bd0 := bN_byte HH0.out.byt 1
  have HZ1 : Hid (w1.heap[w.heap.size]? = some (.cells #[.int .i64 0, .int .u32 0, .int .i64 0, .int .u32 0, .int .i64 0, .int .i64 0, .int .i64 0, .int .i64 0, .int .i64 0, .int .i64 0, .slice none 0 0, .slice none 0 0] 26 (0, 0))) := (g1.block _ (lt_of_block HZ0.out) (fun e => by cases e; exact absurd HC.out (Nat.lt_irrefl _))).trans HZ0.out
  have HG1 : Hid (w.grownBy w1 (some c)) := grownBy_trans HG0.out g1
  have HH1 : Hid (CS w1 c U (bS 1 st)) := h1
  obtain ⟨v0, hv0⟩ : ∃ v, bN 1 st = v := ⟨_, rfl⟩
  rw [hv0] at bd0 ⊢
  have HV0 : Hid (bN 1 st = v0) := hv0
  clear h1 g1 HZ0 HG0 HH0 hv0
  go_wp2_with fail
  refine Calls.mono (HH1.out.bigN 1 (by omega) (by omega)) ?_
  rintro e w2 ⟨rfl, h2, g2⟩
  have bd1 := bN_byte HH1.out.byt 1
  have HZ2 : Hid (w2.heap[w.heap.size]? = some (.cells #[.int .i64 0, .int .u32 0, .int .i64 0, .int .u32 0, .int .i64 0, .int .i64 0, .int .i64 0, .int .i64 0, .int .i64 0, .int .i64 0, .slice none 0 0, .slice none 0 0] 26 (0, 0))) := (g2.block _ (lt_of_block HZ1.out) (fun e => by cases e; exact absurd HC.out (Nat.lt_irrefl _))).trans HZ1.out
  have HG2 : Hid (w.grownBy w2 (some c)) := grownBy_trans HG1.out g2
  have HH2 : Hid (CS w2 c U (bS 1 (bS 1 st))) := h2
  obtain ⟨v1, hv1⟩ : ∃ v, bN 1 (bS 1 st) = v := ⟨_, rfl⟩
  rw [hv1] at bd1 ⊢
  have HV1 : Hid (bN 1 (bS 1 st) = v1) := hv1
  clear h2 g2 HZ1 HG1 HH1 hv1
  have HP : Hid (∀ x, x = w2.setCells w.heap.size 0 (Array.toList #[.int .i64 0, .int .u32 0, .int .i64 v0, .int .u32 0, .int .i64 0, .int .i64 0, .int .i64 0, .int .i64 0, .int .i64 0, .int .i64 v1, .slice none 0 0, .slice none 0 0]) → TkP w c U ⟨0, 0, bN 1 st, 0, 0, 0, 0, 0, 0, bN 1 (bS 1 st), [], []⟩ (bS 1 (bS 1 st)) (.returned (.agg #[.int .i64 0, .int .u32 0, .int .i64 v0, .int .u32 0, .int .i64 0, .int .i64 0, .int .i64 0, .int .i64 0, .int .i64 0, .int .i64 v1, .slice none 0 0, .slice none 0 0])) x ∧ x.heap[w.heap.size]? = some (.cells #[.int .i64 0, .int .u32 0, .int .i64 v0, .int .u32 0, .int .i64 0, .int .i64 0, .int .i64 0, .int .i64 0, .int .i64 0, .int .i64 v1, .slice none 0 0, .slice none 0 0] 26 (0, 0))) := by
    intro x hx
    rw [HV0.out, HV1.out]
    have gs := grownBy_setCells w.heap.size (Array.toList #[.int .i64 0, .int .u32 0, .int .i64 v0, .int .u32 0, .int .i64 0, .int .i64 0, .int .i64 0, .int .i64 0, .int .i64 0, .int .i64 v1, .slice none 0 0, .slice none 0 0]) 0 w2
    rw [← hx] at gs
    refine ⟨⟨none, 0, none, 0, rfl, ⟨.inl rfl, ⟨rfl, Bytes.nil, Nat.le_refl _, (by simp), (fun _ => rfl), .inl rfl⟩, (fun x hx => by cases hx), (fun x hx => by cases hx)⟩, HH2.out.grown gs hU, ?_⟩, by rw [hx]; exact set_twelve _ _ _ _ _ _ _ _ _ _ _ _ HZ2.out⟩
    exact ⟨gs.os.trans HG2.out.os, gs.tape.trans HG2.out.tape, gs.output.trans HG2.out.output, Nat.le_trans HG2.out.size gs.size, fun k hk hr => (gs.block k (Nat.lt_of_lt_of_le hk HG2.out.size) (by intro e; cases e; exact absurd hk (Nat.lt_irrefl _))).trans (HG2.out.block k hk hr)⟩
  obtain ⟨z0, z1, z2, z3, z4, z5, z6, z7, z8, z9, z10, z11⟩ := twelve_cells HZ2.out
  obtain ⟨y0, y1, y2, y3, y4, y5, y6, y7, y8, y9, y10, y11⟩ := fz_twelve HZ2.out
  go_wp2
  refine bodyPost_ret (v := .agg #[.int .i64 0, .int .u32 0, .int .i64 v0, .int .u32 0, .int .i64 0, .int .i64 0, .int .i64 0, .int .i64 0, .int .i64 0, .int .i64 v1, .slice none 0 0, .slice none 0 0]) ?_ rfl (HP.out _ rfl).1
  rw [results_cell1 rfl]
  simp [asAddr]
  exact load_msg (HP.out _ rfl).2
def tk_offer (st : St) : Mn := ⟨0, 0, bN 1 st, bN 4 (bS 1 st), bN 4 (bS 4 (bS 1 st)), bN 4 (bS 4 (bS 4 (bS 1 st))), bN 2 (bS 4 (bS 4 (bS 4 (bS 1 st)))), 0, 0, 0, [], []⟩
set_option maxHeartbeats 3200000 in
theorem take_offer (w : World) (c U : Nat) (st : St) (h : CS w c U st) (hU : U ≤ w.heap.size) : Calls Try.prog 63 #[.pointer (some ⟨c, 0, none⟩)] w fun e w' => TkP w c U (tk_offer st) (bS 2 (bS 4 (bS 4 (bS 4 (bS 1 st))))) e w' := by
  have h0 : CS (w.alloc (.cells #[.int .i64 0, .int .u32 0, .int .i64 0, .int .u32 0, .int .i64 0, .int .i64 0, .int .i64 0, .int .i64 0, .int .i64 0, .int .i64 0, .slice none 0 0, .slice none 0 0] 26)) c U st := h.old ((Below.refl _ _).alloc (Nat.le_refl _) _)
  have hz0 := heap_alloc_newM w (.cells #[.int .i64 0, .int .u32 0, .int .i64 0, .int .u32 0, .int .i64 0, .int .i64 0, .int .i64 0, .int .i64 0, .int .i64 0, .int .i64 0, .slice none 0 0, .slice none 0 0] 26)
  have HG0 : Hid (w.grownBy (w.alloc (.cells #[.int .i64 0, .int .u32 0, .int .i64 0, .int .u32 0, .int .i64 0, .int .i64 0, .int .i64 0, .int .i64 0, .int .i64 0, .int .i64 0, .slice none 0 0, .slice none 0 0] 26)) (some c)) := grownBy_of_below ((Below.refl _ _).alloc (Nat.le_refl _) _) _
  have HH0 : Hid (CS (w.alloc (.cells #[.int .i64 0, .int .u32 0, .int .i64 0, .int .u32 0, .int .i64 0, .int .i64 0, .int .i64 0, .int .i64 0, .int .i64 0, .int .i64 0, .slice none 0 0, .slice none 0 0] 26)) c U st) := h0
  have HZ0 : Hid ((w.alloc (.cells #[.int .i64 0, .int .u32 0, .int .i64 0, .int .u32 0, .int .i64 0, .int .i64 0, .int .i64 0, .int .i64 0, .int .i64 0, .int .i64 0, .slice none 0 0, .slice none 0 0] 26)).heap[w.heap.size]? = some (.cells #[.int .i64 0, .int .u32 0, .int .i64 0, .int .u32 0, .int .i64 0, .int .i64 0, .int .i64 0, .int .i64 0, .int .i64 0, .int .i64 0, .slice none 0 0, .slice none 0 0] 26 (0, 0))) := hz0
  have HC : Hid (c < w.heap.size) := h.lt
  have hb0 := h.byt
  have HBy : Hid (Bytes (stZ st)) := hb0
  clear h0 hz0 h hb0
  unfold tk_offer
  go_enter Try.func63, Try.ntmps63
  go_wp2_with fail
  refine Calls.mono (HH0.out.bigN 1 (by omega) (by omega)) ?_
  rintro e w1 ⟨rfl, h1, g1⟩
  have bd0 := bN_byte HH0.out.byt 1
  have HZ1 : Hid (w1.heap[w.heap.size]? = some (.cells #[.int .i64 0, .int .u32 0, .int .i64 0, .int .u32 0, .int .i64 0, .int .i64 0, .int .i64 0, .int .i64 0, .int .i64 0, .int .i64 0, .slice none 0 0, .slice none 0 0] 26 (0, 0))) := (g1.block _ (lt_of_block HZ0.out) (fun e => by cases e; exact absurd HC.out (Nat.lt_irrefl _))).trans HZ0.out
  have HG1 : Hid (w.grownBy w1 (some c)) := grownBy_trans HG0.out g1
  have HH1 : Hid (CS w1 c U (bS 1 st)) := h1
  obtain ⟨v0, hv0⟩ : ∃ v, bN 1 st = v := ⟨_, rfl⟩
  rw [hv0] at bd0 ⊢
  have HV0 : Hid (bN 1 st = v0) := hv0
  clear h1 g1 HZ0 HG0 HH0 hv0
  go_wp2_with fail
  refine Calls.mono (HH1.out.bigN 4 (by omega) (by omega)) ?_
  rintro e w2 ⟨rfl, h2, g2⟩
  have bd1 := bN_byte HH1.out.byt 4
  have HZ2 : Hid (w2.heap[w.heap.size]? = some (.cells #[.int .i64 0, .int .u32 0, .int .i64 0, .int .u32 0, .int .i64 0, .int .i64 0, .int .i64 0, .int .i64 0, .int .i64 0, .int .i64 0, .slice none 0 0, .slice none 0 0] 26 (0, 0))) := (g2.block _ (lt_of_block HZ1.out) (fun e => by cases e; exact absurd HC.out (Nat.lt_irrefl _))).trans HZ1.out
  have HG2 : Hid (w.grownBy w2 (some c)) := grownBy_trans HG1.out g2
  have HH2 : Hid (CS w2 c U (bS 4 (bS 1 st))) := h2
  obtain ⟨v1, hv1⟩ : ∃ v, bN 4 (bS 1 st) = v := ⟨_, rfl⟩
  rw [hv1] at bd1 ⊢
  have HV1 : Hid (bN 4 (bS 1 st) = v1) := hv1
  clear h2 g2 HZ1 HG1 HH1 hv1
  go_wp2_with fail
  refine Calls.mono (HH2.out.bigN 4 (by omega) (by omega)) ?_
  rintro e w3 ⟨rfl, h3, g3⟩
  have bd2 := bN_byte HH2.out.byt 4
  have HZ3 : Hid (w3.heap[w.heap.size]? = some (.cells #[.int .i64 0, .int .u32 0, .int .i64 0, .int .u32 0, .int .i64 0, .int .i64 0, .int .i64 0, .int .i64 0, .int .i64 0, .int .i64 0, .slice none 0 0, .slice none 0 0] 26 (0, 0))) := (g3.block _ (lt_of_block HZ2.out) (fun e => by cases e; exact absurd HC.out (Nat.lt_irrefl _))).trans HZ2.out
  have HG3 : Hid (w.grownBy w3 (some c)) := grownBy_trans HG2.out g3
  have HH3 : Hid (CS w3 c U (bS 4 (bS 4 (bS 1 st)))) := h3
  obtain ⟨v2, hv2⟩ : ∃ v, bN 4 (bS 4 (bS 1 st)) = v := ⟨_, rfl⟩
  rw [hv2] at bd2 ⊢
  have HV2 : Hid (bN 4 (bS 4 (bS 1 st)) = v2) := hv2
  clear h3 g3 HZ2 HG2 HH2 hv2
  go_wp2_with fail
  refine Calls.mono (HH3.out.bigN 4 (by omega) (by omega)) ?_
  rintro e w4 ⟨rfl, h4, g4⟩
  have bd3 := bN_byte HH3.out.byt 4
  have HZ4 : Hid (w4.heap[w.heap.size]? = some (.cells #[.int .i64 0, .int .u32 0, .int .i64 0, .int .u32 0, .int .i64 0, .int .i64 0, .int .i64 0, .int .i64 0, .int .i64 0, .int .i64 0, .slice none 0 0, .slice none 0 0] 26 (0, 0))) := (g4.block _ (lt_of_block HZ3.out) (fun e => by cases e; exact absurd HC.out (Nat.lt_irrefl _))).trans HZ3.out
  have HG4 : Hid (w.grownBy w4 (some c)) := grownBy_trans HG3.out g4
  have HH4 : Hid (CS w4 c U (bS 4 (bS 4 (bS 4 (bS 1 st))))) := h4
  obtain ⟨v3, hv3⟩ : ∃ v, bN 4 (bS 4 (bS 4 (bS 1 st))) = v := ⟨_, rfl⟩
  rw [hv3] at bd3 ⊢
  have HV3 : Hid (bN 4 (bS 4 (bS 4 (bS 1 st))) = v3) := hv3
  clear h4 g4 HZ3 HG3 HH3 hv3
  go_wp2_with fail
  refine Calls.mono (HH4.out.bigN 2 (by omega) (by omega)) ?_
  rintro e w5 ⟨rfl, h5, g5⟩
  have bd4 := bN_byte HH4.out.byt 2
  have HZ5 : Hid (w5.heap[w.heap.size]? = some (.cells #[.int .i64 0, .int .u32 0, .int .i64 0, .int .u32 0, .int .i64 0, .int .i64 0, .int .i64 0, .int .i64 0, .int .i64 0, .int .i64 0, .slice none 0 0, .slice none 0 0] 26 (0, 0))) := (g5.block _ (lt_of_block HZ4.out) (fun e => by cases e; exact absurd HC.out (Nat.lt_irrefl _))).trans HZ4.out
  have HG5 : Hid (w.grownBy w5 (some c)) := grownBy_trans HG4.out g5
  have HH5 : Hid (CS w5 c U (bS 2 (bS 4 (bS 4 (bS 4 (bS 1 st)))))) := h5
  obtain ⟨v4, hv4⟩ : ∃ v, bN 2 (bS 4 (bS 4 (bS 4 (bS 1 st)))) = v := ⟨_, rfl⟩
  rw [hv4] at bd4 ⊢
  have HV4 : Hid (bN 2 (bS 4 (bS 4 (bS 4 (bS 1 st)))) = v4) := hv4
  clear h5 g5 HZ4 HG4 HH4 hv4
  have HP : Hid (∀ x, x = w5.setCells w.heap.size 0 (Array.toList #[.int .i64 0, .int .u32 0, .int .i64 v0, .int .u32 v1, .int .i64 v2, .int .i64 v3, .int .i64 v4, .int .i64 0, .int .i64 0, .int .i64 0, .slice none 0 0, .slice none 0 0]) → TkP w c U ⟨0, 0, bN 1 st, bN 4 (bS 1 st), bN 4 (bS 4 (bS 1 st)), bN 4 (bS 4 (bS 4 (bS 1 st))), bN 2 (bS 4 (bS 4 (bS 4 (bS 1 st)))), 0, 0, 0, [], []⟩ (bS 2 (bS 4 (bS 4 (bS 4 (bS 1 st))))) (.returned (.agg #[.int .i64 0, .int .u32 0, .int .i64 v0, .int .u32 v1, .int .i64 v2, .int .i64 v3, .int .i64 v4, .int .i64 0, .int .i64 0, .int .i64 0, .slice none 0 0, .slice none 0 0])) x ∧ x.heap[w.heap.size]? = some (.cells #[.int .i64 0, .int .u32 0, .int .i64 v0, .int .u32 v1, .int .i64 v2, .int .i64 v3, .int .i64 v4, .int .i64 0, .int .i64 0, .int .i64 0, .slice none 0 0, .slice none 0 0] 26 (0, 0))) := by
    intro x hx
    rw [HV0.out, HV1.out, HV2.out, HV3.out, HV4.out]
    have gs := grownBy_setCells w.heap.size (Array.toList #[.int .i64 0, .int .u32 0, .int .i64 v0, .int .u32 v1, .int .i64 v2, .int .i64 v3, .int .i64 v4, .int .i64 0, .int .i64 0, .int .i64 0, .slice none 0 0, .slice none 0 0]) 0 w5
    rw [← hx] at gs
    refine ⟨⟨none, 0, none, 0, rfl, ⟨.inl rfl, ⟨rfl, Bytes.nil, Nat.le_refl _, (by simp), (fun _ => rfl), .inl rfl⟩, (fun x hx => by cases hx), (fun x hx => by cases hx)⟩, HH5.out.grown gs hU, ?_⟩, by rw [hx]; exact set_twelve _ _ _ _ _ _ _ _ _ _ _ _ HZ5.out⟩
    exact ⟨gs.os.trans HG5.out.os, gs.tape.trans HG5.out.tape, gs.output.trans HG5.out.output, Nat.le_trans HG5.out.size gs.size, fun k hk hr => (gs.block k (Nat.lt_of_lt_of_le hk HG5.out.size) (by intro e; cases e; exact absurd hk (Nat.lt_irrefl _))).trans (HG5.out.block k hk hr)⟩
  obtain ⟨z0, z1, z2, z3, z4, z5, z6, z7, z8, z9, z10, z11⟩ := twelve_cells HZ5.out
  obtain ⟨y0, y1, y2, y3, y4, y5, y6, y7, y8, y9, y10, y11⟩ := fz_twelve HZ5.out
  go_wp2
  refine bodyPost_ret (v := .agg #[.int .i64 0, .int .u32 0, .int .i64 v0, .int .u32 v1, .int .i64 v2, .int .i64 v3, .int .i64 v4, .int .i64 0, .int .i64 0, .int .i64 0, .slice none 0 0, .slice none 0 0]) ?_ rfl (HP.out _ rfl).1
  rw [results_cell1 rfl]
  simp [asAddr]
  exact load_msg (HP.out _ rfl).2
end Go.Proofs.Ytaibojmaghmfnaa
