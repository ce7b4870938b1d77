/- parse and Read: the program. -/
import Derived.Test.YtinmkhdangknbaaTkF
namespace Go.Proofs.Ytinmkhdangknbaa
open Go.RowKit
theorem results_ct {fn : Func} {p q : Tmp} {ty : TypeId} (h : fn.results = #[.cell p ty, .tmp q]) (tmps : Array Value) (P : Program) (w : World) :
    (results fn tmps).run P w = ((asAddr (tmps.getD p undef)).run P w).andThen fun a w₁ => ((loadVar ty a).run P w₁).andThen fun v w2 => .ok (.tuple #[v, tmps.getD q undef]) w2 := by
  simp only [results, h]
  simp [Sem.run_bind]
theorem set_three {w : World} {b : Nat} {z0 z1 z2 : Value} (v0 v1 v2 : Value) {t : TypeId} (h : w.heap[b]? = some (.cells #[z0, z1, z2] t (0, 0))) : (w.setCells b 0 [v0, v1, v2]).heap[b]? = some (.cells #[v0, v1, v2] t (0, 0)) := by
  rw [heap_setCells _ _ _ _ h]
  simp [setArr]
theorem info_tok : (Try.prog.info? 25).map (·.size) = some 3 := by kernel_rfl
theorem load_tok {w : World} {b : Nat} {v0 v1 v2 : Value} {t : TypeId} (h : w.heap[b]? = some (.cells #[v0, v1, v2] t (0, 0))) : (loadVar 25 ⟨b, 0, none⟩).run Try.prog w = .ok (.agg #[v0, v1, v2]) w := by
  obtain ⟨z0, z1, z2⟩ := three_cells h
  clear h
  unfold loadVar
  go_simp
theorem cs_new {w w' : World} {zs : List Int} {e : Ending} (hb : Bytes zs) (hl : zs.length ≤ 140737488355328) (h : NewCur w zs e w') : ∃ c, e = .returned (.pointer (some ⟨c, 0, none⟩)) ∧ w.heap.size ≤ c ∧ Below w.heap.size w w' ∧ CS w' c w'.heap.size (.ok zs) := by
  obtain ⟨c, rfl, hc, hbe, a, cap, hh, h1, h2, hr, _⟩ := h
  exact ⟨c, rfl, hc, hbe, ⟨⟨a, cap, hh, h1, h2, hr, fun x hx hz => hr.lt x hx hz⟩, hb, hl, (by intro e he; cases he), lt_of_block hh⟩⟩
/-- What bytes without their sum say. -/
def flT (t : List Int) : Int := bigN (t.take 1)
def suT (t : List Int) : Int := bigN ((t.drop 1).take 4)
def nmT (t : List Int) : Int := bigN ((t.drop 5).take 4)
def daT (t : List Int) : List Int := t.drop 9
def okT (t : List Int) : Bool := mayT (flT t) (daT t).length && decide (nmT t = ((daT t).length : Int))
/-- What parse and Read come to. -/
def PaT (w : World) (ok : Bool) (er f s : Int) (D : List Int) (e : Ending) (w' : World) : Prop :=
  Below w.heap.size w w' ∧ (ok = false → e = .returned (.tuple #[.agg #[.int .i64 0, .int .u32 0, .slice none 0 0], .int .i64 er])) ∧ (ok = true → ∃ a c, e = .returned (.tuple #[.agg #[.int .i64 f, .int .u32 s, .slice a D.length c], .int .i64 0]) ∧ BOk w' a D.length c D ∧ ∀ x, a = some x → w.heap.size ≤ x.block)
theorem fin_bad {w x : World} {R : Nat} {zs : Array Value} {f s : Int} {D : List Int} (er : Int) (hR : R = w.heap.size) (hb : Below w.heap.size w x) : PaT w false er f s D (.returned (.tuple #[.agg #[.int .i64 0, .int .u32 0, .slice none 0 0], .int .i64 er])) (x.setCells R 0 zs.toList) := by
  subst hR
  have gs := grownBy_setCells w.heap.size zs.toList 0 x
  exact ⟨hb.grown gs hb.size (fun k hk => by cases hk; exact Nat.le_refl _), fun _ => rfl, (fun h => by cases h)⟩
theorem BOk.same {w w' : World} {a : Option Addr} {n c : Nat} {A : List Int} (h : BOk w a n c A) (hs : ∀ x, a = some x → A ≠ [] → w'.heap[x.block]? = w.heap[x.block]?) : BOk w' a n c A :=
  ⟨h.1, h.2.1, h.2.2.1, h.2.2.2.1, h.2.2.2.2.1, h.2.2.2.2.2.same hs⟩
theorem fin_ok {w x : World} {R : Nat} {zs : Array Value} {f s : Int} {D : List Int} {a : Option Addr} {c U0 : Nat} (er : Int) (hR : R = w.heap.size) (hb : Below w.heap.size w x) (hm : BOk x a D.length c D) (hf : ∀ y, a = some y → U0 ≤ y.block) (hU : w.heap.size < U0) : PaT w true er f s D (.returned (.tuple #[.agg #[.int .i64 f, .int .u32 s, .slice a D.length c], .int .i64 0])) (x.setCells R 0 zs.toList) := by
  subst hR
  have gs := grownBy_setCells w.heap.size zs.toList 0 x
  exact ⟨hb.grown gs hb.size (fun k hk => by cases hk; exact Nat.le_refl _), (fun h => by cases h), fun _ => ⟨a, c, rfl, hm.same fun y hy hne => gs.block _ (hm.2.2.2.2.2.lt y hy hne) (fun e => by have := hf y hy; simp at e; omega), fun y hy => by have := hf y hy; omega⟩⟩
/-- The three numbers of text, and what is left behind them. -/
theorem three_nums (t : List Int) (h9 : 9 ≤ t.length) : bN 1 (.ok t) = flT t ∧ bN 4 (bS 1 (.ok t)) = suT t ∧ bN 4 (bS 4 (bS 1 (.ok t))) = nmT t ∧ bS 4 (bS 4 (bS 4 (bS 1 (.ok t)))) = bS 4 (.ok (t.drop 9)) ∧ bS 4 (bS 4 (bS 1 (.ok t))) = .ok (daT t) := by
  have s1 : bS 1 (.ok t) = .ok (t.drop 1) := bS_more (by omega)
  have s2 : bS 4 (.ok (t.drop 1)) = .ok (t.drop 5) := by rw [bS_more (by simp; omega), List.drop_drop]
  have s3 : bS 4 (.ok (t.drop 5)) = .ok (t.drop 9) := by rw [bS_more (by simp; omega), List.drop_drop]
  refine ⟨?_, ?_, ?_, ?_, ?_⟩
  · unfold bN flT; rw [bL_more (by omega)]
  · rw [s1]; unfold bN suT; rw [bL_more (by simp; omega)]
  · rw [s1, s2]; unfold bN nmT; rw [bL_more (by simp; omega)]
  · rw [s1, s2, s3]
  · rw [s1, s2, s3]; rfl
theorem two_nums (t : List Int) (h9 : 9 ≤ t.length) : bS 4 (bS 1 (.ok t)) = .ok (t.drop 5) := by
  rw [bS_more (z := t) (by omega), bS_more (by simp; omega), List.drop_drop]
/-- How many bytes are told: the end is right where all of them are. -/
theorem end_ok (D : List Int) (N : Nat) : (decide (stE (bS N (.ok D)) = 0) && decide ((stZ (bS N (.ok D))).length = 0)) = decide ((N : Int) = (D.length : Int)) := by
  by_cases h : D.length < N
  · rw [bS_short h]
    simp only [stE, stZ]
    simp
    omega
  · rw [bS_more h]
    simp only [stE, stZ, List.length_drop]
    simp
    omega
theorem end_all (D : List Int) : bL D.length (.ok D) = D := by rw [bL_more (by omega), List.take_length]
set_option maxHeartbeats 12800000 in
theorem parse_any (a0 : Option Addr) (n0 cap0 : Nat) (t : List Int) (w : World) (hn : t.length = n0) (h9 : 9 ≤ n0) (hnil : a0 = none → cap0 = 0) (hl : n0 ≤ 140737488351232) (hb : Bytes t) (hr : Row w a0 t) : Calls Try.prog 36 #[.slice a0 n0 cap0] w fun e w' => PaT w (okT t) 3 (flT t) (suT t) (daT t) e w' := by
  have hA : Below w.heap.size w (w.alloc (.cells #[.int .i64 0, .int .u32 0, .slice none 0 0] 25)) := (Below.refl _ _).alloc (Nat.le_refl _) _
  have HZ0 : Hid ((w.alloc (.cells #[.int .i64 0, .int .u32 0, .slice none 0 0] 25)).heap[w.heap.size]? = some (.cells #[.int .i64 0, .int .u32 0, .slice none 0 0] 25 (0, 0))) := heap_alloc_newT w _
  have CN := new_any a0 n0 cap0 t _ hn hnil (by omega) (hr.old hA)
  have HCN : Hid _ := CN
  have HA0 : Hid (Below w.heap.size w (w.alloc (.cells #[.int .i64 0, .int .u32 0, .slice none 0 0] 25))) := hA
  have HT : Hid (Bytes t ∧ t.length = n0 ∧ 9 ≤ n0 ∧ n0 ≤ 140737488351232) := ⟨hb, hn, h9, hl⟩
  clear CN hA hn hnil hl hb hr h9
  go_enter Try.func36, Try.ntmps36
  go_wp2_with fail
  refine Calls.mono HCN.out ?_
  intro e w1 hpost
  obtain ⟨c, rfl, hc, b1, cs1⟩ := cs_new HT.out.1 (by have := HT.out.2; omega) hpost
  obtain ⟨U, hU⟩ : ∃ U, w1.heap.size = U := ⟨_, rfl⟩
  rw [hU] at cs1
  have HU : Hid (w1.heap.size = U) := hU
  have HCc : Hid (w.heap.size < c) := (by have h2 := hc; simp at h2; omega : w.heap.size < c)
  have HZ1 : Hid (w1.heap[w.heap.size]? = some (.cells #[.int .i64 0, .int .u32 0, .slice none 0 0] 25 (0, 0))) := (b1.block w.heap.size (lt_of_block HZ0.out)).trans HZ0.out
  have HB1 : Hid (Below w.heap.size w w1) := HA0.out.trans (b1.mono HA0.out.size)
  have HS1 : Hid (CS w1 c U (.ok t)) := cs1
  clear HCN hpost hc b1 cs1 hU HZ0 HA0
  obtain ⟨n1, n2, n3, -, n5⟩ := three_nums t (by have := HT.out; omega)
  have HN5 : Hid (bS 4 (bS 4 (bS 1 (.ok t))) = .ok (daT t)) := n5
  clear n5
  go_wp2_with fail
  refine Calls.mono (HS1.out.bigN 1 (by omega) (by omega)) ?_
  rintro e w2 ⟨rfl, h2, g2⟩
  have HZ2 : Hid (w2.heap[w.heap.size]? = some (.cells #[.int .i64 0, .int .u32 0, .slice none 0 0] 25 (0, 0))) := (g2.block w.heap.size (lt_of_block HZ1.out) (by have := HCc.out; simp; omega)).trans HZ1.out
  have HB2 : Hid (Below w.heap.size w w2) := HB1.out.grown g2 HB1.out.size (fun k hk => by cases hk; have := HCc.out; omega)
  have HS2 : Hid (CS w2 c U (bS 1 (.ok t))) := h2
  have HU2 : Hid (U ≤ w2.heap.size) := (by rw [← HU.out]; exact g2.size : U ≤ w2.heap.size)
  have hbF := bN_byte (st := (.ok t)) (HT.out.1) 1
  rw [n1] at hbF ⊢
  obtain ⟨F, hF⟩ : ∃ x, flT t = x := ⟨_, rfl⟩
  rw [hF] at hbF ⊢
  simp at hbF
  have HF : Hid (flT t = F) := hF
  clear h2 g2 HZ1 HB1 HS1 hF n1 HU
  go_wp2_with fail
  refine Calls.mono (HS2.out.bigN 4 (by omega) (by omega)) ?_
  rintro e w3 ⟨rfl, h3, g3⟩
  have HZ3 : Hid (w3.heap[w.heap.size]? = some (.cells #[.int .i64 0, .int .u32 0, .slice none 0 0] 25 (0, 0))) := (g3.block w.heap.size (lt_of_block HZ2.out) (by have := HCc.out; simp; omega)).trans HZ2.out
  have HB3 : Hid (Below w.heap.size w w3) := HB2.out.grown g3 HB2.out.size (fun k hk => by cases hk; have := HCc.out; omega)
  have HS3 : Hid (CS w3 c U (bS 4 (bS 1 (.ok t)))) := h3
  have HU3 : Hid (U ≤ w3.heap.size) := Nat.le_trans HU2.out g3.size
  have hbS := bN_byte (st := (bS 1 (.ok t))) (HS2.out.byt) 4
  rw [n2] at hbS ⊢
  obtain ⟨S, hS⟩ : ∃ x, suT t = x := ⟨_, rfl⟩
  rw [hS] at hbS ⊢
  simp at hbS
  have HS : Hid (suT t = S) := hS
  clear h3 g3 HZ2 HB2 HS2 hS n2 HU2
  go_wp2_with fail
  refine Calls.mono (HS3.out.bigN 4 (by omega) (by omega)) ?_
  rintro e w4 ⟨rfl, h4, g4⟩
  have HZ4 : Hid (w4.heap[w.heap.size]? = some (.cells #[.int .i64 0, .int .u32 0, .slice none 0 0] 25 (0, 0))) := (g4.block w.heap.size (lt_of_block HZ3.out) (by have := HCc.out; simp; omega)).trans HZ3.out
  have HB4 : Hid (Below w.heap.size w w4) := HB3.out.grown g4 HB3.out.size (fun k hk => by cases hk; have := HCc.out; omega)
  have HS4 : Hid (CS w4 c U (.ok (daT t))) := (by have := h4; rwa [HN5.out] at this : CS w4 c U (.ok (daT t)))
  have HU4 : Hid (U ≤ w4.heap.size) := Nat.le_trans HU3.out g4.size
  have hbM := bN_byte (st := (bS 4 (bS 1 (.ok t)))) (HS3.out.byt) 4
  rw [n3] at hbM ⊢
  obtain ⟨M, hM⟩ : ∃ x, nmT t = x := ⟨_, rfl⟩
  rw [hM] at hbM ⊢
  simp at hbM
  have HM : Hid (nmT t = M) := hM
  clear h4 g4 HZ3 HB3 HS3 hM n3 HU3
  obtain ⟨N, rfl⟩ := Int.eq_ofNat_of_zero_le hbM.1
  have hN32 : N < 4294967296 := by omega
  have hsw : IntKind.u32.wrap S = S := by rw [IntKind.wrap_u32]; omega
  go_upto_region 3 with fail
  go_wp2_with fail
  refine Calls.mono (HS4.out.bytes N (by omega)) ?_
  rintro e w5 ⟨da, dc, dg, rfl, dsl, dfr, dl, dm, dn, cs5, g5⟩
  have HZ5 : Hid (w5.heap[w.heap.size]? = some (.cells #[.int .i64 0, .int .u32 0, .slice none 0 0] 25 (0, 0))) := (g5.block w.heap.size (lt_of_block HZ4.out) (by have := HCc.out; simp; omega)).trans HZ4.out
  have HB5 : Hid (Below w.heap.size w w5) := HB4.out.grown g5 HB4.out.size (fun k hk => by cases hk; have := HCc.out; omega)
  have HEnd : Hid ((decide (stE (bS N (.ok (daT t))) = 0) && decide ((stZ (bS N (.ok (daT t)))).length = 0)) = decide ((N : Int) = ((daT t).length : Int)) ∧ bL (daT t).length (.ok (daT t)) = daT t) := ⟨end_ok _ _, end_all _⟩
  have HDl : Hid (Sl w5 5 (.slice da (bL N (.ok (daT t))).length dc) dg (vals (bL N (.ok (daT t)))) ∧ (∀ k, dg = some k → w4.heap.size ≤ k) ∧ Bytes (bL N (.ok (daT t)))) := ⟨dsl, dfr, HS4.out.bl N⟩
  have HS5 : Hid (CS w5 c U (bS N (.ok (daT t)))) := cs5
  have HR5 : Hid (w.heap.size < w4.heap.size) := lt_of_block HZ4.out
  obtain ⟨E, hE⟩ : ∃ E, stE (bS N (.ok (daT t))) = E := ⟨_, rfl⟩
  obtain ⟨L, hL⟩ : ∃ L, (stZ (bS N (.ok (daT t)))).length = L := ⟨_, rfl⟩
  obtain ⟨B, hB⟩ : ∃ B, bL N (.ok (daT t)) = B := ⟨_, rfl⟩
  rw [hE, hL] at HEnd
  rw [hB] at HDl ⊢
  have hLm : L ≤ 140737488355328 := by rw [← hL]; exact cs5.ln
  have HBd : Hid (bL N (.ok (daT t)) = B) := hB
  obtain ⟨bn, hbn⟩ : ∃ n, B.length = n := ⟨_, rfl⟩
  have HBn : Hid (B.length = bn) := hbn
  have hbm : bn ≤ 4294967296 := by
    have h := bL_len N (.ok (daT t))
    rw [hB] at h
    rcases h with h | h
    · omega
    · rw [← hbn, h]; simp
  rw [hbn]
  clear dsl dfr dl dm dn cs5 g5 HZ4 HB4 HS4 HU4 hB hbn
  have hA6 : Below w5.heap.size w5 (w5.alloc (.cells #[.int .i64 F, .int .u32 S, .slice da bn dc] 25)) := (Below.refl _ _).alloc (Nat.le_refl _) _
  have HK6 : Hid ((w5.alloc (.cells #[.int .i64 F, .int .u32 S, .slice da bn dc] 25)).heap[w5.heap.size]? = some (.cells #[.int .i64 F, .int .u32 S, .slice da bn dc] 25 (0, 0))) := heap_alloc_newT w5 _
  have HZ6 : Hid ((w5.alloc (.cells #[.int .i64 F, .int .u32 S, .slice da bn dc] 25)).heap[w.heap.size]? = some (.cells #[.int .i64 0, .int .u32 0, .slice none 0 0] 25 (0, 0))) := (hA6.block _ (lt_of_block HZ5.out)).trans HZ5.out
  have HB6 : Hid (Below w.heap.size w (w5.alloc (.cells #[.int .i64 F, .int .u32 S, .slice da bn dc] 25))) := HB5.out.trans (hA6.mono HB5.out.size)
  have HA6 : Hid (Below w5.heap.size w5 (w5.alloc (.cells #[.int .i64 F, .int .u32 S, .slice da bn dc] 25))) := hA6
  have HS6 : Hid (CS (w5.alloc (.cells #[.int .i64 F, .int .u32 S, .slice da bn dc] 25)) c U (bS N (.ok (daT t)))) := HS5.out.old hA6
  go_upto_region 4 with fail
  obtain ⟨w7, hw7⟩ : ∃ w7, w5.alloc (.cells #[.int .i64 F, .int .u32 S, .slice da bn dc] 25) = w7 := ⟨_, rfl⟩
  rw [hw7] at HK6 HZ6 HB6 HA6 HS6
  try rw [hw7]
  have cE := HS6.out.err
  have cL := HS6.out.left
  rw [hE] at cE
  rw [hL] at cL
  have HEr : Hid (Calls Try.prog 54 #[.pointer (some ⟨c, 0, none⟩)] w7 fun e w' => e = .returned (.int .i64 E) ∧ w' = w7) := cE
  have HLf : Hid (Calls Try.prog 55 #[.pointer (some ⟨c, 0, none⟩)] w7 fun e w' => e = .returned (.int .i64 (L : Int)) ∧ w' = w7) := cL
  have HMb : Hid (Calls Try.prog 26 #[.agg #[.int .i64 F, .int .u32 S, .slice da bn dc]] w7 fun e w' => e = .returned (.bool (mayT F bn)) ∧ Below w7.heap.size w7 w') := maybe_any F S da bn dc w7
  clear hA6 cE cL hE hL hw7 HZ5 HB5 HS5 HS6
  obtain ⟨m0, m1, m2⟩ := three_cells HK6.out
  have hOK : okT t = (mayT F (daT t).length && decide ((N : Int) = ((daT t).length : Int))) := by unfold okT; rw [HF.out, HM.out]
  have HOK : Hid (okT t = (mayT F (daT t).length && decide ((N : Int) = ((daT t).length : Int)))) := hOK
  clear hOK
  by_cases hE0 : E = 0
  · by_cases hL0 : L = 0
    · have hl0 : ¬ (L : Int) > 0 := by omega
      subst hE0 hL0
      have hNd : (N : Int) = ((daT t).length : Int) := by have := HEnd.out.1; simp at this; omega
      have hNn : N = (daT t).length := by omega
      have hBD : B = daT t := by rw [← HBd.out, hNn]; exact HEnd.out.2
      have hbd : bn = (daT t).length := by rw [← HBn.out, hBD]
      have HDD : Hid (B = daT t ∧ bn = (daT t).length ∧ okT t = mayT F bn) := ⟨hBD, hbd, by rw [HOK.out, decide_eq_true hNd, hbd]; simp⟩
      clear hNd hNn hBD hbd HOK HEnd
      obtain ⟨Y, hY⟩ : ∃ Y, mayT F bn = Y := ⟨_, rfl⟩
      rw [hY] at HMb HDD
      clear hY
      cases Y
      · go_upto_region 5 with (first | (go_at_call 54; refine Calls.mono HEr.out ?_; rintro e x ⟨rfl, hx⟩; have hx2 := hx.symm; clear hx; subst hx2) | (go_at_call 55; refine Calls.mono HLf.out ?_; rintro e x ⟨rfl, hx⟩; have hx2 := hx.symm; clear hx; subst hx2) | (go_at_call 26; refine Calls.mono HMb.out ?_; rintro e w8 ⟨rfl, b8⟩; have HB8 : Hid (Below w.heap.size w w8) := HB6.out.trans (b8.mono HB6.out.size); have HZE : Hid (w8.heap[w.heap.size]? = some (.cells #[.int .i64 0, .int .u32 0, .slice none 0 0] 25 (0, 0))) := (b8.block _ (lt_of_block HZ6.out)).trans HZ6.out; clear b8))
        have HF : Hid (PaT w (okT t) 3 (flT t) (suT t) (daT t) (.returned (.tuple #[.agg #[.int .i64 0, .int .u32 0, .slice none 0 0], .int .i64 3])) (w8.setCells w.heap.size 0 (Array.toList #[.int .i64 0, .int .u32 0, .slice none 0 0]))) := by
          rw [HDD.out.2.2]
          exact fin_bad 3 rfl HB8.out
        have HX : Hid ((w8.setCells w.heap.size 0 (Array.toList #[.int .i64 0, .int .u32 0, .slice none 0 0])).heap[w.heap.size]? = some (.cells #[.int .i64 0, .int .u32 0, .slice none 0 0] 25 (0, 0))) := set_three _ _ _ HZE.out
        obtain ⟨z0, z1, z2⟩ := three_cells HZE.out
        obtain ⟨y0, y1, y2⟩ := fz_three HZE.out
        go_wp2
        refine bodyPost_ret (v := .tuple #[.agg #[.int .i64 0, .int .u32 0, .slice none 0 0], .int .i64 3]) ?_ rfl HF.out
        rw [results_ct rfl]
        simp [asAddr]
        have L0 := load_tok HX.out
        refine (congrArg (fun r => Result.andThen r _) L0).trans ?_
        rfl
      · go_upto_region 6 with (first | (go_at_call 54; refine Calls.mono HEr.out ?_; rintro e x ⟨rfl, hx⟩; have hx2 := hx.symm; clear hx; subst hx2) | (go_at_call 55; refine Calls.mono HLf.out ?_; rintro e x ⟨rfl, hx⟩; have hx2 := hx.symm; clear hx; subst hx2) | (go_at_call 26; refine Calls.mono HMb.out ?_; rintro e w8 ⟨rfl, b8⟩; have HB8 : Hid (Below w.heap.size w w8) := HB6.out.trans (b8.mono HB6.out.size); have HZE : Hid (w8.heap[w.heap.size]? = some (.cells #[.int .i64 0, .int .u32 0, .slice none 0 0] 25 (0, 0))) := (b8.block _ (lt_of_block HZ6.out)).trans HZ6.out; have HK8 : Hid (w8.heap[w5.heap.size]? = some (.cells #[.int .i64 F, .int .u32 S, .slice da bn dc] 25 (0, 0))) := (b8.block _ (lt_of_block HK6.out)).trans HK6.out; have HB78 : Hid (Below w7.heap.size w7 w8) := b8; clear b8))
        have HF : Hid (PaT w (okT t) 3 (flT t) (suT t) (daT t) (.returned (.tuple #[.agg #[.int .i64 F, .int .u32 S, .slice da bn dc], .int .i64 0])) (w8.setCells w.heap.size 0 (Array.toList #[.int .i64 F, .int .u32 S, .slice da bn dc]))) := by
          rw [HDD.out.2.2, HF.out, HS.out, HDD.out.2.1, ← HDD.out.1]
          have hlb : B.length = bn := HBn.out
          have hbk : BOk w5 da B.length dc B := HDl.out.1.bok rfl HDl.out.2.2 (by omega)
          refine fin_ok (U0 := w4.heap.size) 3 rfl HB8.out ((hbk.old HA6.out).old HB78.out) ?_ HR5.out
          intro x hx
          rcases HDl.out.1 with ⟨e, _, _⟩ | ⟨b, off, cap, cur, e, eg, _⟩
          · rw [hx] at e; cases e
          · rw [hx] at e
            simp only [Value.slice.injEq, Option.some.injEq] at e
            rw [e.1]
            exact HDl.out.2.1 b eg
        have HX : Hid ((w8.setCells w.heap.size 0 (Array.toList #[.int .i64 F, .int .u32 S, .slice da bn dc])).heap[w.heap.size]? = some (.cells #[.int .i64 F, .int .u32 S, .slice da bn dc] 25 (0, 0))) := set_three _ _ _ HZE.out
        obtain ⟨z0, z1, z2⟩ := three_cells HZE.out
        obtain ⟨y0, y1, y2⟩ := fz_three HZE.out
        obtain ⟨k0, k1, k2⟩ := three_cells HK8.out
        go_wp2
        refine bodyPost_ret (v := .tuple #[.agg #[.int .i64 F, .int .u32 S, .slice da bn dc], .int .i64 0]) ?_ rfl HF.out
        rw [results_ct rfl]
        simp [asAddr]
        have L0 := load_tok HX.out
        refine (congrArg (fun r => Result.andThen r _) L0).trans ?_
        rfl
    · have hl0 : (L : Int) > 0 := by omega
      subst hE0
      have hno : okT t = false := by
        have h1 := HEnd.out.1
        rw [decide_eq_false hL0, Bool.and_false] at h1
        rw [HOK.out, ← h1, Bool.and_false]
      have HNO : Hid (okT t = false) := hno
      clear hno HOK HEnd HMb
      go_upto_region 5 with (first | (go_at_call 54; refine Calls.mono HEr.out ?_; rintro e x ⟨rfl, hx⟩; have hx2 := hx.symm; clear hx; subst hx2) | (go_at_call 55; refine Calls.mono HLf.out ?_; rintro e x ⟨rfl, hx⟩; have hx2 := hx.symm; clear hx; subst hx2))
      have HZE : Hid (w7.heap[w.heap.size]? = some (.cells #[.int .i64 0, .int .u32 0, .slice none 0 0] 25 (0, 0))) := HZ6.out
      have HF : Hid (PaT w (okT t) 3 (flT t) (suT t) (daT t) (.returned (.tuple #[.agg #[.int .i64 0, .int .u32 0, .slice none 0 0], .int .i64 3])) (w7.setCells w.heap.size 0 (Array.toList #[.int .i64 0, .int .u32 0, .slice none 0 0]))) := by
        rw [HNO.out]
        exact fin_bad 3 rfl HB6.out
      have HX : Hid ((w7.setCells w.heap.size 0 (Array.toList #[.int .i64 0, .int .u32 0, .slice none 0 0])).heap[w.heap.size]? = some (.cells #[.int .i64 0, .int .u32 0, .slice none 0 0] 25 (0, 0))) := set_three _ _ _ HZE.out
      obtain ⟨z0, z1, z2⟩ := three_cells HZE.out
      obtain ⟨y0, y1, y2⟩ := fz_three HZE.out
      go_wp2
      refine bodyPost_ret (v := .tuple #[.agg #[.int .i64 0, .int .u32 0, .slice none 0 0], .int .i64 3]) ?_ rfl HF.out
      rw [results_ct rfl]
      simp [asAddr]
      have L0 := load_tok HX.out
      refine (congrArg (fun r => Result.andThen r _) L0).trans ?_
      rfl
  · have hE1 : (E != 0) = true := by simpa using hE0
    have hno : okT t = false := by
      have h1 := HEnd.out.1
      rw [decide_eq_false hE0, Bool.false_and] at h1
      rw [HOK.out, ← h1, Bool.and_false]
    have HNO : Hid (okT t = false) := hno
    clear hno HOK HEnd HMb
    go_upto_region 5 with (first | (go_at_call 54; refine Calls.mono HEr.out ?_; rintro e x ⟨rfl, hx⟩; have hx2 := hx.symm; clear hx; subst hx2) | (go_at_call 55; refine Calls.mono HLf.out ?_; rintro e x ⟨rfl, hx⟩; have hx2 := hx.symm; clear hx; subst hx2))
    have HZE : Hid (w7.heap[w.heap.size]? = some (.cells #[.int .i64 0, .int .u32 0, .slice none 0 0] 25 (0, 0))) := HZ6.out
    have HF : Hid (PaT w (okT t) 3 (flT t) (suT t) (daT t) (.returned (.tuple #[.agg #[.int .i64 0, .int .u32 0, .slice none 0 0], .int .i64 3])) (w7.setCells w.heap.size 0 (Array.toList #[.int .i64 0, .int .u32 0, .slice none 0 0]))) := by
      rw [HNO.out]
      exact fin_bad 3 rfl HB6.out
    have HX : Hid ((w7.setCells w.heap.size 0 (Array.toList #[.int .i64 0, .int .u32 0, .slice none 0 0])).heap[w.heap.size]? = some (.cells #[.int .i64 0, .int .u32 0, .slice none 0 0] 25 (0, 0))) := set_three _ _ _ HZE.out
    obtain ⟨z0, z1, z2⟩ := three_cells HZE.out
    obtain ⟨y0, y1, y2⟩ := fz_three HZE.out
    go_wp2
    refine bodyPost_ret (v := .tuple #[.agg #[.int .i64 0, .int .u32 0, .slice none 0 0], .int .i64 3]) ?_ rfl HF.out
    rw [results_ct rfl]
    simp [asAddr]
    have L0 := load_tok HX.out
    refine (congrArg (fun r => Result.andThen r _) L0).trans ?_
    rfl
end Go.Proofs.Ytinmkhdangknbaa
