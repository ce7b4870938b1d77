/- parse: the walk. -/
import Derived.Test.YtaibojmaghmfnaaMgV1
namespace Go.Proofs.Ytaibojmaghmfnaa
open Go.RowKit
set_option maxHeartbeats 12800000 in
theorem parse_any (a0 : Option Addr) (n0 cap0 : Nat) (t : List Int) (w : World) (hn : t.length = n0) (hnil : a0 = none → cap0 = 0) (hl : n0 ≤ 100000) (hb : Bytes t) (hr : Row w a0 t) : Calls Try.prog 27 #[.slice a0 n0 cap0] w fun e w' => MsP w (okT t) 3 (mnT t) e w' := by
  have hA : Below w.heap.size w (w.alloc (.cells #[.int .i64 0, .int .u32 0, .int .i64 0, .int .u32 0, .int .i64 0, .int .i64 0, .int .i64 0, .int .i64 0, .int .i64 0, .int .i64 0, .slice none 0 0, .slice none 0 0] 26)) := (Below.refl _ _).alloc (Nat.le_refl _) _
  have HZ0 : Hid ((w.alloc (.cells #[.int .i64 0, .int .u32 0, .int .i64 0, .int .u32 0, .int .i64 0, .int .i64 0, .int .i64 0, .int .i64 0, .int .i64 0, .int .i64 0, .slice none 0 0, .slice none 0 0] 26)).heap[w.heap.size]? = some (.cells #[.int .i64 0, .int .u32 0, .int .i64 0, .int .u32 0, .int .i64 0, .int .i64 0, .int .i64 0, .int .i64 0, .int .i64 0, .int .i64 0, .slice none 0 0, .slice none 0 0] 26 (0, 0))) := heap_alloc_newM w _
  have CN := new_any a0 n0 cap0 t _ hn hnil (by omega) (hr.old hA)
  have HCN : Hid _ := CN
  have HA0 : Hid (Below w.heap.size w (w.alloc (.cells #[.int .i64 0, .int .u32 0, .int .i64 0, .int .u32 0, .int .i64 0, .int .i64 0, .int .i64 0, .int .i64 0, .int .i64 0, .int .i64 0, .slice none 0 0, .slice none 0 0] 26))) := hA
  have HT : Hid (Bytes t ∧ t.length ≤ 100000) := ⟨hb, by omega⟩
  clear CN hA hn hnil hl hb hr
  go_enter Try.func27, Try.ntmps27
  go_wp2_with fail
  refine Calls.mono HCN.out ?_
  intro e w1 hpost
  obtain ⟨c, rfl, hc, b1, cs1⟩ := cs_new HT.out.1 (by have := HT.out.2; omega) hpost
  obtain ⟨U, hU⟩ : ∃ U, w1.heap.size = U := ⟨_, rfl⟩
  rw [hU] at cs1
  have HU : Hid (w1.heap.size = U) := hU
  have HCc : Hid (w.heap.size < c) := (by have h2 := hc; simp at h2; omega : w.heap.size < c)
  have HZ1 : Hid (w1.heap[w.heap.size]? = some (.cells #[.int .i64 0, .int .u32 0, .int .i64 0, .int .u32 0, .int .i64 0, .int .i64 0, .int .i64 0, .int .i64 0, .int .i64 0, .int .i64 0, .slice none 0 0, .slice none 0 0] 26 (0, 0))) := (b1.block w.heap.size (lt_of_block HZ0.out)).trans HZ0.out
  have HB1 : Hid (Below w.heap.size w w1) := HA0.out.trans (b1.mono HA0.out.size)
  have HS1 : Hid (CS w1 c U (.ok t)) := cs1
  clear HCN hpost hc b1 cs1 hU HZ0 HA0
  go_wp2_with fail
  refine Calls.mono (HS1.out.bigN 1 (by omega) (by omega)) ?_
  rintro e w2 ⟨rfl, h2, g2⟩
  have HZ2 : Hid (w2.heap[w.heap.size]? = some (.cells #[.int .i64 0, .int .u32 0, .int .i64 0, .int .u32 0, .int .i64 0, .int .i64 0, .int .i64 0, .int .i64 0, .int .i64 0, .int .i64 0, .slice none 0 0, .slice none 0 0] 26 (0, 0))) := (g2.block w.heap.size (lt_of_block HZ1.out) (by have := HCc.out; simp; omega)).trans HZ1.out
  have HB2 : Hid (Below w.heap.size w w2) := HB1.out.grown g2 HB1.out.size (fun k hk => by cases hk; have := HCc.out; omega)
  have HS2 : Hid (CS w2 c U (bS 1 (.ok t))) := h2
  have HU2 : Hid (U ≤ w2.heap.size) := (by rw [← HU.out]; exact g2.size : U ≤ w2.heap.size)
  have hKb := bN_byte (st := .ok t) HT.out.1 1
  obtain ⟨K, hK⟩ : ∃ K, bN 1 (.ok t) = K := ⟨_, rfl⟩
  rw [hK] at hKb ⊢
  have HK : Hid (kdT t = K) := hK
  clear h2 g2 HZ1 HB1 HS1 HU hK
  go_wp2_with fail
  refine Calls.mono (HS2.out.bigN 4 (by omega) (by omega)) ?_
  rintro e w3 ⟨rfl, h3, g3⟩
  have HZ3 : Hid (w3.heap[w.heap.size]? = some (.cells #[.int .i64 0, .int .u32 0, .int .i64 0, .int .u32 0, .int .i64 0, .int .i64 0, .int .i64 0, .int .i64 0, .int .i64 0, .int .i64 0, .slice none 0 0, .slice none 0 0] 26 (0, 0))) := (g3.block w.heap.size (lt_of_block HZ2.out) (by have := HCc.out; simp; omega)).trans HZ2.out
  have HB3 : Hid (Below w.heap.size w w3) := HB2.out.grown g3 HB2.out.size (fun k hk => by cases hk; have := HCc.out; omega)
  have HS3 : Hid (CS w3 c U (s2T t)) := h3
  have HU3 : Hid (U ≤ w3.heap.size) := Nat.le_trans HU2.out g3.size
  have hBob := bN_byte (bS_bytes (st := .ok t) HT.out.1 1) 4
  obtain ⟨Bo, hBo⟩ : ∃ B, bN 4 (bS 1 (.ok t)) = B := ⟨_, rfl⟩
  rw [hBo] at hBob ⊢
  have HBo : Hid (boT t = Bo) := hBo
  clear h3 g3 HZ2 HB2 HS2 HU2 hBo
  simp at hKb hBob
  have hKw : (Lit.int .i64 K).wf = true := wf64k (by omega) (by omega)
  go_wp2_with fail
  refine (kinds_any _).mono ?_
  rintro e w4 ⟨mb, rfl, km, kb4, b4⟩
  have lk := km.look K hKw
  have HB4 : Hid (Below w.heap.size w w4) := HB3.out.trans (b4.mono HB3.out.size)
  have HZ4 : Hid (w4.heap[w.heap.size]? = some (.cells #[.int .i64 0, .int .u32 0, .int .i64 0, .int .u32 0, .int .i64 0, .int .i64 0, .int .i64 0, .int .i64 0, .int .i64 0, .int .i64 0, .slice none 0 0, .slice none 0 0] 26 (0, 0))) := (b4.block w.heap.size (lt_of_block HZ3.out)).trans HZ3.out
  have HS4 : Hid (CS w4 c U (s2T t)) := HS3.out.old b4
  have HU4 : Hid (U ≤ w4.heap.size) := Nat.le_trans HU3.out b4.size
  clear km kb4 b4 HZ3 HB3 HS3 HU3
  cases hkd : isKd K
  · have hV : kdV K = kd_zero := by
      have h := of_decide_eq_false hkd
      unfold kdV
      rw [if_neg (by omega), if_neg (by omega), if_neg (by omega), if_neg (by omega), if_neg (by omega)]
    rw [hkd, hV] at lk
    unfold kd_zero at lk
    have hA5 : Below w4.heap.size w4 (w4.alloc (.cells #[.nilFunc, .nilFunc, .nilFunc, .nilFunc] 45)) := (Below.refl _ _).alloc (Nat.le_refl _) _
    have HZ5 : Hid ((w4.alloc (.cells #[.nilFunc, .nilFunc, .nilFunc, .nilFunc] 45)).heap[w.heap.size]? = some (.cells #[.int .i64 0, .int .u32 0, .int .i64 0, .int .u32 0, .int .i64 0, .int .i64 0, .int .i64 0, .int .i64 0, .int .i64 0, .int .i64 0, .slice none 0 0, .slice none 0 0] 26 (0, 0))) := (hA5.block w.heap.size (lt_of_block HZ4.out)).trans HZ4.out
    have HF : Hid (MsP w (okT t) 3 (mnT t) (.returned (.tuple #[.agg #[.int .i64 0, .int .u32 0, .int .i64 0, .int .u32 0, .int .i64 0, .int .i64 0, .int .i64 0, .int .i64 0, .int .i64 0, .int .i64 0, .slice none 0 0, .slice none 0 0], .int .i64 3])) ((w4.alloc (.cells #[.nilFunc, .nilFunc, .nilFunc, .nilFunc] 45)).setCells w.heap.size 0 (Array.toList #[.int .i64 0, .int .u32 0, .int .i64 0, .int .u32 0, .int .i64 0, .int .i64 0, .int .i64 0, .int .i64 0, .int .i64 0, .int .i64 0, .slice none 0 0, .slice none 0 0]))) := by
      have e : okT t = false := by unfold okT; rw [HK.out, hkd]; rfl
      rw [e]
      exact fin_bad 3 rfl (HB4.out.trans (hA5.mono HB4.out.size))
    have HX : Hid (((w4.alloc (.cells #[.nilFunc, .nilFunc, .nilFunc, .nilFunc] 45)).setCells w.heap.size 0 (Array.toList #[.int .i64 0, .int .u32 0, .int .i64 0, .int .u32 0, .int .i64 0, .int .i64 0, .int .i64 0, .int .i64 0, .int .i64 0, .int .i64 0, .slice none 0 0, .slice none 0 0])).heap[w.heap.size]? = some (.cells #[.int .i64 0, .int .u32 0, .int .i64 0, .int .u32 0, .int .i64 0, .int .i64 0, .int .i64 0, .int .i64 0, .int .i64 0, .int .i64 0, .slice none 0 0, .slice none 0 0] 26 (0, 0))) := set_twelve _ _ _ _ _ _ _ _ _ _ _ _ HZ5.out
    obtain ⟨z0, z1, z2, z3, z4, z5, z6, z7, z8, z9, z10, z11⟩ := twelve_cells HZ5.out
    obtain ⟨y0, y1, y2, y3, y4, y5, y6, y7, y8, y9, y10, y11⟩ := fz_twelve HZ5.out
    clear hA5 hkd hV
    go_wp2
    refine bodyPost_ret (v := .tuple #[.agg #[.int .i64 0, .int .u32 0, .int .i64 0, .int .u32 0, .int .i64 0, .int .i64 0, .int .i64 0, .int .i64 0, .int .i64 0, .int .i64 0, .slice none 0 0, .slice none 0 0], .int .i64 3]) ?_ rfl HF.out
    rw [results_ct rfl]
    simp [asAddr]
    show Result.andThen ((loadVar 26 ⟨w.heap.size, 0, none⟩).run Try.prog ((w4.alloc (.cells #[.nilFunc, .nilFunc, .nilFunc, .nilFunc] 45)).setCells w.heap.size 0 (Array.toList #[.int .i64 0, .int .u32 0, .int .i64 0, .int .u32 0, .int .i64 0, .int .i64 0, .int .i64 0, .int .i64 0, .int .i64 0, .int .i64 0, .slice none 0 0, .slice none 0 0]))) _ = _
    rw [load_msg HX.out]
    rfl
  · obtain ⟨a, b, cc, d, hf⟩ := kdT_any K hkd
    rw [hkd, hf.v] at lk
    have hcd := hf.cd
    have HTk : Hid (∀ x, CS x c U (s2T t) → U ≤ x.heap.size → Calls Try.prog d #[.pointer (some ⟨c, 0, none⟩)] x fun e w' => TkP x c U (tkN K (s2T t)) (tkS K (s2T t)) e w') := fun x hx hu => hf.take x c U (s2T t) hx hu (by
      have h1 := stZ_bS 1 (.ok t)
      have h2 := stZ_bS 4 (bS 1 (.ok t))
      have h3 := HT.out.2
      exact Nat.le_trans h2 (Nat.le_trans h1 h3))
    have HMa : Hid (∀ (m : Ms) (G : List (Int × Int)) (D : List Int) (x : World), m.k = K → MsM x m G D → Calls Try.prog 18 #[.agg #[fnv a, fnv b, fnv cc, fnv d], m.V] x fun e w' => e = .returned (.bool (myM m G)) ∧ Below x.heap.size x w') := fun m G D x hmk hm => by
      have := may_any m G D x (by rw [hmk]; exact hkd) hm
      rwa [hmk, hf.v] at this
    unfold fnv at lk HMa
    have hA5 : Below w4.heap.size w4 (w4.alloc (.cells #[.func (.func a) #[] #[], .func (.func b) #[] #[], .func (.func cc) #[] #[], .func (.func d) #[] #[]] 45)) := (Below.refl _ _).alloc (Nat.le_refl _) _
    have HZ5 : Hid ((w4.alloc (.cells #[.func (.func a) #[] #[], .func (.func b) #[] #[], .func (.func cc) #[] #[], .func (.func d) #[] #[]] 45)).heap[w.heap.size]? = some (.cells #[.int .i64 0, .int .u32 0, .int .i64 0, .int .u32 0, .int .i64 0, .int .i64 0, .int .i64 0, .int .i64 0, .int .i64 0, .int .i64 0, .slice none 0 0, .slice none 0 0] 26 (0, 0))) := (hA5.block w.heap.size (lt_of_block HZ4.out)).trans HZ4.out
    have HK5 : Hid ((w4.alloc (.cells #[.func (.func a) #[] #[], .func (.func b) #[] #[], .func (.func cc) #[] #[], .func (.func d) #[] #[]] 45)).heap[w4.heap.size]? = some (.cells #[.func (.func a) #[] #[], .func (.func b) #[] #[], .func (.func cc) #[] #[], .func (.func d) #[] #[]] 45 (0, 0))) := heap_alloc_newM w4 _
    have HB5 : Hid (Below w.heap.size w (w4.alloc (.cells #[.func (.func a) #[] #[], .func (.func b) #[] #[], .func (.func cc) #[] #[], .func (.func d) #[] #[]] 45))) := HB4.out.trans (hA5.mono HB4.out.size)
    have HS5 : Hid (CS (w4.alloc (.cells #[.func (.func a) #[] #[], .func (.func b) #[] #[], .func (.func cc) #[] #[], .func (.func d) #[] #[]] 45)) c U (s2T t)) := HS4.out.old hA5
    have HU5 : Hid (U ≤ (w4.alloc (.cells #[.func (.func a) #[] #[], .func (.func b) #[] #[], .func (.func cc) #[] #[], .func (.func d) #[] #[]] 45)).heap.size) := Nat.le_trans HU4.out hA5.size
    have HRk : Hid (w.heap.size < w4.heap.size) := lt_of_block HZ4.out
    have HCk : Hid (c < w4.heap.size) := HS4.out.lt
    have HByt : Hid (Bytes (stZ (s2T t))) := HS4.out.byt
    have HOk : Hid (okT t = (decide (stE (tkS K (s2T t)) = 0) && decide ((stZ (tkS K (s2T t))).length = 0) && myN ((tkN K (s2T t)).kb K Bo)) ∧ mnT t = (tkN K (s2T t)).kb K Bo) := (by unfold okT enT mnT; rw [HK.out, HBo.out, hkd]; simp : okT t = (decide (stE (tkS K (s2T t)) = 0) && decide ((stZ (tkS K (s2T t))).length = 0) && myN ((tkN K (s2T t)).kb K Bo)) ∧ mnT t = (tkN K (s2T t)).kb K Bo)
    have hsu := tk_su K HByt.out
    have hGl := tk_G K HByt.out
    clear hA5 hkd hf HZ4 HB4 HS4 HU4 HK HBo
    generalize s2T t = s2 at *
    generalize hnn : tkN K s2 = n at *
    generalize tkS K s2 = S at *
    go_wp2_with fail
    refine Calls.mono (HTk.out _ HS5.out HU5.out) ?_
    rintro e w6 ⟨ra, rc, da, dc, rfl, mr, cs6, g6⟩
    have HZ6 : Hid (w6.heap[w.heap.size]? = some (.cells #[.int .i64 0, .int .u32 0, .int .i64 0, .int .u32 0, .int .i64 0, .int .i64 0, .int .i64 0, .int .i64 0, .int .i64 0, .int .i64 0, .slice none 0 0, .slice none 0 0] 26 (0, 0))) := (g6.block _ (lt_of_block HZ5.out) (by have := HCc.out; simp; omega)).trans HZ5.out
    have HK6 : Hid (w6.heap[w4.heap.size]? = some (.cells #[.func (.func a) #[] #[], .func (.func b) #[] #[], .func (.func cc) #[] #[], .func (.func d) #[] #[]] 45 (0, 0))) := (g6.block _ (lt_of_block HK5.out) (by have := HCk.out; simp; omega)).trans HK5.out
    have HB6 : Hid (Below w.heap.size w w6) := HB5.out.grown g6 HB5.out.size (fun k hk => by cases hk; have := HCc.out; omega)
    have HS6 : Hid (CS w6 c U S) := cs6
    have HM6 : Hid (MsR (w4.alloc (.cells #[.func (.func a) #[] #[], .func (.func b) #[] #[], .func (.func cc) #[] #[], .func (.func d) #[] #[]] 45)).heap.size w6 n ra rc da dc) := mr
    clear mr cs6 g6 HZ5 HK5 HB5 HS5 HU5 HTk hnn
    obtain ⟨k, bo, fi, su, si, ap, bd, ix, pa, co, G, D⟩ := n
    unfold Mn.ms Ms.V Ms.c12
    simp only at hsu hGl ⊢
    go_upto_region 8 with fail
    have hA7 : Below w6.heap.size w6 (w6.alloc (.cells #[.int .i64 K, .int .u32 Bo, .int .i64 fi, .int .u32 su, .int .i64 si, .int .i64 ap, .int .i64 bd, .int .i64 ix, .int .i64 pa, .int .i64 co, .slice ra G.length rc, .slice da D.length dc] 26)) := (Below.refl _ _).alloc (Nat.le_refl _) _
    have hm7 := heap_alloc_newM w6 (.cells #[.int .i64 K, .int .u32 Bo, .int .i64 fi, .int .u32 su, .int .i64 si, .int .i64 ap, .int .i64 bd, .int .i64 ix, .int .i64 pa, .int .i64 co, .slice ra G.length rc, .slice da D.length dc] 26)
    obtain ⟨w7, hw7⟩ : ∃ w7, w6.alloc (.cells #[.int .i64 K, .int .u32 Bo, .int .i64 fi, .int .u32 su, .int .i64 si, .int .i64 ap, .int .i64 bd, .int .i64 ix, .int .i64 pa, .int .i64 co, .slice ra G.length rc, .slice da D.length dc] 26) = w7 := ⟨_, rfl⟩
    rw [hw7] at hA7 hm7 ⊢
    have HZ7 : Hid (w7.heap[w.heap.size]? = some (.cells #[.int .i64 0, .int .u32 0, .int .i64 0, .int .u32 0, .int .i64 0, .int .i64 0, .int .i64 0, .int .i64 0, .int .i64 0, .int .i64 0, .slice none 0 0, .slice none 0 0] 26 (0, 0))) := (hA7.block _ (lt_of_block HZ6.out)).trans HZ6.out
    have HK7 : Hid (w7.heap[w4.heap.size]? = some (.cells #[.func (.func a) #[] #[], .func (.func b) #[] #[], .func (.func cc) #[] #[], .func (.func d) #[] #[]] 45 (0, 0))) := (hA7.block _ (lt_of_block HK6.out)).trans HK6.out
    have HB7 : Hid (Below w.heap.size w w7) := HB6.out.trans (hA7.mono HB6.out.size)
    have HM7 : Hid (MsR (w4.alloc (.cells #[.func (.func a) #[] #[], .func (.func b) #[] #[], .func (.func cc) #[] #[], .func (.func d) #[] #[]] 45)).heap.size w7 (Mn.kb ⟨k, bo, fi, su, si, ap, bd, ix, pa, co, G, D⟩ K Bo) ra rc da dc) := ⟨HM6.out.g.old hA7, HM6.out.d.old hA7, HM6.out.fg, HM6.out.fd⟩
    have HMm : Hid (w7.heap[w6.heap.size]? = some (.cells #[.int .i64 K, .int .u32 Bo, .int .i64 fi, .int .u32 su, .int .i64 si, .int .i64 ap, .int .i64 bd, .int .i64 ix, .int .i64 pa, .int .i64 co, .slice ra G.length rc, .slice da D.length dc] 26 (0, 0))) := hm7
    have HU0 : Hid (w.heap.size < (w4.alloc (.cells #[.func (.func a) #[] #[], .func (.func b) #[] #[], .func (.func cc) #[] #[], .func (.func d) #[] #[]] 45)).heap.size) := (by have := HRk.out; simp; omega : w.heap.size < (w4.alloc (.cells #[.func (.func a) #[] #[], .func (.func b) #[] #[], .func (.func cc) #[] #[], .func (.func d) #[] #[]] 45)).heap.size)
    have cs7 := HS6.out.old hA7
    obtain ⟨E, hE⟩ : ∃ E, stE S = E := ⟨_, rfl⟩
    obtain ⟨L, hL⟩ : ∃ L, (stZ S).length = L := ⟨_, rfl⟩
    have hLm : L ≤ 140737488355328 := by rw [← hL]; exact cs7.ln
    have cE := cs7.err
    have cL := cs7.left
    rw [hE] at cE HOk
    rw [hL] at cL HOk
    have HEr : Hid (Calls Try.prog 50 #[.pointer (some ⟨c, 0, none⟩)] w7 fun e w' => e = .returned (.int .i64 E) ∧ w' = w7) := cE
    have HLf : Hid (Calls Try.prog 51 #[.pointer (some ⟨c, 0, none⟩)] w7 fun e w' => e = .returned (.int .i64 (L : Int)) ∧ w' = w7) := cL
    have HMb : Hid (Calls Try.prog 18 #[.agg #[.func (.func a) #[] #[], .func (.func b) #[] #[], .func (.func cc) #[] #[], .func (.func d) #[] #[]], .agg #[.int .i64 K, .int .u32 Bo, .int .i64 fi, .int .u32 su, .int .i64 si, .int .i64 ap, .int .i64 bd, .int .i64 ix, .int .i64 pa, .int .i64 co, .slice ra G.length rc, .slice da D.length dc]] w7 fun e w' => e = .returned (.bool (myN (Mn.kb ⟨k, bo, fi, su, si, ap, bd, ix, pa, co, G, D⟩ K Bo))) ∧ Below w7.heap.size w7 w') := HMa.out ((Mn.kb ⟨k, bo, fi, su, si, ap, bd, ix, pa, co, G, D⟩ K Bo).ms ra rc da dc) G D w7 rfl ⟨HM7.out.g, rfl, HM7.out.d, ⟨by show 0 ≤ Bo; omega, by show Bo < _; omega⟩, hsu, Nat.le_trans hGl (by omega)⟩
    clear hA7 hm7 cE cL cs7 hE hL hw7 hsu hGl HMa HM6 HB6 HK6 HZ6 HS6
    obtain ⟨z0, z1, z2, z3, z4, z5, z6, z7, z8, z9, z10, z11⟩ := twelve_cells HZ7.out
    obtain ⟨y0, y1, y2, y3, y4, y5, y6, y7, y8, y9, y10, y11⟩ := fz_twelve HZ7.out
    obtain ⟨m0, m1, m2, m3, m4, m5, m6, m7, m8, m9, m10, m11⟩ := twelve_cells HMm.out
    obtain ⟨h0, h1, h2, h3⟩ := kd_cells HK7.out
    by_cases hE0 : E = 0
    · by_cases hL0 : L = 0
      · have hl0 : ¬ (L : Int) > 0 := by omega
        subst hE0 hL0
        obtain ⟨Y, hY⟩ : ∃ Y, myN (Mn.kb ⟨k, bo, fi, su, si, ap, bd, ix, pa, co, G, D⟩ K Bo) = Y := ⟨_, rfl⟩
        rw [hY] at HMb HOk
        have C9 : Hid (Calls Try.prog 18 #[.agg #[.func (.func a) #[] #[], .func (.func b) #[] #[], .func (.func cc) #[] #[], .func (.func d) #[] #[]], .agg #[.int .i64 K, .int .u32 Bo, .int .i64 fi, .int .u32 su, .int .i64 si, .int .i64 ap, .int .i64 bd, .int .i64 ix, .int .i64 pa, .int .i64 co, .slice ra G.length rc, .slice da D.length dc]] w7 fun e w' => e = .returned (.bool Y) ∧ Below w.heap.size w w' ∧ w'.heap[w.heap.size]? = some (.cells #[.int .i64 0, .int .u32 0, .int .i64 0, .int .u32 0, .int .i64 0, .int .i64 0, .int .i64 0, .int .i64 0, .int .i64 0, .int .i64 0, .slice none 0 0, .slice none 0 0] 26 (0, 0)) ∧ w'.heap[w6.heap.size]? = some (.cells #[.int .i64 K, .int .u32 Bo, .int .i64 fi, .int .u32 su, .int .i64 si, .int .i64 ap, .int .i64 bd, .int .i64 ix, .int .i64 pa, .int .i64 co, .slice ra G.length rc, .slice da D.length dc] 26 (0, 0)) ∧ MsR (w4.alloc (.cells #[.func (.func a) #[] #[], .func (.func b) #[] #[], .func (.func cc) #[] #[], .func (.func d) #[] #[]] 45)).heap.size w' (Mn.kb ⟨k, bo, fi, su, si, ap, bd, ix, pa, co, G, D⟩ K Bo) ra rc da dc) := HMb.out.mono fun e w' q => ⟨q.1, HB7.out.trans (q.2.mono HB7.out.size), (q.2.block _ (lt_of_block HZ7.out)).trans HZ7.out, (q.2.block _ (lt_of_block HMm.out)).trans HMm.out, HM7.out.old q.2⟩
        clear hY HMb
        cases Y
        ·
          go_upto_region 9 with (first | (go_at_call 50; refine Calls.mono HEr.out ?_; rintro e x ⟨rfl, rfl⟩) | (go_at_call 51; refine Calls.mono HLf.out ?_; rintro e x ⟨rfl, rfl⟩) | (go_at_call 18; (with_reducible refine Calls.mono C9.out ?_); rintro e w8 ⟨rfl, q1, q2, q3, q4⟩; have HB8 : Hid (Below w.heap.size w w8) := q1; have HZ8 : Hid (w8.heap[w.heap.size]? = some (.cells #[.int .i64 0, .int .u32 0, .int .i64 0, .int .u32 0, .int .i64 0, .int .i64 0, .int .i64 0, .int .i64 0, .int .i64 0, .int .i64 0, .slice none 0 0, .slice none 0 0] 26 (0, 0))) := q2; have HM8 : Hid (MsR (w4.alloc (.cells #[.func (.func a) #[] #[], .func (.func b) #[] #[], .func (.func cc) #[] #[], .func (.func d) #[] #[]] 45)).heap.size w8 (Mn.kb ⟨k, bo, fi, su, si, ap, bd, ix, pa, co, G, D⟩ K Bo) ra rc da dc) := q4; obtain ⟨p0, p1, p2, p3, p4, p5, p6, p7, p8, p9, p10, p11⟩ := twelve_cells q2; obtain ⟨r0, r1, r2, r3, r4, r5, r6, r7, r8, r9, r10, r11⟩ := fz_twelve q2; obtain ⟨s0, s1, s2, s3, s4, s5, s6, s7, s8, s9, s10, s11⟩ := twelve_cells q3; clear q1 q2 q3 q4))
          have HF : Hid (MsP w (okT t) 3 (mnT t) (.returned (.tuple #[.agg #[.int .i64 0, .int .u32 0, .int .i64 0, .int .u32 0, .int .i64 0, .int .i64 0, .int .i64 0, .int .i64 0, .int .i64 0, .int .i64 0, .slice none 0 0, .slice none 0 0], .int .i64 3])) (w8.setCells w.heap.size 0 (Array.toList #[.int .i64 0, .int .u32 0, .int .i64 0, .int .u32 0, .int .i64 0, .int .i64 0, .int .i64 0, .int .i64 0, .int .i64 0, .int .i64 0, .slice none 0 0, .slice none 0 0]))) := by
            have e : okT t = false := by rw [HOk.out.1]; rfl
            rw [e]
            exact fin_bad 3 rfl HB8.out
          have HX : Hid ((w8.setCells w.heap.size 0 (Array.toList #[.int .i64 0, .int .u32 0, .int .i64 0, .int .u32 0, .int .i64 0, .int .i64 0, .int .i64 0, .int .i64 0, .int .i64 0, .int .i64 0, .slice none 0 0, .slice none 0 0])).heap[w.heap.size]? = some (.cells #[.int .i64 0, .int .u32 0, .int .i64 0, .int .u32 0, .int .i64 0, .int .i64 0, .int .i64 0, .int .i64 0, .int .i64 0, .int .i64 0, .slice none 0 0, .slice none 0 0] 26 (0, 0))) := set_twelve _ _ _ _ _ _ _ _ _ _ _ _ HZ8.out
          go_wp2_with (first | (go_at_call 50; refine Calls.mono HEr.out ?_; rintro e x ⟨rfl, rfl⟩) | (go_at_call 51; refine Calls.mono HLf.out ?_; rintro e x ⟨rfl, rfl⟩))
          refine bodyPost_ret (v := .tuple #[.agg #[.int .i64 0, .int .u32 0, .int .i64 0, .int .u32 0, .int .i64 0, .int .i64 0, .int .i64 0, .int .i64 0, .int .i64 0, .int .i64 0, .slice none 0 0, .slice none 0 0], .int .i64 3]) ?_ rfl HF.out
          rw [results_ct rfl]
          simp [asAddr]
          have L0 := load_msg HX.out
          refine (congrArg (fun r => Result.andThen r _) L0).trans ?_
          rfl
        ·
          go_upto_region 10 with (first | (go_at_call 50; refine Calls.mono HEr.out ?_; rintro e x ⟨rfl, rfl⟩) | (go_at_call 51; refine Calls.mono HLf.out ?_; rintro e x ⟨rfl, rfl⟩) | (go_at_call 18; (with_reducible refine Calls.mono C9.out ?_); rintro e w8 ⟨rfl, q1, q2, q3, q4⟩; have HB8 : Hid (Below w.heap.size w w8) := q1; have HZ8 : Hid (w8.heap[w.heap.size]? = some (.cells #[.int .i64 0, .int .u32 0, .int .i64 0, .int .u32 0, .int .i64 0, .int .i64 0, .int .i64 0, .int .i64 0, .int .i64 0, .int .i64 0, .slice none 0 0, .slice none 0 0] 26 (0, 0))) := q2; have HM8 : Hid (MsR (w4.alloc (.cells #[.func (.func a) #[] #[], .func (.func b) #[] #[], .func (.func cc) #[] #[], .func (.func d) #[] #[]] 45)).heap.size w8 (Mn.kb ⟨k, bo, fi, su, si, ap, bd, ix, pa, co, G, D⟩ K Bo) ra rc da dc) := q4; obtain ⟨p0, p1, p2, p3, p4, p5, p6, p7, p8, p9, p10, p11⟩ := twelve_cells q2; obtain ⟨r0, r1, r2, r3, r4, r5, r6, r7, r8, r9, r10, r11⟩ := fz_twelve q2; obtain ⟨s0, s1, s2, s3, s4, s5, s6, s7, s8, s9, s10, s11⟩ := twelve_cells q3; clear q1 q2 q3 q4))
          have HF : Hid (MsP w (okT t) 3 (mnT t) (.returned (.tuple #[.agg #[.int .i64 K, .int .u32 Bo, .int .i64 fi, .int .u32 su, .int .i64 si, .int .i64 ap, .int .i64 bd, .int .i64 ix, .int .i64 pa, .int .i64 co, .slice ra G.length rc, .slice da D.length dc], .int .i64 0])) (w8.setCells w.heap.size 0 (Array.toList #[.int .i64 K, .int .u32 Bo, .int .i64 fi, .int .u32 su, .int .i64 si, .int .i64 ap, .int .i64 bd, .int .i64 ix, .int .i64 pa, .int .i64 co, .slice ra G.length rc, .slice da D.length dc]))) := by
            have e : okT t = true := by rw [HOk.out.1]; rfl
            rw [e]
            rw [HOk.out.2]
            exact fin_ok (n := Mn.kb ⟨k, bo, fi, su, si, ap, bd, ix, pa, co, G, D⟩ K Bo) (ra := ra) (rc := rc) (da := da) (dc := dc) 3 rfl HB8.out HM8.out HU0.out
          have HX : Hid ((w8.setCells w.heap.size 0 (Array.toList #[.int .i64 K, .int .u32 Bo, .int .i64 fi, .int .u32 su, .int .i64 si, .int .i64 ap, .int .i64 bd, .int .i64 ix, .int .i64 pa, .int .i64 co, .slice ra G.length rc, .slice da D.length dc])).heap[w.heap.size]? = some (.cells #[.int .i64 K, .int .u32 Bo, .int .i64 fi, .int .u32 su, .int .i64 si, .int .i64 ap, .int .i64 bd, .int .i64 ix, .int .i64 pa, .int .i64 co, .slice ra G.length rc, .slice da D.length dc] 26 (0, 0))) := set_twelve _ _ _ _ _ _ _ _ _ _ _ _ HZ8.out
          go_wp2_with (first | (go_at_call 50; refine Calls.mono HEr.out ?_; rintro e x ⟨rfl, rfl⟩) | (go_at_call 51; refine Calls.mono HLf.out ?_; rintro e x ⟨rfl, rfl⟩))
          refine bodyPost_ret (v := .tuple #[.agg #[.int .i64 K, .int .u32 Bo, .int .i64 fi, .int .u32 su, .int .i64 si, .int .i64 ap, .int .i64 bd, .int .i64 ix, .int .i64 pa, .int .i64 co, .slice ra G.length rc, .slice da D.length dc], .int .i64 0]) ?_ rfl HF.out
          rw [results_ct rfl]
          simp [asAddr]
          have L0 := load_msg HX.out
          refine (congrArg (fun r => Result.andThen r _) L0).trans ?_
          rfl
      · have hl0 : (L : Int) > 0 := by omega
        subst hE0
        have HF : Hid (MsP w (okT t) 3 (mnT t) (.returned (.tuple #[.agg #[.int .i64 0, .int .u32 0, .int .i64 0, .int .u32 0, .int .i64 0, .int .i64 0, .int .i64 0, .int .i64 0, .int .i64 0, .int .i64 0, .slice none 0 0, .slice none 0 0], .int .i64 3])) (w7.setCells w.heap.size 0 (Array.toList #[.int .i64 0, .int .u32 0, .int .i64 0, .int .u32 0, .int .i64 0, .int .i64 0, .int .i64 0, .int .i64 0, .int .i64 0, .int .i64 0, .slice none 0 0, .slice none 0 0]))) := by
          have e : okT t = false := by rw [HOk.out.1, decide_eq_false hL0]; rfl
          rw [e]
          exact fin_bad 3 rfl HB7.out
        have HX : Hid ((w7.setCells w.heap.size 0 (Array.toList #[.int .i64 0, .int .u32 0, .int .i64 0, .int .u32 0, .int .i64 0, .int .i64 0, .int .i64 0, .int .i64 0, .int .i64 0, .int .i64 0, .slice none 0 0, .slice none 0 0])).heap[w.heap.size]? = some (.cells #[.int .i64 0, .int .u32 0, .int .i64 0, .int .u32 0, .int .i64 0, .int .i64 0, .int .i64 0, .int .i64 0, .int .i64 0, .int .i64 0, .slice none 0 0, .slice none 0 0] 26 (0, 0))) := set_twelve _ _ _ _ _ _ _ _ _ _ _ _ HZ7.out
        go_wp2_with (first | (go_at_call 50; refine Calls.mono HEr.out ?_; rintro e x ⟨rfl, rfl⟩) | (go_at_call 51; refine Calls.mono HLf.out ?_; rintro e x ⟨rfl, rfl⟩))
        refine bodyPost_ret (v := .tuple #[.agg #[.int .i64 0, .int .u32 0, .int .i64 0, .int .u32 0, .int .i64 0, .int .i64 0, .int .i64 0, .int .i64 0, .int .i64 0, .int .i64 0, .slice none 0 0, .slice none 0 0], .int .i64 3]) ?_ rfl HF.out
        rw [results_ct rfl]
        simp [asAddr]
        have L0 := load_msg HX.out
        refine (congrArg (fun r => Result.andThen r _) L0).trans ?_
        rfl
    · have hE1 : (E != 0) = true := by simpa using hE0
      have HF : Hid (MsP w (okT t) 3 (mnT t) (.returned (.tuple #[.agg #[.int .i64 0, .int .u32 0, .int .i64 0, .int .u32 0, .int .i64 0, .int .i64 0, .int .i64 0, .int .i64 0, .int .i64 0, .int .i64 0, .slice none 0 0, .slice none 0 0], .int .i64 3])) (w7.setCells w.heap.size 0 (Array.toList #[.int .i64 0, .int .u32 0, .int .i64 0, .int .u32 0, .int .i64 0, .int .i64 0, .int .i64 0, .int .i64 0, .int .i64 0, .int .i64 0, .slice none 0 0, .slice none 0 0]))) := by
        have e : okT t = false := by rw [HOk.out.1, decide_eq_false hE0]; rfl
        rw [e]
        exact fin_bad 3 rfl HB7.out
      have HX : Hid ((w7.setCells w.heap.size 0 (Array.toList #[.int .i64 0, .int .u32 0, .int .i64 0, .int .u32 0, .int .i64 0, .int .i64 0, .int .i64 0, .int .i64 0, .int .i64 0, .int .i64 0, .slice none 0 0, .slice none 0 0])).heap[w.heap.size]? = some (.cells #[.int .i64 0, .int .u32 0, .int .i64 0, .int .u32 0, .int .i64 0, .int .i64 0, .int .i64 0, .int .i64 0, .int .i64 0, .int .i64 0, .slice none 0 0, .slice none 0 0] 26 (0, 0))) := set_twelve _ _ _ _ _ _ _ _ _ _ _ _ HZ7.out
      clear hE0
      go_wp2_with (first | (go_at_call 50; refine Calls.mono HEr.out ?_; rintro e x ⟨rfl, rfl⟩) | (go_at_call 51; refine Calls.mono HLf.out ?_; rintro e x ⟨rfl, rfl⟩))
      refine bodyPost_ret (v := .tuple #[.agg #[.int .i64 0, .int .u32 0, .int .i64 0, .int .u32 0, .int .i64 0, .int .i64 0, .int .i64 0, .int .i64 0, .int .i64 0, .int .i64 0, .slice none 0 0, .slice none 0 0], .int .i64 3]) ?_ rfl HF.out
      rw [results_ct rfl]
      simp [asAddr]
      have L0 := load_msg HX.out
      refine (congrArg (fun r => Result.andThen r _) L0).trans ?_
      rfl
end Go.Proofs.Ytaibojmaghmfnaa
