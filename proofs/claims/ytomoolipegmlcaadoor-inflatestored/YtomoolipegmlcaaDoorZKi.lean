/- Stored texts are told one behind the other. -/
import Derived.Test.YtomoolipegmlcaaDoorZs
import Derived.Test.YtomoolipegmlcaaDoorZt
namespace Go.Proofs.YtomoolipegmlcaaDoor
open Go.RowKit
/-- Between two rounds of the law's own loop: two rows of bytes that are built. -/
def StRel (w : World) (F : Nat → Pt) (len t : Nat) (b v : Value) (wr : World) : Prop :=
  ∃ gb gv, Sl wr 5 b gb (vals (accB F len t)) ∧ Sl wr 5 v gv (vals (catF F t)) ∧ (∀ k, gb = some k → w.heap.size ≤ k ∧ gv ≠ some k) ∧ (∀ k, gv = some k → w.heap.size ≤ k) ∧ (∀ i, i < t → (F i).z.length ≤ 300) ∧ Below w.heap.size w wr
theorem sl_lit0 (w : World) : Sl (w.alloc (.cells #[] 5)) 5 (.slice (some ⟨w.heap.size, 0, none⟩) 0 0) (some w.heap.size) (vals []) := by
  refine .inr ⟨w.heap.size, 0, 0, #[], rfl, rfl, heap_alloc_new _ _, Nat.le_refl _, Nat.le_refl _, by unfold maxLen; omega, fun i hi => by simp [vals] at hi⟩
theorem xor_u8 : ∀ x : Fin 256, bits BinOp.xor IntKind.u8 IntKind.u8.max (x.val : Int) = 255 - (x.val : Int) := by decide +kernel
theorem xor_byte {x : Int} (h0 : 0 ≤ x) (h1 : x < 256) : bits BinOp.xor IntKind.u8 IntKind.u8.max x = 255 - x := by
  have := xor_u8 ⟨x.toNat, by omega⟩
  simp only at this
  rwa [show ((x.toNat : Nat) : Int) = x by omega] at this
theorem head_eq {n : Nat} (h : n ≤ 300) (last : Bool) (fz : List Int) (hn : fz.length = n) : [if last then 1 else 0, (n : Int) % 256, (n : Int) / 256, bits BinOp.xor IntKind.u8 IntKind.u8.max ((n : Int) % 256), bits BinOp.xor IntKind.u8 IntKind.u8.max ((n : Int) / 256)] ++ fz = blkB last fz := by
  rw [xor_byte (by omega) (by omega), xor_byte (by omega) (by omega), ← hn]
  rfl
theorem st_row (w : World) (l : List Int) : Row (w.alloc (.cells (vals l).toArray 5)) (some ⟨w.heap.size, 0, none⟩) l := row_lit w l
/-- A round's book-keeping. -/
theorem st_step {w wr w2 w3 w4 : World} {F : Nat → Pt} {len t : Nat} {b v v2 v3 : Value} {gb gv g1 g2 g3 : Option Nat} {o : Obj} {hd : List Int}
    (hsb : Sl wr 5 b gb (vals (accB F len t))) (hsv : Sl wr 5 v gv (vals (catF F t))) (hgb : ∀ k, gb = some k → w.heap.size ≤ k ∧ gv ≠ some k) (hgv : ∀ k, gv = some k → w.heap.size ≤ k) (hlen : ∀ i, i < t → (F i).z.length ≤ 300) (hn : (F t).z.length ≤ 300) (hbel : Below w.heap.size w wr)
    (hhd : hd ++ (F t).z = blkB (decide (t + 1 = len)) (F t).z)
    (k1 : g1 = gb ∨ ∃ k, g1 = some k ∧ wr.heap.size + 1 ≤ k) (gr1 : (wr.alloc o).grownBy w2 gb)
    (h2 : Sl w3 5 v2 g2 (vals ((accB F len t ++ hd) ++ (F t).z))) (k2 : g2 = g1 ∨ ∃ k, g2 = some k ∧ w2.heap.size ≤ k) (gr2 : w2.grownBy w3 g1)
    (h3 : Sl w4 5 v3 g3 (vals (catF F t ++ (F t).z))) (k3 : g3 = gv ∨ ∃ k, g3 = some k ∧ w3.heap.size ≤ k) (gr3 : w3.grownBy w4 gv) : StRel w F len (t + 1) v2 v3 w4 := by
  have e1 : Below wr.heap.size wr (wr.alloc o) := (Below.refl _ _).alloc (Nat.le_refl _) _
  have s1 := e1.size
  have s2 := gr1.size
  have s3 := gr2.size
  have s0 := hbel.size
  have g1b : ∀ k, g1 = some k → w.heap.size ≤ k ∧ gv ≠ some k := by
    intro k hk
    rcases k1 with e | ⟨j, e, hj⟩
    · exact hgb k (e ▸ hk)
    · rw [e] at hk; cases hk
      exact ⟨by omega, fun e => by have := hsv.lt e; omega⟩
  have g2b : ∀ k, g2 = some k → w.heap.size ≤ k ∧ gv ≠ some k := by
    intro k hk
    rcases k2 with e | ⟨j, e, hj⟩
    · exact g1b k (e ▸ hk)
    · rw [e] at hk; cases hk
      exact ⟨by omega, fun e => by have := hsv.lt e; omega⟩
  refine ⟨g2, g3, ?_, ?_, fun k hk => ⟨(g2b k hk).1, fun e => ?_⟩, fun k hk => ?_, fun i hi => ?_, ?_⟩
  · rw [accB, ← hhd, ← List.append_assoc]
    exact h2.same fun k hk => gr3.block k (h2.lt hk) (fun e => (g2b k hk).2 e.symm)
  · exact h3
  · rcases k3 with e3 | ⟨j, e3, hj⟩
    · exact (g2b k hk).2 (e3 ▸ e)
    · rw [e3] at e; cases e
      have := h2.lt hk
      omega
  · rcases k3 with e3 | ⟨j, e3, hj⟩
    · exact hgv k (e3 ▸ hk)
    · rw [e3] at hk; cases hk; omega
  · by_cases e : i = t
    · subst e; exact hn
    · exact hlen i (by omega)
  · have b2 : Below w.heap.size w w2 := (hbel.trans (e1.mono s0)).grown gr1 (by omega) (fun k hk => (hgb k hk).1)
    have b3 : Below w.heap.size w w3 := b2.grown gr2 (by omega) (fun k hk => (g1b k hk).1)
    exact b3.grown gr3 (by omega) hgv
theorem st_mid {w wr w2 w3 : World} {F : Nat → Pt} {t : Nat} {v : Value} {gb gv g1 : Option Nat} {o : Obj}
    (hsv : Sl wr 5 v gv (vals (catF F t))) (hgb : ∀ k, gb = some k → w.heap.size ≤ k ∧ gv ≠ some k) (hbel : Below w.heap.size w wr)
    (k1 : g1 = gb ∨ ∃ k, g1 = some k ∧ wr.heap.size + 1 ≤ k) (gr1 : (wr.alloc o).grownBy w2 gb) (gr2 : w2.grownBy w3 g1) : Sl w3 5 v gv (vals (catF F t)) ∧ Below w.heap.size w w2 ∧ Below w.heap.size w w3 := by
  have e1 : Below wr.heap.size wr (wr.alloc o) := (Below.refl _ _).alloc (Nat.le_refl _) _
  have s1 := e1.size
  have s2 := gr1.size
  have s0 := hbel.size
  have g1b : ∀ k, g1 = some k → w.heap.size ≤ k ∧ gv ≠ some k := by
    intro k hk
    rcases k1 with e | ⟨j, e, hj⟩
    · exact hgb k (e ▸ hk)
    · rw [e] at hk; cases hk
      exact ⟨by omega, fun e => by have := hsv.lt e; omega⟩
  have b2 : Below w.heap.size w w2 := (hbel.trans (e1.mono s0)).grown gr1 (by omega) (fun k hk => (hgb k hk).1)
  have b3 : Below w.heap.size w w3 := b2.grown gr2 (by omega) (fun k hk => (g1b k hk).1)
  refine ⟨hsv.same fun k hk => ?_, b2, b3⟩
  have hkl := hsv.lt hk
  rw [gr2.block k (by omega) (fun e => (g1b k e.symm).2 hk), gr1.block k (by omega) (fun e => (hgb k e.symm).2 hk)]
  exact e1.block k hkl
set_option maxHeartbeats 3200000 in
set_option maxRecDepth 20000 in
theorem istored_walk (a : Option Addr) (len cap : Nat) (F : Nat → Pt) (s l : Int) (w : World) (hord : Ord w) (ha : PtArg w a len cap F) (ws : (Lit.int .u8 s).wf = true) (wl : (Lit.int .u8 l).wf = true) :
    Calls Tryd.prog 6 #[.slice a len cap, .int .u8 s, .int .u8 l] w fun e w' => e = .returned (.bool true) ∧ Below w.heap.size w w' := by
  have hs := bounds_u8 ws
  have hl := bounds_u8 wl
  clear ws wl
  obtain ⟨m, rfl⟩ : ∃ m : Nat, l = (m : Int) := ⟨l.toNat, by omega⟩
  obtain ⟨q, rfl⟩ : ∃ q : Nat, s = (q : Int) := ⟨s.toNat, by omega⟩
  obtain ⟨hlc, hm, hF⟩ := ha
  unfold maxLen at hm
  have HF : Hid (0 < len → ∃ b off, a = some ⟨b, off, none⟩ ∧ ∀ i, i < len → w.cell? ⟨b, off + i, none⟩ = some (.slice (F i).a (F i).z.length (F i).c) ∧ PtOk w (F i)) := hF
  have HO : Hid (Ord w) := hord
  clear hF hord
  by_cases hbig : 20 < (len : Int)
  · go_enter Tryd.func6, Tryd.ntmps6
    go_wp2_with (go_at_call 9; refine (fixed_any _ HO.out).mono ?_; rintro e w1 ⟨rfl, hbel⟩)
    go_ret
    exact ⟨rfl, hbel⟩
  go_enter Tryd.func6, Tryd.ntmps6
  go_wp2_with fail
  refine (fixed_any _ HO.out).mono ?_
  rintro e w1 ⟨rfl, b1⟩
  have HB1 : Hid (Below w.heap.size w w1) := b1
  clear b1
  have HS0 : Hid (StRel w F len 0 (.slice (some ⟨w1.heap.size, 0, none⟩) 0 0) (.slice (some ⟨(w1.alloc (.cells #[] 5)).heap.size, 0, none⟩) 0 0) ((w1.alloc (.cells #[] 5)).alloc (.cells #[] 5))) := by
    have e1 : Below w1.heap.size w1 (w1.alloc (.cells #[] 5)) := (Below.refl _ _).alloc (Nat.le_refl _) _
    have e2 : Below (w1.alloc (.cells #[] 5)).heap.size (w1.alloc (.cells #[] 5)) ((w1.alloc (.cells #[] 5)).alloc (.cells #[] 5)) := (Below.refl _ _).alloc (Nat.le_refl _) _
    have hlt : w1.heap.size < (w1.alloc (.cells #[] 5)).heap.size := (sl_lit0 w1).lt rfl
    refine ⟨_, _, (sl_lit0 w1).same fun k hk => e2.block k ((sl_lit0 w1).lt hk), sl_lit0 _, fun k hk => ?_, fun k hk => ?_, fun i hi => by omega, HB1.out.trans ((e1.trans (e2.mono e1.size)).mono HB1.out.size)⟩
    · cases hk
      exact ⟨HB1.out.size, fun e => by have := Option.some.inj e; omega⟩
    · cases hk
      exact Nat.le_trans HB1.out.size e1.size
  rw [show (w1.alloc (.cells #[] 5)).heap.size = w1.heap.size + 1 by simp] at HS0
  go_wp2
  go_loopw [7, 8, 9, 10, 11, 12, 29] (fun b v _ _ _ _ i wr => ∃ t : Nat, t ≤ len ∧ i = .int .i64 t ∧ Hid (StRel w F len t b v wr)) (fun _ _ _ _ _ _ i _ => len - (intOf i).toNat)
  case atStart => exact ⟨0, Nat.zero_le _, rfl, HS0.out⟩
  case round =>
    clear HS0 HB1
    obtain ⟨t, ht, rfl, HX⟩ := hrel
    obtain ⟨gb, gv, hsb, hsv, hgb, hgv, hlen, hbel⟩ := HX.out
    obtain ⟨ab, cb, hvb, hb1, hb2, hb3⟩ := hsb.shape
    obtain ⟨av, cv, hvv, hv1, hv2, hv3⟩ := hsv.shape
    rw [vals_len] at hvb hvv hb1 hv1
    subst hvb hvv
    have hal := accB_len F len t hlen
    have hcl := catF_len F t hlen
    have HS : Hid (Sl wr 5 (.slice ab (accB F len t).length cb) gb (vals (accB F len t)) ∧ Sl wr 5 (.slice av (catF F t).length cv) gv (vals (catF F t)) ∧ (∀ k, gb = some k → w.heap.size ≤ k ∧ gv ≠ some k) ∧ (∀ k, gv = some k → w.heap.size ≤ k) ∧ (∀ i, i < t → (F i).z.length ≤ 300) ∧ Below w.heap.size w wr) := ⟨hsb, hsv, hgb, hgv, hlen, hbel⟩
    obtain ⟨P, hP⟩ : ∃ P, (accB F len t).length = P := ⟨_, rfl⟩
    obtain ⟨Q, hQ⟩ : ∃ Q, (catF F t).length = Q := ⟨_, rfl⟩
    have HP : Hid ((accB F len t).length = P ∧ (catF F t).length = Q) := ⟨hP, hQ⟩
    rw [hP] at hal hb1 ⊢
    rw [hQ] at hcl hv1 ⊢
    clear hP hQ HX hsb hsv hgb hgv hlen hb2 hv2
    by_cases hlt : t < len
    · obtain ⟨b, off, rfl, hc⟩ := HF.out (by omega)
      obtain ⟨hck, hq1, hq2, hq3, hq4, hq5⟩ := hc t hlt
      have hck' : wr.cell? ⟨b, off + t, none⟩ = some (.slice (F t).a (F t).z.length (F t).c) := (hbel.cell (p := ⟨b, _, none⟩) (cell_lt hck)).trans hck
      have HQ : Hid (Row w (F t).a (F t).z ∧ Bytes (F t).z ∧ ((F t).a = none → (F t).c = 0)) := ⟨hq5, hq1, hq4⟩
      clear hc hck hq5 hq1 hq4 hbel
      obtain ⟨fz, hfz⟩ : ∃ fz, (F t).z = fz := ⟨_, rfl⟩
      obtain ⟨fa, hfa⟩ : ∃ fa, (F t).a = fa := ⟨_, rfl⟩
      obtain ⟨fc, hfc⟩ : ∃ fc, (F t).c = fc := ⟨_, rfl⟩
      have HFZ : Hid ((F t).z = fz) := hfz
      rw [hfz, hfa, hfc] at hck' HQ
      rw [hfz, hfc] at hq2
      clear hfz hfa hfc hq3
      by_cases c1 : 300 < (fz.length : Int)
      · go_wp2
        go_ret
        exact ⟨rfl, HS.out.2.2.2.2.2⟩
      obtain ⟨n, hn⟩ : ∃ n, fz.length = n := ⟨_, rfl⟩
      have HN : Hid (fz.length = n) := hn
      rw [hn] at hck' c1 hq2
      clear hn
      by_cases hla : t + 1 = len
      · have hlai : (len : Int) - 1 = (t : Int) := by omega
        have HX : Hid (Row (wr.alloc (.cells #[.int .u8 1, .int .u8 ((n : Int) % 256), .int .u8 ((n : Int) / 256), .int .u8 (bits BinOp.xor IntKind.u8 IntKind.u8.max ((n : Int) % 256)), .int .u8 (bits BinOp.xor IntKind.u8 IntKind.u8.max ((n : Int) / 256))] 5)) (some ⟨wr.heap.size, 0, none⟩) [1, (n : Int) % 256, (n : Int) / 256, bits BinOp.xor IntKind.u8 IntKind.u8.max ((n : Int) % 256), bits BinOp.xor IntKind.u8 IntKind.u8.max ((n : Int) / 256)]) := row_lit wr _
        have HSB : Hid (Sl (wr.alloc (.cells #[.int .u8 1, .int .u8 ((n : Int) % 256), .int .u8 ((n : Int) / 256), .int .u8 (bits BinOp.xor IntKind.u8 IntKind.u8.max ((n : Int) % 256)), .int .u8 (bits BinOp.xor IntKind.u8 IntKind.u8.max ((n : Int) / 256))] 5)) 5 (.slice ab P cb) gb (vals (accB F len t))) := by
          have h0 := HS.out.1
          rw [HP.out.1] at h0
          exact h0.same fun k hk => ((Below.refl _ _).alloc (Nat.le_refl _) _ : Below wr.heap.size wr (wr.alloc _)).block k (h0.lt hk)
        go_wp2_with (at_builtin; refine wpList_more rfl _ _ rfl (.slice ab P cb) gb (accB F len t) rfl HSB.out (some ⟨wr.heap.size, 0, none⟩) 5 5 [1, (n : Int) % 256, (n : Int) / 256, bits BinOp.xor IntKind.u8 IntKind.u8.max ((n : Int) % 256), bits BinOp.xor IntKind.u8 IntKind.u8.max ((n : Int) / 256)] rfl (fun e => by cases e) rfl HX.out (by rw [HP.out.1]; omega) ?_)
        intro v1 w2 g1 h1 k1 gr1
        obtain ⟨a1, c1', hv1', -⟩ := h1.shape
        obtain ⟨z1, hz1⟩ : ∃ z, v1 = .slice a1 z c1' := ⟨_, hv1'⟩
        clear hv1'
        subst hz1
        have H1 : Hid (Sl w2 5 (.slice a1 z1 c1') g1 (vals (accB F len t ++ [1, (n : Int) % 256, (n : Int) / 256, bits BinOp.xor IntKind.u8 IntKind.u8.max ((n : Int) % 256), bits BinOp.xor IntKind.u8 IntKind.u8.max ((n : Int) / 256)]))) := h1
        have HR2 : Hid (Row w2 fa fz) := HQ.out.1.old (st_mid HS.out.2.1 HS.out.2.2.1 HS.out.2.2.2.2.2 k1 gr1 (w3 := w2) ⟨rfl, rfl, rfl, Nat.le_refl _, fun _ _ _ => rfl⟩).2.1
        have HK1 : Hid (_) := And.intro k1 gr1
        clear h1 k1 gr1 HX HSB hck'
        go_wp2_with (at_builtin; refine wpList_more rfl _ _ rfl (.slice a1 z1 c1') g1 (accB F len t ++ [1, (n : Int) % 256, (n : Int) / 256, bits BinOp.xor IntKind.u8 IntKind.u8.max ((n : Int) % 256), bits BinOp.xor IntKind.u8 IntKind.u8.max ((n : Int) / 256)]) rfl H1.out fa n fc fz rfl HQ.out.2.2 HN.out HR2.out (by rw [List.length_append, HP.out.1]; simp only [List.length_cons, List.length_nil]; omega) ?_)
        intro v2 w3 g2 h2 k2 gr2
        obtain ⟨a2, c2', hv2', -⟩ := h2.shape
        obtain ⟨z2, hz2⟩ : ∃ z, v2 = .slice a2 z c2' := ⟨_, hv2'⟩
        clear hv2'
        subst hz2
        have HMid : Hid (Sl w3 5 (.slice av Q cv) gv (vals (catF F t)) ∧ Row w3 fa fz) := by
          obtain ⟨q1, q2, q3⟩ := st_mid HS.out.2.1 HS.out.2.2.1 HS.out.2.2.2.2.2 HK1.out.1 HK1.out.2 gr2
          rw [HP.out.2] at q1
          exact ⟨q1, HQ.out.1.old q3⟩
        have HK2 : Hid (_) := And.intro h2 (And.intro k2 gr2)
        clear h2 k2 gr2
        go_wp2_with (at_builtin; refine wpList_more rfl _ _ rfl (.slice av Q cv) gv (catF F t) rfl HMid.out.1 fa n fc fz rfl HQ.out.2.2 HN.out HMid.out.2 (by rw [HP.out.2]; omega) ?_)
        intro v3 w4 g3 h3 k3 gr3
        have HE : Hid (StRel w F len (t + 1) (.slice a2 z2 c2') v3 w4) := by
          have h2' : Sl w3 5 (.slice a2 z2 c2') g2 (vals ((accB F len t ++ [1, (n : Int) % 256, (n : Int) / 256, bits BinOp.xor IntKind.u8 IntKind.u8.max ((n : Int) % 256), bits BinOp.xor IntKind.u8 IntKind.u8.max ((n : Int) / 256)]) ++ fz)) := by rw [List.append_assoc]; exact HK2.out.1
          have hfz := HFZ.out
          rw [← hfz] at h2' h3
          refine st_step HS.out.1 HS.out.2.1 HS.out.2.2.1 HS.out.2.2.2.1 HS.out.2.2.2.2.1 (by rw [hfz, HN.out]; omega) HS.out.2.2.2.2.2 ?_ HK1.out.1 HK1.out.2 h2' HK2.out.2.1 HK2.out.2.2 h3 k3 gr3
          rw [hfz, show decide (t + 1 = len) = true by simp; omega]
          exact head_eq (by omega) true fz HN.out
        obtain ⟨a3, c3', hv3', -⟩ := h3.shape
        obtain ⟨z3, hz3⟩ : ∃ z, v3 = .slice a3 z c3' := ⟨_, hv3'⟩
        clear hv3'
        subst hz3
        clear h3 k3 gr3 HK1 HK2 HMid H1 HR2 HS
        go_wp2
        go_roundw
        case rel => exact ⟨t + 1, by omega, by go_num, HE.out⟩
        case measure => simp [intOf]; omega
      · have hlai : ¬ (t : Int) = (len : Int) - 1 := by omega
        have hlab : ((t : Int) == (len : Int) - 1) = false := by simpa using hlai
        have HX : Hid (Row (wr.alloc (.cells #[.int .u8 0, .int .u8 ((n : Int) % 256), .int .u8 ((n : Int) / 256), .int .u8 (bits BinOp.xor IntKind.u8 IntKind.u8.max ((n : Int) % 256)), .int .u8 (bits BinOp.xor IntKind.u8 IntKind.u8.max ((n : Int) / 256))] 5)) (some ⟨wr.heap.size, 0, none⟩) [0, (n : Int) % 256, (n : Int) / 256, bits BinOp.xor IntKind.u8 IntKind.u8.max ((n : Int) % 256), bits BinOp.xor IntKind.u8 IntKind.u8.max ((n : Int) / 256)]) := row_lit wr _
        have HSB : Hid (Sl (wr.alloc (.cells #[.int .u8 0, .int .u8 ((n : Int) % 256), .int .u8 ((n : Int) / 256), .int .u8 (bits BinOp.xor IntKind.u8 IntKind.u8.max ((n : Int) % 256)), .int .u8 (bits BinOp.xor IntKind.u8 IntKind.u8.max ((n : Int) / 256))] 5)) 5 (.slice ab P cb) gb (vals (accB F len t))) := by
          have h0 := HS.out.1
          rw [HP.out.1] at h0
          exact h0.same fun k hk => ((Below.refl _ _).alloc (Nat.le_refl _) _ : Below wr.heap.size wr (wr.alloc _)).block k (h0.lt hk)
        go_wp2_with (at_builtin; refine wpList_more rfl _ _ rfl (.slice ab P cb) gb (accB F len t) rfl HSB.out (some ⟨wr.heap.size, 0, none⟩) 5 5 [0, (n : Int) % 256, (n : Int) / 256, bits BinOp.xor IntKind.u8 IntKind.u8.max ((n : Int) % 256), bits BinOp.xor IntKind.u8 IntKind.u8.max ((n : Int) / 256)] rfl (fun e => by cases e) rfl HX.out (by rw [HP.out.1]; omega) ?_)
        intro v1 w2 g1 h1 k1 gr1
        obtain ⟨a1, c1', hv1', -⟩ := h1.shape
        obtain ⟨z1, hz1⟩ : ∃ z, v1 = .slice a1 z c1' := ⟨_, hv1'⟩
        clear hv1'
        subst hz1
        have H1 : Hid (Sl w2 5 (.slice a1 z1 c1') g1 (vals (accB F len t ++ [0, (n : Int) % 256, (n : Int) / 256, bits BinOp.xor IntKind.u8 IntKind.u8.max ((n : Int) % 256), bits BinOp.xor IntKind.u8 IntKind.u8.max ((n : Int) / 256)]))) := h1
        have HR2 : Hid (Row w2 fa fz) := HQ.out.1.old (st_mid HS.out.2.1 HS.out.2.2.1 HS.out.2.2.2.2.2 k1 gr1 (w3 := w2) ⟨rfl, rfl, rfl, Nat.le_refl _, fun _ _ _ => rfl⟩).2.1
        have HK1 : Hid (_) := And.intro k1 gr1
        clear h1 k1 gr1 HX HSB hck'
        go_wp2_with (at_builtin; refine wpList_more rfl _ _ rfl (.slice a1 z1 c1') g1 (accB F len t ++ [0, (n : Int) % 256, (n : Int) / 256, bits BinOp.xor IntKind.u8 IntKind.u8.max ((n : Int) % 256), bits BinOp.xor IntKind.u8 IntKind.u8.max ((n : Int) / 256)]) rfl H1.out fa n fc fz rfl HQ.out.2.2 HN.out HR2.out (by rw [List.length_append, HP.out.1]; simp only [List.length_cons, List.length_nil]; omega) ?_)
        intro v2 w3 g2 h2 k2 gr2
        obtain ⟨a2, c2', hv2', -⟩ := h2.shape
        obtain ⟨z2, hz2⟩ : ∃ z, v2 = .slice a2 z c2' := ⟨_, hv2'⟩
        clear hv2'
        subst hz2
        have HMid : Hid (Sl w3 5 (.slice av Q cv) gv (vals (catF F t)) ∧ Row w3 fa fz) := by
          obtain ⟨q1, q2, q3⟩ := st_mid HS.out.2.1 HS.out.2.2.1 HS.out.2.2.2.2.2 HK1.out.1 HK1.out.2 gr2
          rw [HP.out.2] at q1
          exact ⟨q1, HQ.out.1.old q3⟩
        have HK2 : Hid (_) := And.intro h2 (And.intro k2 gr2)
        clear h2 k2 gr2
        go_wp2_with (at_builtin; refine wpList_more rfl _ _ rfl (.slice av Q cv) gv (catF F t) rfl HMid.out.1 fa n fc fz rfl HQ.out.2.2 HN.out HMid.out.2 (by rw [HP.out.2]; omega) ?_)
        intro v3 w4 g3 h3 k3 gr3
        have HE : Hid (StRel w F len (t + 1) (.slice a2 z2 c2') v3 w4) := by
          have h2' : Sl w3 5 (.slice a2 z2 c2') g2 (vals ((accB F len t ++ [0, (n : Int) % 256, (n : Int) / 256, bits BinOp.xor IntKind.u8 IntKind.u8.max ((n : Int) % 256), bits BinOp.xor IntKind.u8 IntKind.u8.max ((n : Int) / 256)]) ++ fz)) := by rw [List.append_assoc]; exact HK2.out.1
          have hfz := HFZ.out
          rw [← hfz] at h2' h3
          refine st_step HS.out.1 HS.out.2.1 HS.out.2.2.1 HS.out.2.2.2.1 HS.out.2.2.2.2.1 (by rw [hfz, HN.out]; omega) HS.out.2.2.2.2.2 ?_ HK1.out.1 HK1.out.2 h2' HK2.out.2.1 HK2.out.2.2 h3 k3 gr3
          rw [hfz, show decide (t + 1 = len) = false by simp; omega]
          exact head_eq (by omega) false fz HN.out
        obtain ⟨a3, c3', hv3', -⟩ := h3.shape
        obtain ⟨z3, hz3⟩ : ∃ z, v3 = .slice a3 z c3' := ⟨_, hv3'⟩
        clear hv3'
        subst hz3
        clear h3 k3 gr3 HK1 HK2 HMid H1 HR2 HS
        go_wp2
        go_roundw
        case rel => exact ⟨t + 1, by omega, by go_num, HE.out⟩
        case measure => simp [intOf]; omega
    · obtain rfl : t = len := by omega
      have HBY : Hid (Bytes (accB F t t) ∧ ∀ i, i < t → (F i).z.length ≤ 300 ∧ Bytes (F i).z) := by
        have hb : ∀ i, i < t → (F i).z.length ≤ 300 ∧ Bytes (F i).z := by
          intro i hi
          obtain ⟨b, off, rfl, hc⟩ := HF.out (by omega)
          exact ⟨HS.out.2.2.2.2.1 i hi, (hc i hi).2.1⟩
        exact ⟨accB_byt F t t hb, hb⟩
      have HB : Hid (Below w.heap.size w wr) := hbel
      have HRw : Hid (Row wr ab (accB F t t) ∧ Row wr av (catF F t)) := ⟨HS.out.1.row rfl, HS.out.2.1.row rfl⟩
      have HCB : Hid (cb ≤ 9223372036854775807) := by
        obtain ⟨a', c', hv, _, h2, _⟩ := HS.out.1.shape
        simp only [Value.slice.injEq] at hv
        obtain ⟨_, _, rfl⟩ := hv
        exact h2
      have HO1 : Hid (Ord wr) := HO.out.below hbel HO.out.pos
      obtain ⟨N, hN⟩ : ∃ N : Nat, 1 + q % 9 = N := ⟨_, rfl⟩
      have hN1 : 1 ≤ N ∧ N ≤ 100 := by omega
      have hNi : (1 : Int) + ((q : Int) % 9) = (N : Int) := by omega
      have HPa := all_posW ab cb (accB F t t) N Q wr HRw.out.1 HBY.out.1 (by rw [HP.out.1]; omega) HCB.out hb3 (by rw [HP.out.1]; omega) (by omega) hN1.1 hN1.2 HO1.out
      rw [HP.out.1] at HPa
      clear hbel HS hN
      go_wp2_with fail
      refine HPa.mono ?_
      rintro e w3 hp
      obtain ⟨r, o, d, ax, cx, L, rfl, hd, hL, hr, hrow, hle, hcx, b3⟩ := hp.open
      obtain ⟨ho, he, hen⟩ := stored_all F t HBY.out.2 r (by rw [HP.out.2]; exact hr)
      have hol : r.out.length = Q := by rw [ho, HP.out.2]
      have HB3 : Hid (Below w.heap.size w w3) := HB.out.trans (b3.mono HB.out.size)
      have HR3 : Hid (Row w3 ab (accB F t t) ∧ Row w3 av (catF F t)) := ⟨HRw.out.1.old b3, HRw.out.2.old b3⟩
      have HO3 : Hid (Ord w3) := HO.out.below HB3.out HO.out.pos
      have HSM : Calls Tryd.prog 14 #[.slice ax Q cx, .slice av Q cv] w3 fun e w' => e = .returned (.bool true) ∧ w' = w3 := by
        rw [ho] at hrow
        exact same_any ax av Q cx cv (catF F t) w3 HP.out.2 hrow HR3.out.2
      have HDn := done_any hd
      rw [hen] at HDn
      rw [hol, he]
      clear HPa hp hd hL hr hrow hle hcx b3 HRw HO1 ho he hen hol HB
      go_wp2_with fail
      refine HSM.mono ?_
      rintro e w4 ⟨rfl, hw⟩
      rw [hw]
      clear hw HSM
      go_wp2_with fail
      refine HDn.mono ?_
      rintro e w4 ⟨rfl, hw⟩
      rw [hw]
      clear hw HDn
      have hdec : decide (0 < t) = decide (0 < (t : Int)) := by
        by_cases h : 0 < t
        · simp [h]
        · simp [h]
      rw [hdec]
      rcases (show (m : Int) < (Q : Int) ∨ (Q : Int) < (m : Int) ∨ m = Q by omega) with hmq | hmq | hmq
      · have hlt1 : m ≤ Q := by omega
        by_cases hk0 : m = 0
        · go_wp2
          go_ret
          exact ⟨rfl, HB3.out⟩
        have hki : ((m : Nat) : Int) ≠ 0 := by omega
        have hkb : (((m : Nat) : Int) == 0) = false := by simp; omega
        obtain ⟨R, hR⟩ : ∃ R, Q - m = R := ⟨_, rfl⟩
        have hRi : (Q : Int) - (m : Int) = (R : Int) := by omega
        have hRl : R < Q ∧ R ≤ cv := by omega
        have HPb := all_posW ab cb (accB F t t) N R w3 (HR3.out.1) HBY.out.1 (by rw [HP.out.1]; omega) HCB.out (by exact hb3) (by rw [HP.out.1]; omega) (by omega) hN1.1 hN1.2 HO3.out
        rw [HP.out.1] at HPb
        go_wp2_with fail
        refine HPb.mono ?_
        rintro e w5 hp
        obtain ⟨r2, o2, d2, ay, cy, L2, rfl, hd2, hL2, hr2, hrow2, hle2, hcy, b5⟩ := hp.open
        obtain ⟨ho2, he2⟩ := stored_less F t R HBY.out.2 (by rw [HP.out.2]; omega) r2 hr2
        have hol : r2.out.length = R := by rw [ho2, List.length_take, HP.out.2]; omega
        have HSM2 : ∀ c, Calls Tryd.prog 14 #[.slice ay R cy, .slice av R c] w5 fun e w' => e = .returned (.bool true) ∧ w' = w5 := fun c => by
          rw [ho2] at hrow2
          exact same_any ay av R cy c ((catF F t).take R) w5 (by rw [List.length_take, HP.out.2]; omega) hrow2 ((HR3.out.2.old b5).take R)
        have HB5 : Hid (Below w.heap.size w w5) := HB3.out.trans (b5.mono HB3.out.size)
        rw [hol, he2]
        clear HPb hp hd2 hL2 hr2 hrow2 hle2 hcy b5 ho2 he2 hol
        go_wp2_with fail
        refine (HSM2 _).mono ?_
        rintro e w6 ⟨rfl, hw⟩
        rw [hw]
        clear hw HSM2
        go_wp2
        go_ret
        exact ⟨rfl, HB5.out⟩
      · have hlt1 : Q ≤ m := by omega
        by_cases hk0 : Q = 0
        · go_wp2
          go_ret
          exact ⟨rfl, HB3.out⟩
        have hki : ((Q : Nat) : Int) ≠ 0 := by omega
        have hkb : (((Q : Nat) : Int) == 0) = false := by simp; omega
        obtain ⟨R, hR⟩ : ∃ R, Q - Q = R := ⟨_, rfl⟩
        have hRi : (Q : Int) - (Q : Int) = (R : Int) := by omega
        have hRl : R < Q ∧ R ≤ cv := by omega
        have HPb := all_posW ab cb (accB F t t) N R w3 (HR3.out.1) HBY.out.1 (by rw [HP.out.1]; omega) HCB.out (by exact hb3) (by rw [HP.out.1]; omega) (by omega) hN1.1 hN1.2 HO3.out
        rw [HP.out.1] at HPb
        go_wp2_with fail
        refine HPb.mono ?_
        rintro e w5 hp
        obtain ⟨r2, o2, d2, ay, cy, L2, rfl, hd2, hL2, hr2, hrow2, hle2, hcy, b5⟩ := hp.open
        obtain ⟨ho2, he2⟩ := stored_less F t R HBY.out.2 (by rw [HP.out.2]; omega) r2 hr2
        have hol : r2.out.length = R := by rw [ho2, List.length_take, HP.out.2]; omega
        have HSM2 : ∀ c, Calls Tryd.prog 14 #[.slice ay R cy, .slice av R c] w5 fun e w' => e = .returned (.bool true) ∧ w' = w5 := fun c => by
          rw [ho2] at hrow2
          exact same_any ay av R cy c ((catF F t).take R) w5 (by rw [List.length_take, HP.out.2]; omega) hrow2 ((HR3.out.2.old b5).take R)
        have HB5 : Hid (Below w.heap.size w w5) := HB3.out.trans (b5.mono HB3.out.size)
        rw [hol, he2]
        clear HPb hp hd2 hL2 hr2 hrow2 hle2 hcy b5 ho2 he2 hol
        go_wp2_with fail
        refine (HSM2 _).mono ?_
        rintro e w6 ⟨rfl, hw⟩
        rw [hw]
        clear hw HSM2
        go_wp2
        go_ret
        exact ⟨rfl, HB5.out⟩
      · subst hmq
        by_cases hk0 : m = 0
        · go_wp2
          go_ret
          exact ⟨rfl, HB3.out⟩
        have hki : ((m : Nat) : Int) ≠ 0 := by omega
        have hkb : (((m : Nat) : Int) == 0) = false := by simp; omega
        obtain ⟨R, hR⟩ : ∃ R, m - m = R := ⟨_, rfl⟩
        have hRi : (m : Int) - (m : Int) = (R : Int) := by omega
        have hRl : R < m ∧ R ≤ cv := by omega
        have HPb := all_posW ab cb (accB F t t) N R w3 (HR3.out.1) HBY.out.1 (by rw [HP.out.1]; omega) HCB.out (by exact hb3) (by rw [HP.out.1]; omega) (by omega) hN1.1 hN1.2 HO3.out
        rw [HP.out.1] at HPb
        go_wp2_with fail
        refine HPb.mono ?_
        rintro e w5 hp
        obtain ⟨r2, o2, d2, ay, cy, L2, rfl, hd2, hL2, hr2, hrow2, hle2, hcy, b5⟩ := hp.open
        obtain ⟨ho2, he2⟩ := stored_less F t R HBY.out.2 (by rw [HP.out.2]; omega) r2 hr2
        have hol : r2.out.length = R := by rw [ho2, List.length_take, HP.out.2]; omega
        have HSM2 : ∀ c, Calls Tryd.prog 14 #[.slice ay R cy, .slice av R c] w5 fun e w' => e = .returned (.bool true) ∧ w' = w5 := fun c => by
          rw [ho2] at hrow2
          exact same_any ay av R cy c ((catF F t).take R) w5 (by rw [List.length_take, HP.out.2]; omega) hrow2 ((HR3.out.2.old b5).take R)
        have HB5 : Hid (Below w.heap.size w w5) := HB3.out.trans (b5.mono HB3.out.size)
        rw [hol, he2]
        clear HPb hp hd2 hL2 hr2 hrow2 hle2 hcy b5 ho2 he2 hol
        go_wp2_with fail
        refine (HSM2 _).mono ?_
        rintro e w6 ⟨rfl, hw⟩
        rw [hw]
        clear hw HSM2
        go_wp2
        go_ret
        exact ⟨rfl, HB5.out⟩
end Go.Proofs.YtomoolipegmlcaaDoor
