/- The bytes of an ack: its ranges, part by part. -/
import Derived.Test.YtaibojmaghmfnaaMgP
import Derived.Test.YtaibojmaghmfnaaHdE
import Derived.Test.YtaibojmaghmfnaaStepL
namespace Go.Proofs.Ytaibojmaghmfnaa
open Go.RowKit
theorem newBytes_freshM {w w' : World} {v : Value} {n : Nat} {zs : List Int} (h : w'.ownsRow w.heap.size 5 1 v n (vals zs)) (hb : Below w.heap.size w w') : ∃ a cap, v = .slice a n cap ∧ zs.length = n ∧ n ≤ cap ∧ cap ≤ maxLen ∧ (a = none → cap = 0) ∧ Row w' a zs ∧ Below w.heap.size w w' ∧ ∀ x, a = some x → w.heap.size ≤ x.block := by
  obtain ⟨a, cap, hv, h1, h2, h3, h4⟩ := row_of_owns h
  refine ⟨a, cap, hv, h1, h2, h3, ?_, h4, hb, owns_own h hv⟩
  intro e
  rcases h.2 with ⟨e2, e3⟩ | ⟨g, c2, cur, e2, _⟩
  · rw [hv] at e2; simp at e2; omega
  · rw [hv, e] at e2; simp at e2
set_option maxHeartbeats 800000 in
theorem putBigF_any (n v : Int) (w : World) : Calls Try.prog 20 #[.int .i64 n, .int .i64 v] w fun e w' => ∃ a cap, e = .returned (.slice a (put8 n) cap) ∧ (octs v (put8 n)).reverse.length = put8 n ∧ put8 n ≤ cap ∧ cap ≤ maxLen ∧ (a = none → cap = 0) ∧ Row w' a (octs v (put8 n)).reverse ∧ Below w.heap.size w w' ∧ ∀ x, a = some x → w.heap.size ≤ x.block := by
  have C := within_any n w
  have hm := put8_le n
  generalize put8 n = m at *
  obtain ⟨B, hB⟩ : ∃ B, B = w.heap.size := ⟨_, rfl⟩
  have HB : Hid (B = w.heap.size) := hB
  clear hB
  obtain ⟨i0, hi, hz0, hz1, hz2⟩ := info_parts Try.info5
  go_enter Try.func20, Try.ntmps20
  go_wp2_with fail
  refine C.mono ?_
  clear C
  rintro e w1 ⟨rfl, rfl⟩
  go_wp2_with (at_make; refine wpList_make_full _ rfl _ _ 24 rfl B 5 i0 (.int .u8 0) 1 Try.underlying24 hi hz0 hz1 .i64 .i64 _ _ m rfl rfl rfl rfl ?b2 ?b3 ?b4 ?_)
  case b2 => rw [hz2]; omega
  case b3 => unfold maxLen; omega
  case b4 => rw [HB.out]; exact Nat.le_refl _
  intro w2 hown hgrow
  rw [made_vals] at hown
  have hbel : Below B w1 w2 := (Below.refl _ _).grown hgrow (by rw [HB.out]; exact Nat.le_refl _) (fun k hk => by cases hk)
  obtain ⟨g, hg⟩ : ∃ g, g = w1.heap.size := ⟨_, rfl⟩
  rw [← hg]
  rw [← hg] at hown
  clear hg hgrow
  go_wp2
  go_loopw [6, 12] (fun _ c wr => ∃ k : Nat, k ≤ m ∧ c = .int .i64 k ∧ wr.ownsRow B 5 1 (.slice (some ⟨g, 0, none⟩) m m) m (vals (bigP v m k)) ∧ Below B w1 wr) (fun _ c _ => m - (intOf c).toNat)
  case atStart => exact ⟨0, Nat.zero_le _, rfl, by rw [bigP_zero]; exact hown, hbel⟩
  case round =>
    clear hown hbel
    obtain ⟨k, hk, rfl, hown, hbel⟩ := hrel
    by_cases hlt : k < m
    · have hcell := own_cell hown (show m - 1 - k < m by omega)
      have hfz := hown.frozenAt (m - 1 - k)
      have R := store_step hown hbel (by rw [HB.out]; exact Nat.le_refl _) (bigP_step v m k hlt)
      have HR : Hid _ := R
      clear R hown hbel
      go_wp2_with (go_at_call 43; refine (octet_any v k _ (by omega)).mono ?_; rintro e w3 ⟨rfl, rfl⟩)
      go_roundw
      case rel => exact ⟨k + 1, by omega, by go_num, HR.out.1, HR.out.2⟩
      case measure => simp [intOf]; omega
    · have : k = m := by omega
      subst this
      go_wp2
      go_ret
      rw [bigP_full] at hown
      rw [HB.out] at hown hbel
      obtain ⟨a, cap, q0, q1⟩ := newBytes_freshM hown hbel
      simp only [Value.slice.injEq, true_and] at q0
      obtain ⟨rfl, rfl⟩ := q0
      exact ⟨_, _, rfl, q1⟩
def BPn (w : World) (n : Nat) (l : List Int) (e : Ending) (w' : World) : Prop := ∃ a cap, e = .returned (.slice a n cap) ∧ BOk w' a n cap l ∧ Below w.heap.size w w' ∧ ∀ x, a = some x → w.heap.size ≤ x.block
theorem put_bpn (n : Nat) (hn : n ≤ 8) (v : Int) (w : World) : Calls Try.prog 20 #[.int .i64 n, .int .i64 v] w fun e w' => BPn w n (bg n v) e w' := by
  have e8 : put8 (n : Int) = n := by unfold put8; omega
  refine (putBigF_any n v w).mono ?_
  rw [e8]
  rintro e w' ⟨a, cap, rfl, h0, h1, h2, h3, h4, h5, h6⟩
  unfold maxLen at h2
  exact ⟨a, cap, rfl, ⟨h0, bg_byte n v, h1, by omega, h3, h4⟩, h5, h6⟩
theorem Try.infoBs : (Try.prog.info? 24).map (fun i => (i.zero, i.size, i.bytes)) = some (some (.slice none 0 0), 1, 24) := by kernel_rfl
def pvl (P : List Pt) : List Value := P.map fun q => .slice q.a q.z.length q.c
def catP (P : List Pt) : List Int := (P.map Pt.z).flatten
theorem catP_append (P Q : List Pt) : catP (P ++ Q) = catP P ++ catP Q := by simp [catP]
theorem pvl_append (P Q : List Pt) : pvl (P ++ Q) = pvl P ++ pvl Q := by simp [pvl]
theorem catP_F (P : List Pt) (q0 : Pt) : ∀ k, k ≤ P.length → catF (fun i => P[i]?.getD q0) k = catP (P.take k) := by
  intro k
  induction k with
  | zero => intro _; rfl
  | succ k ih =>
    intro hk
    rw [show catF (fun i => P[i]?.getD q0) (k + 1) = catF (fun i => P[i]?.getD q0) k ++ (P[k]?.getD q0).z from rfl, ih (by omega)]
    rw [List.take_succ_eq_append_getElem (by omega), catP_append]
    simp [catP, show k < P.length by omega]
/-- Parts that are gathered. -/
structure PaR (w0 w : World) (v : Value) (g : Option Nat) (P : List Pt) : Prop where
  sl : Sl w 24 v g (pvl P)
  ok : ∀ q ∈ P, PtOk w q
  ne : ∀ q ∈ P, ∀ x, q.a = some x → g ≠ some x.block
  lt : ∀ q ∈ P, ∀ x, q.a = some x → x.block < w.heap.size
  fr : ∀ k, g = some k → w0.heap.size ≤ k
  be : Below w0.heap.size w0 w
theorem PtOk.old {w w' : World} {q : Pt} (h : PtOk w q) (hb : Below w.heap.size w w') : PtOk w' q := ⟨h.1, h.2.1, h.2.2.1, h.2.2.2.1, h.2.2.2.2.old hb⟩
theorem PaR.old {w0 w w' : World} {v : Value} {g : Option Nat} {P : List Pt} (h : PaR w0 w v g P) (hb : Below w.heap.size w w') : PaR w0 w' v g P :=
  ⟨h.sl.same (fun k hk => hb.block k (h.sl.lt hk)), fun q hq => (h.ok q hq).old hb, h.ne, fun q hq x hx => Nat.lt_of_lt_of_le (h.lt q hq x hx) hb.size, h.fr, h.be.trans (hb.mono h.be.size)⟩
theorem PaR.push {w0 w w1 : World} {v v' : Value} {g g' : Option Nat} {P Q : List Pt} (h : PaR w0 w v g P) (hs : Sl w1 24 v' g' (pvl P ++ pvl Q)) (hg : g' = g ∨ ∃ k, g' = some k ∧ w.heap.size ≤ k) (hw : w.grownBy w1 g)
    (hq : ∀ q ∈ Q, PtOk w q ∧ (∀ x, q.a = some x → g ≠ some x.block) ∧ ∀ x, q.a = some x → x.block < w.heap.size) : PaR w0 w1 v' g' (P ++ Q) := by
  have hall : ∀ q ∈ P ++ Q, PtOk w q ∧ (∀ x, q.a = some x → g ≠ some x.block) ∧ ∀ x, q.a = some x → x.block < w.heap.size := by
    intro q hm
    rcases List.mem_append.1 hm with hm | hm
    · exact ⟨h.ok q hm, h.ne q hm, h.lt q hm⟩
    · exact hq q hm
  refine ⟨by rw [pvl_append]; exact hs, fun q hm => ?_, fun q hm x hx => ?_, fun q hm x hx => Nat.lt_of_lt_of_le ((hall q hm).2.2 x hx) hw.size, fun k hk => ?_, h.be.grown hw h.be.size h.fr⟩
  · obtain ⟨o1, o2, o3⟩ := hall q hm
    refine ⟨o1.1, o1.2.1, o1.2.2.1, o1.2.2.2.1, o1.2.2.2.2.same fun x hx _ => hw.block x.block (o3 x hx) fun e => o2 x hx e.symm⟩
  · obtain ⟨o1, o2, o3⟩ := hall q hm
    rcases hg with rfl | ⟨k, rfl, hk⟩
    · exact o2 x hx
    · intro e; have := o3 x hx; simp at e; omega
  · rcases hg with rfl | ⟨k', rfl, hk'⟩
    · exact h.fr k hk
    · cases hk; exact Nat.le_trans h.be.size hk'
theorem PaR.arg {w0 w : World} {v : Value} {g : Option Nat} {P : List Pt} (h : PaR w0 w v g P) (hP : P ≠ []) : ∃ b off cap, v = .slice (some ⟨b, off, none⟩) P.length cap ∧ PtArg w (some ⟨b, off, none⟩) P.length cap (fun i => P[i]?.getD ⟨none, 0, []⟩) := by
  have hl : (pvl P).length = P.length := by simp [pvl]
  rcases h.sl with ⟨_, _, e⟩ | ⟨b, off, cap, cur, rfl, hg, hh, h1, h2, h3, hc⟩
  · exact absurd (by simpa [pvl] using e) hP
  · refine ⟨b, off, cap, by rw [hl], by rw [← hl]; exact h2, h3, fun hpos => ⟨b, off, rfl, fun i hi => ?_⟩⟩
    have e : P[i]?.getD ⟨none, 0, []⟩ = P[i] := by simp [hi]
    dsimp only
    rw [e]
    refine ⟨?_, h.ok _ (List.getElem_mem hi)⟩
    have := hc i (by rw [hl]; exact hi)
    simp only [World.cell?, hh]
    simp [this, pvl, hi]
theorem Row.ltb {w : World} {a : Option Addr} {n c : Nat} {l : List Int} (h : BOk w a n c l) (hn : 1 ≤ n) : ∀ x, a = some x → x.block < w.heap.size := fun x hx => h.2.2.2.2.2.lt x hx (by intro e; have := h.1; rw [e] at this; simp at this; omega)
/-- The bytes of ranges. -/
def rgB (G : List (Int × Int)) : List Int := (G.map fun p => bg 4 p.1 ++ bg 4 p.2).flatten
theorem rgB_snoc (G : List (Int × Int)) (k : Nat) (hk : k < G.length) : rgB (G.take (k + 1)) = rgB (G.take k) ++ (bg 4 (gx G k) ++ bg 4 (gy G k)) := by
  rw [List.take_succ_eq_append_getElem hk]
  have e : G[k]?.getD (0, 0) = G[k] := by simp [hk]
  unfold gx gy
  rw [e]
  simp only [rgB, List.map_append, List.map_cons, List.map_nil, List.flatten_append, List.flatten_cons, List.flatten_nil, List.append_nil]
def by_ack (m : Ms) (G : List (Int × Int)) : List Int := bg 4 m.ix ++ bg 1 m.rn ++ rgB G
theorem rgB_len (G : List (Int × Int)) : (rgB G).length = 8 * G.length := by
  induction G with
  | nil => rfl
  | cons p r ih => simp only [rgB, List.map_cons, List.flatten_cons, List.length_append, bg_len] at ih ⊢; rw [ih]; simp; omega
theorem rgB_byte (G : List (Int × Int)) : Bytes (rgB G) := by
  induction G with
  | nil => exact Bytes.nil
  | cons p r ih => simp only [rgB, List.map_cons, List.flatten_cons] at ih ⊢; exact ((bg_byte 4 _).append (bg_byte 4 _)).append ih
/-- What is gathered when k ranges have been gone over. -/
def AcR (w : World) (c : Array Value) (L0 L1 : List Int) (G : List (Int × Int)) (k : Nat) (v : Value) (wr : World) : Prop := ∃ g P, PaR w wr v g P ∧ P.length = 2 + 2 * k ∧ catP P = L0 ++ L1 ++ rgB (G.take k) ∧ QM w c wr
theorem QM.grown {w w1 w2 : World} {c : Array Value} {v : Value} {g : Option Nat} {xs : List Value} (h : QM w c w1) (sl : Sl w1 24 v g xs) (hg : w1.grownBy w2 g) (fr : ∀ k, g = some k → w.heap.size ≤ k) : QM w c w2 := by
  refine ⟨h.1.grown hg h.1.size fr, (hg.block _ (lt_of_block h.2) ?_).trans h.2⟩
  intro e
  rcases sl with ⟨_, hn, _⟩ | ⟨b, off, cap, cur, _, hb, hh, _⟩
  · rw [hn] at e; cases e
  · rw [hb] at e
    cases e
    rw [h.2] at hh
    simp at hh
theorem step_two {w0 w1 : World} {ops : Array Oper} {o : Oper} {a : Act} {K : Act → World → Prop} {Q : Exit → Act → World → Prop} {E : Prop} (hgd : o.guard = none) (s x : Operand)
    (ho : o.op = .call { callee := .builtin .append, args := #[s, x], argTypes := #[64, 64] })
    (v : Value) (g : Option Nat) (P : List Pt) (hs : a.eval s = v) (hx : a.eval x = .slice (some ⟨w1.heap.size, 0, none⟩) 2 2) (hp : PaR w0 w1 v g P) (hl : P.length ≤ 1000)
    (aX : Option Addr) (cX : Nat) (X : List Int) (hX : BOk w1 aX 4 cX X) (fX : ∀ x, aX = some x → g ≠ some x.block)
    (aZ : Option Addr) (cZ : Nat) (Z : List Int) (hZ : BOk w1 aZ 4 cZ Z) (fZ : ∀ x, aZ = some x → g ≠ some x.block)
    (h : ∀ v' w' g', PaR w0 w' v' g' (P ++ [⟨aX, cX, X⟩, ⟨aZ, cZ, Z⟩]) → (w1.alloc (.cells #[.slice aX 4 cX, .slice aZ 4 cZ] 24)).grownBy w' g → K (a.put o.dst v') w') :
    if Region.wanted o (yielded ops a.tmps) = true then Oper.wp Try.prog o a (w1.alloc (.cells #[.slice aX 4 cX, .slice aZ 4 cZ] 24)) K Q else E := by
  have hA : Below w1.heap.size w1 (w1.alloc (.cells #[.slice aX 4 cX, .slice aZ 4 cZ] 24)) := (Below.refl _ _).alloc (Nat.le_refl _) _
  obtain ⟨i0, hi, hz0, hz1, hz2⟩ := info_parts Try.infoBs
  have hpl : (pvl P).length = P.length := by simp [pvl]
  refine step_of_list hgd (wpList_append_sl hgd s x 64 ho 24 i0 (.slice none 0 0) 24 Try.underlying64 hi hz0 hz1 hz2 rfl v g (pvl P) hs (hp.old hA).sl ⟨w1.heap.size, 0, none⟩ 2 2 [.slice aX 4 cX, .slice aZ 4 cZ] hx rfl ?_ ?_ (by omega) (by unfold maxLen; omega) ?_)
  · intro j u hj
    match j, hj with
    | 0, hj => simp at hj; subst hj; rw [Addr.add_lit, World.cell?_alloc_mark]; rfl
    | 1, hj => simp at hj; subst hj; rw [Addr.add_lit, World.cell?_alloc_mark]; rfl
  · intro u hu
    simp only [List.mem_cons, List.not_mem_nil, or_false] at hu
    rcases hu with rfl | rfl <;> rfl
  · intro v' w' g' h1 h2 h3
    refine ⟨rfl, h v' w' g' ((hp.old hA).push (Q := [⟨aX, cX, X⟩, ⟨aZ, cZ, Z⟩]) ?_ h2 h3 ?_) h3⟩
    · have : pvl [⟨aX, cX, X⟩, ⟨aZ, cZ, Z⟩] = [.slice aX 4 cX, .slice aZ 4 cZ] := by simp [pvl, hX.1, hZ.1]
      rw [this]; exact h1
    · intro q hq
      simp only [List.mem_cons, List.not_mem_nil, or_false] at hq
      rcases hq with rfl | rfl
      · exact ⟨(hX.old hA).pt, fX, fun x hx => Nat.lt_of_lt_of_le (Row.ltb hX (by omega) x hx) hA.size⟩
      · exact ⟨(hZ.old hA).pt, fZ, fun x hx => Nat.lt_of_lt_of_le (Row.ltb hZ (by omega) x hx) hA.size⟩
set_option maxHeartbeats 6400000 in
theorem put_ack (m : Ms) (G : List (Int × Int)) (w : World) (hg : RgR w m.ra G) (hn : G.length = m.rn) (hr : m.rn ≤ 4) : Calls Try.prog 73 #[m.V] w fun e w' => BP w (5 + 8 * m.rn) (by_ack m G) e w' := by
  have HQ : Hid (QM w m.c12 _) := QM.box w m.c12
  have HG : Hid (∀ u, QM w m.c12 u → RgR u m.ra G) := fun u hu => hg.old hu.1
  have HN : Hid (G.length = m.rn) := hn
  have P0 : Hid (∀ u, QM w m.c12 u → Calls Try.prog 20 #[.int .i64 4, .int .i64 m.ix] u fun e w' => BPn u 4 (bg 4 m.ix) e w' ∧ QM w m.c12 w') := fun u hu => (put_bpn 4 (by omega) m.ix u).mono fun e w' q => ⟨q, by obtain ⟨_, _, _, _, b, _⟩ := q; exact hu.old b⟩
  have P1 : Hid (∀ u, QM w m.c12 u → Calls Try.prog 20 #[.int .i64 1, .int .i64 m.rn] u fun e w' => BPn u 1 (bg 1 m.rn) e w' ∧ QM w m.c12 w') := fun u hu => (put_bpn 1 (by omega) m.rn u).mono fun e w' q => ⟨q, by obtain ⟨_, _, _, _, b, _⟩ := q; exact hu.old b⟩
  have HE : Hid (by_ack m G = bg 4 m.ix ++ bg 1 m.rn ++ rgB G) := rfl
  have hlen : (by_ack m G).length = 5 + 8 * m.rn := by rw [HE.out, List.length_append, List.length_append, bg_len, bg_len, rgB_len, hn]
  have hbyt : Bytes (by_ack m G) := ((bg_byte _ _).append (bg_byte _ _)).append (rgB_byte _)
  have HL : Hid ((by_ack m G).length = 5 + 8 * m.rn ∧ Bytes (by_ack m G)) := ⟨hlen, hbyt⟩
  clear hg hn hlen hbyt
  generalize by_ack m G = LL at *
  obtain ⟨k, bo, fi, su, si, ap, bd, ix, pa, co, ra, rn, rc, da, dn, dc⟩ := m
  unfold Ms.V at *
  unfold Ms.c12 at *
  simp only at *
  obtain ⟨L0, e0⟩ : ∃ L, bg 4 ix = L := ⟨_, rfl⟩
  obtain ⟨L1, e1⟩ : ∃ L, bg 1 (rn : Int) = L := ⟨_, rfl⟩
  rw [e0] at P0 HE
  rw [e1] at P1 HE
  clear e0 e1
  go_enter Try.func73, Try.ntmps73
  have q0 := HQ.out.2
  obtain ⟨d0, d1, d2, d3, d4, d5, d6, d7, d8, d9, d10, d11⟩ := twelve_cells q0
  clear q0
  go_upto_region 1 with fail
  have HQ0 : Hid (QM w #[.int .i64 k, .int .u32 bo, .int .i64 fi, .int .u32 su, .int .i64 si, .int .i64 ap, .int .i64 bd, .int .i64 ix, .int .i64 pa, .int .i64 co, .slice ra rn rc, .slice da dn dc] (w.alloc (.cells #[.int .i64 k, .int .u32 bo, .int .i64 fi, .int .u32 su, .int .i64 si, .int .i64 ap, .int .i64 bd, .int .i64 ix, .int .i64 pa, .int .i64 co, .slice ra rn rc, .slice da dn dc] 26)).drew) := HQ.out.old ⟨rfl, rfl, rfl, Nat.le_refl _, fun _ _ => rfl⟩
  go_region_held3 (fun u => u.cell? ⟨w.heap.size, 7, none⟩ = some (.int .i64 ix) ∧ u.cell? ⟨w.heap.size, 10, none⟩ = some (.slice ra rn rc))
    (first | (with_reducible exact ⟨by with_reducible assumption, by with_reducible assumption⟩) | go_keep) (first
      | (go_at_call 20; (with_reducible refine Calls.mono (P0.out _ HQ0.out) ?_); rintro e x0 ⟨⟨a0, c0, rfl, ok0, bl0, fr0⟩, q0⟩; have HO0 : Hid (BOk x0 a0 4 c0 L0) := ok0; have HF0 : Hid (∀ x, a0 = some x → w.heap.size ≤ x.block) := (fun x hx => by have := fr0 x hx; have := HQ0.out.1.size; omega); have HQ1 : Hid (QM w #[.int .i64 k, .int .u32 bo, .int .i64 fi, .int .u32 su, .int .i64 si, .int .i64 ap, .int .i64 bd, .int .i64 ix, .int .i64 pa, .int .i64 co, .slice ra rn rc, .slice da dn dc] x0) := q0; obtain ⟨g0_0, g0_1, g0_2, g0_3, g0_4, g0_5, g0_6, g0_7, g0_8, g0_9, g0_10, g0_11⟩ := twelve_cells q0.2; clear ok0 bl0 fr0 q0)
      | (go_at_call 20; (with_reducible refine Calls.mono (P1.out _ HQ1.out) ?_); rintro e x1 ⟨⟨a1, c1, rfl, ok1, bl1, fr1⟩, q1⟩; have HO1 : Hid (BOk x1 a1 1 c1 L1) := ok1; have HO01 : Hid (BOk x1 a0 4 c0 L0) := HO0.out.old bl1; have HQ2 : Hid (QM w #[.int .i64 k, .int .u32 bo, .int .i64 fi, .int .u32 su, .int .i64 si, .int .i64 ap, .int .i64 bd, .int .i64 ix, .int .i64 pa, .int .i64 co, .slice ra rn rc, .slice da dn dc] x1) := q1; obtain ⟨g1_0, g1_1, g1_2, g1_3, g1_4, g1_5, g1_6, g1_7, g1_8, g1_9, g1_10, g1_11⟩ := twelve_cells q1.2; clear ok1 bl1 fr1 q1)
      | fail)
  have HP : Hid (AcR w #[.int .i64 k, .int .u32 bo, .int .i64 fi, .int .u32 su, .int .i64 si, .int .i64 ap, .int .i64 bd, .int .i64 ix, .int .i64 pa, .int .i64 co, .slice ra rn rc, .slice da dn dc] L0 L1 G 0 (.slice (some ⟨x1.heap.size, 0, none⟩) 2 2) (x1.alloc (.cells #[.slice a0 4 c0, .slice a1 1 c1] 24))) := by
    have hA : Below x1.heap.size x1 (x1.alloc (.cells #[.slice a0 4 c0, .slice a1 1 c1] 24)) := (Below.refl _ _).alloc (Nat.le_refl _) _
    have k0 := HO01.out
    have k1 := HO1.out
    have l0 := Row.ltb k0 (by omega)
    have l1 := Row.ltb k1 (by omega)
    refine ⟨some x1.heap.size, [⟨a0, c0, L0⟩, ⟨a1, c1, L1⟩], ⟨.inr ⟨x1.heap.size, 0, 2, _, rfl, rfl, heap_alloc_new _ _, Nat.le_refl _, Nat.le_refl _, by unfold maxLen; omega, ?_⟩, ?_, ?_, ?_, ?_, ?_⟩, rfl, by simp [catP, rgB], HQ2.out.old hA⟩
    · intro i hi
      match i, hi with
      | 0, _ => simp [pvl, k0.1]
      | 1, _ => simp [pvl, k1.1]
    · intro q hq
      simp only [List.mem_cons, List.not_mem_nil, or_false] at hq
      rcases hq with rfl | rfl
      · exact (k0.old hA).pt
      · exact (k1.old hA).pt
    · intro q hq x hx
      simp only [List.mem_cons, List.not_mem_nil, or_false] at hq
      rcases hq with rfl | rfl
      · have := l0 x hx; intro e; simp at e; omega
      · have := l1 x hx; intro e; simp at e; omega
    · intro q hq x hx
      simp only [List.mem_cons, List.not_mem_nil, or_false] at hq
      rcases hq with rfl | rfl
      · exact Nat.lt_of_lt_of_le (l0 x hx) hA.size
      · exact Nat.lt_of_lt_of_le (l1 x hx) hA.size
    · intro k hk; cases hk; exact HQ2.out.1.size
    · exact HQ2.out.1.trans (hA.mono HQ2.out.1.size)
  have HW : Hid (∀ i, i ∈ ([7, 10] : List Nat) → True) := fun _ _ => trivial
  clear HO0 HO1 HO01 HF0 HQ1 HQ0 P0 P1 HW
  generalize x1.alloc (.cells #[.slice a0 4 c0, .slice a1 1 c1] 24) = y at *
  generalize (Value.slice (some ⟨x1.heap.size, 0, none⟩) 2 2) = v0 at *
  obtain ⟨g9, P9, hp9, hl9, hc9, hq9⟩ := HP.out
  clear hp9 hl9 hc9 g1_0 g1_1 g1_2 g1_3 g1_4 g1_5 g1_6 g1_7 g1_8 g1_9 g1_10 g1_11 g0_0 g0_1 g0_2 g0_3 g0_4 g0_5 g0_6 g0_7 g0_8 g0_9 g0_10 g0_11
  obtain ⟨y0, y1, y2, y3, y4, y5, y6, y7, y8, y9, y10, y11⟩ := twelve_cells hq9.2
  clear hq9
  go_wp2
  go_loopw [3, 5, 17] (fun v _ t wr => ∃ j : Nat, j ≤ rn ∧ t = .int .i64 j ∧ AcR w #[.int .i64 k, .int .u32 bo, .int .i64 fi, .int .u32 su, .int .i64 si, .int .i64 ap, .int .i64 bd, .int .i64 ix, .int .i64 pa, .int .i64 co, .slice ra rn rc, .slice da dn dc] L0 L1 G j v wr) (fun _ _ t _ => rn - (intOf t).toNat)
  case atStart => exact ⟨0, Nat.zero_le _, rfl, HP.out⟩
  case round =>
    clear HP y0 y1 y2 y3 y4 y5 y6 y7 y8 y9 y10 y11
    obtain ⟨t, ht, rfl, HA⟩ := hrel
    have HAc : Hid (AcR w #[.int .i64 k, .int .u32 bo, .int .i64 fi, .int .u32 su, .int .i64 si, .int .i64 ap, .int .i64 bd, .int .i64 ix, .int .i64 pa, .int .i64 co, .slice ra rn rc, .slice da dn dc] L0 L1 G t u3 wr) := HA
    clear HA
    by_cases hlt : t < rn
    · obtain ⟨g, P, hp, hl, hc, hq⟩ := HAc.out
      have HPr : Hid (PaR w wr u3 g P) := hp
      have HPl : Hid (P.length = 2 + 2 * t ∧ catP P = L0 ++ L1 ++ rgB (G.take t)) := ⟨hl, hc⟩
      have HQr : Hid (QM w #[.int .i64 k, .int .u32 bo, .int .i64 fi, .int .u32 su, .int .i64 si, .int .i64 ap, .int .i64 bd, .int .i64 ix, .int .i64 pa, .int .i64 co, .slice ra rn rc, .slice da dn dc] wr) := hq
      have hG := HG.out wr hq
      obtain ⟨b, off, rfl, hcs⟩ : ∃ b off, ra = some ⟨b, off, none⟩ ∧ ∀ i, i < G.length → wr.cell? ⟨b, off + i * 2, none⟩ = some (.int .i64 (gx G i)) ∧ wr.cell? ⟨b, off + i * 2 + 1, none⟩ = some (.int .i64 (gy G i)) := by
        rcases hG with e | e
        · have := HN.out; rw [e] at this; simp at this; omega
        · exact e
      obtain ⟨c0, c1⟩ := hcs t (by rw [HN.out]; exact hlt)
      have HS : Hid (rgB (G.take (t + 1)) = rgB (G.take t) ++ (bg 4 (gx G t) ++ bg 4 (gy G t))) := rgB_snoc G t (by rw [HN.out]; exact hlt)
      clear hp hl hc hq hG hcs HAc
      obtain ⟨x, hx⟩ : ∃ x, gx G t = x := ⟨_, rfl⟩
      obtain ⟨z, hz⟩ : ∃ z, gy G t = z := ⟨_, rfl⟩
      rw [hx] at c0 HS
      rw [hz] at c1 HS
      clear hx hz
      obtain ⟨X, hX⟩ : ∃ X, bg 4 x = X := ⟨_, rfl⟩
      obtain ⟨Z, hZ⟩ : ∃ Z, bg 4 z = Z := ⟨_, rfl⟩
      have PX : Hid (∀ u, Calls Try.prog 20 #[.int .i64 4, .int .i64 x] u fun e w' => BPn u 4 X e w') := fun u => by rw [← hX]; exact put_bpn 4 (by omega) x u
      have PZ : Hid (∀ u, Calls Try.prog 20 #[.int .i64 4, .int .i64 z] u fun e w' => BPn u 4 Z e w') := fun u => by rw [← hZ]; exact put_bpn 4 (by omega) z u
      rw [hX, hZ] at HS
      clear hX hZ
      go_upto_region 5 with fail
      have HU : Hid (Below wr.heap.size wr (wr.alloc (.cells #[.int .i64 x, .int .i64 z] 53)).drew) := ⟨rfl, rfl, rfl, by simp, fun k hk => ((Below.refl _ wr).alloc (Nat.le_refl _) _).block k hk⟩
      have HPU : Hid (PaR w (wr.alloc (.cells #[.int .i64 x, .int .i64 z] 53)).drew u3 g P) := HPr.out.old HU.out
      have HQU : Hid (QM w #[.int .i64 k, .int .u32 bo, .int .i64 fi, .int .u32 su, .int .i64 si, .int .i64 ap, .int .i64 bd, .int .i64 ix, .int .i64 pa, .int .i64 co, .slice (some ⟨b, off, none⟩) rn rc, .slice da dn dc] (wr.alloc (.cells #[.int .i64 x, .int .i64 z] 53)).drew) := HQr.out.old HU.out
      have HGl : Hid (∀ k, g = some k → k < wr.heap.size) := fun k hk => HPr.out.sl.lt hk
      have k0 : (wr.alloc (.cells #[.int .i64 x, .int .i64 z] 53)).drew.cell? ⟨wr.heap.size, 0, none⟩ = some (.int .i64 x) := by show (wr.alloc _).cell? _ = _; rw [World.cell?_alloc_mark]; rfl
      have k1 : (wr.alloc (.cells #[.int .i64 x, .int .i64 z] 53)).drew.cell? ⟨wr.heap.size, 1, none⟩ = some (.int .i64 z) := by show (wr.alloc _).cell? _ = _; rw [World.cell?_alloc_mark]; rfl
      have HZ : Hid (wr.heap.size < (wr.alloc (.cells #[.int .i64 x, .int .i64 z] 53)).drew.heap.size) := by show _ < (wr.alloc _).heap.size; simp
      obtain ⟨U, hU⟩ : ∃ U, U = (wr.alloc (.cells #[.int .i64 x, .int .i64 z] 53)).drew := ⟨_, rfl⟩
      go_region_held3 (fun u => u.cell? ⟨wr.heap.size, 0, none⟩ = some (.int .i64 x) ∧ u.cell? ⟨wr.heap.size, 1, none⟩ = some (.int .i64 z))
        (first | (with_reducible exact ⟨by with_reducible assumption, by with_reducible assumption⟩) | go_keep) (first
          | (go_at_call 20; (with_reducible refine Calls.mono (PX.out _) ?_); rintro e x0 ⟨aX, cX, rfl, okX, blX, frX⟩; have HX0 : Hid (BOk x0 aX 4 cX X) := okX; have HFX : Hid (∀ x, aX = some x → g ≠ some x.block) := (fun x hx e => by have := frX x hx; have := HGl.out _ e; have := HZ.out; simp at *; omega); have HPX : Hid (PaR w x0 u3 g P) := HPU.out.old blX; have HQX : Hid (QM w #[.int .i64 k, .int .u32 bo, .int .i64 fi, .int .u32 su, .int .i64 si, .int .i64 ap, .int .i64 bd, .int .i64 ix, .int .i64 pa, .int .i64 co, .slice (some ⟨b, off, none⟩) rn rc, .slice da dn dc] x0) := HQU.out.old blX; have HZX : Hid (wr.heap.size < x0.heap.size) := Nat.lt_of_lt_of_le HZ.out blX.size; have r0 := (blX.cell (p := ⟨wr.heap.size, 0, none⟩) HZ.out).trans k0; have r1 := (blX.cell (p := ⟨wr.heap.size, 1, none⟩) HZ.out).trans k1; clear okX blX frX)
          | (go_at_call 20; (with_reducible refine Calls.mono (PZ.out _) ?_); rintro e x1 ⟨aZ, cZ, rfl, okZ, blZ, frZ⟩; have HX1 : Hid (BOk x1 aX 4 cX X) := HX0.out.old blZ; have HZ1 : Hid (BOk x1 aZ 4 cZ Z) := okZ; have HFZ : Hid (∀ x, aZ = some x → g ≠ some x.block) := (fun x hx e => by have := frZ x hx; have := HGl.out _ e; have := HZX.out; omega); have HPZ : Hid (PaR w x1 u3 g P) := HPX.out.old blZ; have HQZ : Hid (QM w #[.int .i64 k, .int .u32 bo, .int .i64 fi, .int .u32 su, .int .i64 si, .int .i64 ap, .int .i64 bd, .int .i64 ix, .int .i64 pa, .int .i64 co, .slice (some ⟨b, off, none⟩) rn rc, .slice da dn dc] x1) := HQX.out.old blZ; have HZZ : Hid (wr.heap.size < x1.heap.size) := Nat.lt_of_lt_of_le HZX.out blZ.size; have r2 := (blZ.cell (p := ⟨wr.heap.size, 0, none⟩) HZX.out).trans r0; have r3 := (blZ.cell (p := ⟨wr.heap.size, 1, none⟩) HZX.out).trans r1; clear okZ blZ frZ)
          | (refine step_two rfl _ _ rfl u3 g P rfl rfl HPZ.out (by have := HPl.out.1; omega) aX cX X HX1.out HFX.out aZ cZ Z HZ1.out HFZ.out ?_; intro v9 w9 g9 hp9 hg9; have HP9 : Hid (PaR w w9 v9 g9 (P ++ [⟨aX, cX, X⟩, ⟨aZ, cZ, Z⟩])) := hp9; have HQ9 : Hid (QM w #[.int .i64 k, .int .u32 bo, .int .i64 fi, .int .u32 su, .int .i64 si, .int .i64 ap, .int .i64 bd, .int .i64 ix, .int .i64 pa, .int .i64 co, .slice (some ⟨b, off, none⟩) rn rc, .slice da dn dc] w9) := (HQZ.out.old ((Below.refl _ _).alloc (Nat.le_refl _) _)).grown (HPZ.out.old ((Below.refl _ _).alloc (Nat.le_refl _) _)).sl hg9 HPZ.out.fr; have r4 := (World.cell?_of_block (a := ⟨wr.heap.size, 0, none⟩) ((hg9.block wr.heap.size (by have := HZZ.out; simp; omega) (fun e => by have := HGl.out _ e.symm; omega)).trans (Below.heap_alloc x1 _ wr.heap.size HZZ.out))).trans r2; have r5 := (World.cell?_of_block (a := ⟨wr.heap.size, 1, none⟩) ((hg9.block wr.heap.size (by have := HZZ.out; simp; omega) (fun e => by have := HGl.out _ e.symm; omega)).trans (Below.heap_alloc x1 _ wr.heap.size HZZ.out))).trans r3; clear hp9 hg9)
          | fail)
      have HR : Hid (AcR w #[.int .i64 k, .int .u32 bo, .int .i64 fi, .int .u32 su, .int .i64 si, .int .i64 ap, .int .i64 bd, .int .i64 ix, .int .i64 pa, .int .i64 co, .slice (some ⟨b, off, none⟩) rn rc, .slice da dn dc] L0 L1 G (t + 1) v9 w9) := ⟨g9, _, HP9.out, by rw [List.length_append, HPl.out.1]; simp; omega, by rw [catP_append, HPl.out.2, HS.out]; simp [catP], HQ9.out⟩
      clear HX0 HFX HPX HQX HZX HX1 HZ1 HFZ HPZ HQZ HZZ HP9 HQ9 HPr HPl HQr HGl HPU HQU HU
      go_wp2
      go_roundw
      case rel => exact ⟨t + 1, by omega, by go_num, HR.out⟩
      case measure => simp [intOf]; omega
    · obtain rfl : t = rn := by omega
      obtain ⟨g, P, hp, hl, hc, hq⟩ := HAc.out
      have hne : P ≠ [] := by intro e; rw [e] at hl; simp at hl; omega
      obtain ⟨b, off, cap, hv, harg⟩ := hp.arg hne
      have hcat : catF (fun i => P[i]?.getD ⟨none, 0, []⟩) P.length = LL := by
        rw [catP_F P _ _ (Nat.le_refl _), List.take_length, hc, HE.out, List.take_of_length_le (by rw [HN.out]; exact Nat.le_refl _)]
      have C := concat_any (some ⟨b, off, none⟩) P.length cap _ wr harg (by rw [hcat, HL.out.1]; omega) (by rw [hcat, HL.out.1]; omega)
      rw [hcat] at C
      have HC : Hid (Calls Try.prog 19 #[u3] wr fun e w' => NewBytes wr LL e w') := by rw [hv]; exact C
      have HB : Hid (Below w.heap.size w wr) := hq.1
      clear hp hl hc hq hne hv harg hcat C HAc
      go_wp2_with (go_at_call 19; refine Calls.mono HC.out ?_; rintro e w9 ⟨a9, c9, rfl, q1, q2, q3, q4, q5⟩; have HF : Hid (BP w (5 + 8 * t) LL (.returned (.slice a9 LL.length c9)) w9) := ⟨a9, c9, by rw [HL.out.1], ⟨HL.out.1, HL.out.2, by rw [← HL.out.1]; exact q1, by unfold maxLen at q2; omega, q3, q4⟩, HB.out.trans (q5.mono HB.out.size)⟩; clear q1 q2 q3 q4 q5)
      go_ret
      exact HF.out
end Go.Proofs.Ytaibojmaghmfnaa
