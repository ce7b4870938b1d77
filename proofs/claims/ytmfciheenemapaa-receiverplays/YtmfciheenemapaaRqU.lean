/- The document's receiver: Take of an item that may come. -/
import Derived.Test.YtmfciheenemapaaRqS
namespace Go.Proofs.Ytmfciheenemapaa
open Go.RowKit
def xOut (A : Nat → Pt) (T T' : Nat) : List Pt := (List.range (T' - T)).map (fun j => A (T + j))
theorem xOut_snoc (A : Nat → Pt) (T k : Nat) (h : T ≤ k) : pvl (xOut A T (k + 1)) = pvl (xOut A T k) ++ [.slice (A k).a (A k).z.length (A k).c] := by
  unfold xOut pvl
  rw [show k + 1 - T = (k - T) + 1 by omega, List.range_succ, List.map_append, List.map_append]
  simp only [List.map_cons, List.map_nil]
  rw [show T + (k - T) = k by omega]
  rfl
def XtP (w : World) (c cb ib N : Nat) (W : Int) (A : Nat → Pt) (S : Nat → Bool) (T T' I : Nat) (zs : List Int) (e : Ending) (w' : World) : Prop :=
  ∃ (q : Pt) (a' : Option Addr) (c' : Nat), q.z = zs ∧ (∀ x, q.a = some x → q.z ≠ [] → w.heap.size ≤ x.block) ∧ e = .returned (.tuple #[.slice a' (T' - T) c', .bool true]) ∧ PsM w' a' (xOut (updR A I q) T T') ∧ (∀ x, a' = some x → w.heap.size ≤ x.block) ∧ Rx w' c cb ib N W (updR A I q) (updR S I true) ∧ F2 cb ib w w'
theorem ps_of_sl {w : World} {a : Option Addr} {n c : Nat} {g : Option Nat} {P : List Pt} (h1 : Sl w 32 (.slice a n c) g (pvl P)) (h3 : ∀ q ∈ P, PtOk w q) : PsM w a P := by
  cases P with
  | nil => exact .inl rfl
  | cons p r =>
    rcases h1 with ⟨_, _, e⟩ | ⟨ob, off, cap, cur, e, eg, hh, q1, q2, q3, q4⟩
    · simp [pvl] at e
    · simp only [Value.slice.injEq] at e
      refine .inr ⟨ob, off, e.1, fun i q hq => ⟨?_, h3 q (List.mem_of_getElem? hq)⟩⟩
      have hi : i < (pvl (p :: r)).length := by
        obtain ⟨hi, _⟩ := List.getElem?_eq_some_iff.1 hq
        unfold pvl
        rw [List.length_map]
        exact hi
      have := q4 i hi
      simp only [World.cell?, hh]
      rw [this]
      unfold pvl
      rw [List.getElem?_map, hq]
      rfl
set_option maxRecDepth 20000 in
set_option maxHeartbeats 16000000 in
theorem xtake_yes {w : World} {c cb ib N : Nat} {W : Int} {A : Nat → Pt} {S : Nat → Bool} {T : Nat} (h : Rx w c cb ib N W A S) (hT : FstX N T S) (I : Nat) (hI1 : T ≤ I) (hI2 : I < N) (hI3 : (I : Int) - T < W) (hS : S I = false) {a : Option Addr} {n cc : Nat} {zs : List Int} (hn : zs.length = n) (hnil : a = none → cc = 0) (hl : n ≤ 1000000) (hb : Bytes zs) (hr : Row w a zs) (T' : Nat) (hT' : FstX N T' (updR S I true)) (hTT : T ≤ T') :
    Calls Try.prog 12 #[.pointer (some ⟨c, 0, none⟩), .int .i64 (I : Int), .slice a n cc] w fun e w' => XtP w c cb ib N W A S T T' I zs e w' := by
  obtain ⟨i0, hi, hz0, hz1, hz2⟩ := info_parts Try.infoBs
  obtain ⟨k0, k1, k2⟩ := rx_cells h.ce
  have C1 := xnext_any h hT
  have hnb := h.nb.1
  have hnn := h.ne
  have hlt := h.cm.lt
  obtain ⟨y1, y2, y3, y4⟩ := h.cm.cells hI2
  rw [hS] at y2
  have hi1 : ¬ (I : Int) < (T : Int) := by omega
  have hi2 : ¬ (N : Int) ≤ (I : Int) := by omega
  have hi3 : ¬ W ≤ (I : Int) - T := by omega
  have hi4 : (I : Int) < (N : Int) := by omega
  have hTN := hT.1
  have cm1 := h.cm.setS hI2
  obtain ⟨n1, n2⟩ := h.cm.noby
  have hr1 : Row (w.setCell ⟨ib, I, none⟩ (.bool true)) a zs := hr.same fun x hx hz => Below.heap_setCell w _ _ x.block (fun e => n2.row hr hz x hx e)
  have hc1 : (w.setCell ⟨ib, I, none⟩ (.bool true)).heap[c]? = _ := (Below.heap_setCell w _ (.bool true) c (fun e => hnn.2 e)).trans h.ce
  have HX1 : Hid (Rx (w.setCell ⟨ib, I, none⟩ (.bool true)) c cb ib N W A (updR S I true)) := ⟨hc1, cm1, h.ne, h.nb⟩
  have HR1 : Hid (Row (w.setCell ⟨ib, I, none⟩ (.bool true)) a zs ∧ zs.length = n ∧ Bytes zs ∧ (a = none → cc = 0)) := ⟨hr1, hn, hb, hnil⟩
  have HT' : Hid (FstX N T' (updR S I true)) := hT'
  have HF : Hid (F2 cb ib w (w.setCell ⟨ib, I, none⟩ (.bool true))) := ⟨rfl, rfl, rfl, by simp [World.setCell], fun j _ _ h2 => Below.heap_setCell w _ _ j (fun e => h2 e)⟩
  clear h hT hS hr hr1 hb hn hnil cm1 hc1 n1 n2 hT'
  go_enter Try.func12, Try.ntmps12
  go_upto_region 5 with (first | (go_at_call 15; refine Calls.mono C1 ?_; clear C1; rintro e w' ⟨rfl, rfl⟩))
  have HSZ : Hid ((w'.setCell ⟨ib, I, none⟩ (.bool true)).heap.size = w'.heap.size) := by show _ = _; simp [World.setCell]
  generalize w'.setCell ⟨ib, I, none⟩ (.bool true) = w1 at *
  clear k0 k1 k2 y1 y2 y3 y4
  obtain ⟨k0, k1, k2⟩ := rx_cells HX1.out.ce
  refine wp_region_held_drew (S := fun u => u.cell? ⟨c, 0, none⟩ = some (.slice (some ⟨cb, 0, none⟩) N N)) (by kernel_rfl) k0 (fun hHeld => ?_)
  refine wpAnyH_take (i := 0) (v := .pointer (some ⟨c, 0, none⟩)) rfl (by kernel_rfl) (by kernel_rfl) (by kernel_rfl) (fun _ _ _ h => h) (Or.inl ⟨by kernel_rfl, ?_⟩) hHeld ?_
  · intro wq hSw
    try dsimp only at hSw
    go_simp
  simp only [Act.put, List.getElem_toArray, List.getElem_cons_zero]
  try simp only [List.setIfInBounds_toArray]
  try simp only [List.set_cons_succ]
  try simp only [List.set_cons_zero]
  refine wpAnyH_take (i := 1) (v := .pointer (some ⟨c, 0, none⟩)) rfl (by kernel_rfl) (by kernel_rfl) (by kernel_rfl) (fun _ _ _ h => h) (Or.inl ⟨by kernel_rfl, ?_⟩) hHeld ?_
  · intro wq hSw
    try dsimp only at hSw
    go_simp
  simp only [Act.put, List.getElem_toArray, List.getElem_cons_succ, List.getElem_cons_zero]
  try simp only [List.setIfInBounds_toArray]
  try simp only [List.set_cons_succ]
  try simp only [List.set_cons_zero]
  refine wpAnyH_take (i := 2) (v := .pointer (some ⟨c, 0, none⟩)) rfl (by kernel_rfl) (by kernel_rfl) (by kernel_rfl) (fun _ _ _ h => h) (Or.inl ⟨by kernel_rfl, ?_⟩) hHeld ?_
  · intro wq hSw
    try dsimp only at hSw
    go_simp
  simp only [Act.put, List.getElem_toArray, List.getElem_cons_succ, List.getElem_cons_zero]
  try simp only [List.setIfInBounds_toArray]
  try simp only [List.set_cons_succ]
  try simp only [List.set_cons_zero]
  refine wpAnyH_take (i := 3) (v := .slice (some ⟨cb, 0, none⟩) N N) rfl (by kernel_rfl) (by kernel_rfl) (by kernel_rfl) (fun _ _ _ h => h) (Or.inl ⟨by kernel_rfl, ?_⟩) hHeld ?_
  · intro wq hSw
    try dsimp only at hSw
    go_simp
  simp only [Act.put, List.getElem_toArray, List.getElem_cons_succ, List.getElem_cons_zero]
  try simp only [List.setIfInBounds_toArray]
  try simp only [List.set_cons_succ]
  try simp only [List.set_cons_zero]
  refine wpAnyH_take (i := 4) (v := .int .i64 (I : Int)) rfl (by kernel_rfl) (by kernel_rfl) (by kernel_rfl) (fun _ _ _ h => h) (Or.inl ⟨by kernel_rfl, ?_⟩) hHeld ?_
  · intro wq hSw
    try dsimp only at hSw
    go_simp
  simp only [Act.put, List.getElem_toArray, List.getElem_cons_succ, List.getElem_cons_zero]
  try simp only [List.setIfInBounds_toArray]
  try simp only [List.set_cons_succ]
  try simp only [List.set_cons_zero]
  refine wpAnyH_take (i := 6) (v := .slice a n cc) rfl (by kernel_rfl) (by kernel_rfl) (by kernel_rfl) (fun _ _ _ h => h) (Or.inl ⟨by kernel_rfl, ?_⟩) hHeld ?_
  · intro wq hSw
    try dsimp only at hSw
    go_simp
  simp only [Act.put, List.getElem_toArray, List.getElem_cons_succ, List.getElem_cons_zero]
  try simp only [List.setIfInBounds_toArray]
  try simp only [List.set_cons_succ]
  try simp only [List.set_cons_zero]
  refine wpAnyH_ready (rs := [5]) (by kernel_rfl) (by simp) (AllReadyH.cons (o := _) rfl (fun K hK => ?_) AllReadyH.nil)
  go_simp
  have hal := below_allocR w1.drew (.cells #[] 5)
  refine hK.out _ _ (((below_allocR w1.drew (.cells #[] 5)).cell (p := ⟨c, 0, none⟩) (cell_lt k0)).trans k0) (fun hHeld => ?_)
  clear hK K
  try simp only [Act.put, List.getElem_toArray, List.getElem_cons_succ, List.getElem_cons_zero]
  try simp only [List.setIfInBounds_toArray]
  try simp only [List.set_cons_succ]
  try simp only [List.set_cons_zero]
  refine wpAnyH_ready (rs := [7]) (by kernel_rfl) (by simp) (AllReadyH.cons (o := _) rfl (fun K hK => ?_) AllReadyH.nil)
  try simp only [List.getElem_toArray, List.getElem_cons_succ, List.getElem_cons_zero]
  refine step_of_list (a := ⟨_, []⟩) ?_ ?_
  · rfl
  refine wpList_copy (wr := w1.drew) rfl _ _ rfl a n cc zs rfl rfl HR1.out.2.2.2 HR1.out.2.1 (HR1.out.1.old (below_drewR w1)) (by omega) ?_
  intro qa qc w3 g3 s3 f3 b3
  have HQ3 : Hid (Sl w3 5 (.slice qa n qc) g3 (vals zs) ∧ Below w1.heap.size w1 w3) := ⟨s3, (below_drewR w1).trans (b3.mono (below_drewR w1).size)⟩
  have hX3 := HX1.out.old HQ3.out.2
  obtain ⟨j0, j1, j2⟩ := rx_cells hX3.ce
  obtain ⟨y1, y2, y3, y4⟩ := hX3.cm.cells hI2
  have hq3 : PtOk w3 ⟨qa, qc, zs⟩ := s3.ptok HR1.out.2.1 HR1.out.2.2.1 (by omega)
  have hcc := hX3.cm.setA hI2 hq3
  have hc4 := (Below.heap_setCell w3 ⟨cb, I, none⟩ (.slice qa zs.length qc) c (fun e => hnn.1 e)).trans hX3.ce
  have HX4 : Hid (Rx (w3.setCell ⟨cb, I, none⟩ (.slice qa zs.length qc)) c cb ib N W (updR A I ⟨qa, qc, zs⟩) (updR S I true)) := ⟨hc4, hcc, hX3.ne, hX3.nb⟩
  have HF4 : Hid (F2 cb ib w' (w3.setCell ⟨cb, I, none⟩ (.slice qa zs.length qc))) := (HF.out.trans (F2.of_below HQ3.out.2)).trans (F2.set w3 I _)
  have hsz1 : w1.heap.size = w'.heap.size := HSZ.out
  have HQf : Hid (∀ x, qa = some x → zs ≠ [] → w'.heap.size ≤ x.block) := fun x hx hz => by
    rcases s3 with ⟨_, _, e⟩ | ⟨k, off, cp, cur, e, eg, _⟩
    · exact absurd (by cases zs with | nil => rfl | cons _ _ => simp [vals] at e) hz
    · simp only [Value.slice.injEq] at e
      rw [hx] at e
      simp only [Option.some.injEq] at e
      have := f3 k eg
      rw [e.1]
      simp only
      have h9 : w1.drew.heap.size = w1.heap.size := rfl
      omega
  have hzl : zs.length = n := HR1.out.2.1
  rw [hzl] at HX4 HF4
  clear s3 f3 b3 hX3 hq3 hcc hc4 HQ3 HX1 HF hzl
  refine ⟨rfl, hK.out _ _ j0 (fun hHeld => ?_)⟩
  clear hK K
  try simp only [Act.put]
  try simp only [List.setIfInBounds_toArray]
  try simp only [List.set_cons_succ]
  try simp only [List.set_cons_zero]
  refine wpAnyH_take (i := 8) (v := .pointer (some ⟨cb, I, none⟩)) rfl (by kernel_rfl) (by kernel_rfl) (by kernel_rfl) (fun _ _ _ h => h) (Or.inl ⟨by kernel_rfl, ?_⟩) hHeld ?_
  · intro wq hSw
    try dsimp only at hSw
    go_simp
  simp only [Act.put, List.getElem_toArray, List.getElem_cons_succ, List.getElem_cons_zero]
  try simp only [List.setIfInBounds_toArray]
  try simp only [List.set_cons_succ]
  try simp only [List.set_cons_zero]
  refine wpAnyH_ready (rs := [9]) (by kernel_rfl) (by simp) (AllReadyH.cons (o := _) rfl (fun K hK => ?_) AllReadyH.nil)
  go_simp
  refine hK.out _ _ (rx_cells HX4.out.ce).1 (fun hHeld => ?_)
  clear hK K
  try simp only [Act.put]
  refine wpAnyH_done (by kernel_rfl) ?_ _
  generalize w3.setCell ⟨cb, I, none⟩ (.slice qa n qc) = w4 at *
  clear j0 j1 j2 y1 y2 y3 y4 k0 k1 k2 hal hHeld
  obtain ⟨k0, k1, k2⟩ := rx_cells HX4.out.ce
  have C2 : Hid (∀ u, Below w4.heap.size w4 u → Calls Try.prog 15 #[.pointer (some ⟨c, 0, none⟩)] u fun e w' => e = .returned (.int .i64 (T' : Int)) ∧ w' = u) := fun u hu => xnext_any (HX4.out.old hu) HT'.out
  have hTN' := HT'.out.1
  go_wp2
  go_loopw [9, 10] (fun ov kv wq => ∃ (k : Nat) (g : Option Nat) (ov' : Value), T ≤ k ∧ k ≤ T' ∧ kv = .int .i64 (k : Int) ∧ ov' = ov ∧ Hid (Sl wq 32 ov' g (pvl (xOut (updR A I ⟨qa, qc, zs⟩) T k)) ∧ (∀ x, g = some x → w4.heap.size ≤ x) ∧ Below w4.heap.size w4 wq)) (fun _ kv _ => T' - (intOf kv).toNat)
  case atStart => exact ⟨T, none, _, Nat.le_refl _, hTT, rfl, rfl, by simpa [xOut, pvl] using Sl.nil w4 _, (fun x hx => by cases hx), Below.refl _ _⟩
  case round =>
    obtain ⟨k, g, ov, hk1, hk2, rfl, rfl, HO⟩ := hrel
    have hX5 := HX4.out.old HO.out.2.2
    obtain ⟨j0, j1, j2⟩ := rx_cells hX5.ce
    have C3 := C2.out wr HO.out.2.2
    by_cases hkT : k < T'
    · obtain ⟨y1, -, -, -⟩ := hX5.cm.cells (i := k) (by omega)
      have hsn := xOut_snoc (updR A I ⟨qa, qc, zs⟩) T k hk1
      have hol : (pvl (xOut (updR A I ⟨qa, qc, zs⟩) T k)).length ≤ 300 := by unfold pvl xOut; simp; omega
      obtain ⟨Pk, hPk⟩ : ∃ Pk, updR A I ⟨qa, qc, zs⟩ k = Pk := ⟨_, rfl⟩
      rw [hPk] at y1 hsn
      have HSN : Hid (pvl (xOut (updR A I ⟨qa, qc, zs⟩) T (k + 1)) = pvl (xOut (updR A I ⟨qa, qc, zs⟩) T k) ++ [.slice Pk.a Pk.z.length Pk.c]) := hsn
      obtain ⟨pa, pc, pz⟩ := Pk
      simp only at y1 HSN
      have HSL : Hid (∀ o : Obj, Sl (wr.alloc o) 32 ov g (pvl (xOut (updR A I ⟨qa, qc, zs⟩) T k))) := fun o => HO.out.1.same fun x hx => (below_allocR wr _).block x (HO.out.1.lt hx)
      have HBE : Hid (∀ w7 g7, wr.grownBy w7 g → (g7 = g ∨ ∃ x, g7 = some x ∧ wr.heap.size ≤ x) → Below w4.heap.size w4 w7 ∧ ∀ x, g7 = some x → w4.heap.size ≤ x) := fun w7 g7 h1 h2 => ⟨HO.out.2.2.grown h1 HO.out.2.2.size HO.out.2.1, fun x hx => by
        rcases h2 with e | ⟨y, e, hy⟩
        · rw [e] at hx; exact HO.out.2.1 x hx
        · rw [e] at hx; cases hx; exact Nat.le_trans HO.out.2.2.size hy⟩
      have hkT2 : (k : Int) < (T' : Int) := by omega
      clear hX5 HO hPk hsn
      go_wp2_with (first
        | (go_at_call 15; refine Calls.mono C3 ?_; clear C3; rintro e w8 ⟨rfl, rfl⟩)
        | (at_builtin; go_must (refine wpList_append_sl rfl _ _ 35 rfl 32 i0 (.slice none 0 0) 24 Try.underlying35 hi hz0 hz1 hz2 rfl ov g (pvl (xOut (updR A I ⟨qa, qc, zs⟩) T k)) rfl (HSL.out _) ⟨_, 0, none⟩ 1 1 [.slice pa pz.length pc] rfl rfl (cell_newR _ _ _) (by intro u hu; simp at hu; subst hu; rfl) (by omega) (by unfold maxLen; omega) ?_); intro v7 w7 g7 s7 h7 gr7))
      obtain ⟨e1, e2⟩ := HBE.out w7 g7 (grow_trans (below_allocR _ _) gr7) (by
        rcases h7 with e | ⟨x, e, hx⟩
        · exact .inl e
        · exact .inr ⟨x, e, Nat.le_trans (below_allocR _ _).size hx⟩)
      have HS7 : Hid (Sl w7 32 v7 g7 (pvl (xOut (updR A I ⟨qa, qc, zs⟩) T (k + 1))) ∧ (∀ x, g7 = some x → w4.heap.size ≤ x) ∧ Below w4.heap.size w4 w7) := ⟨by rw [HSN.out]; exact s7, e2, e1⟩
      clear s7 h7 gr7 e1 e2 HBE HSL HSN
      go_wp2
      go_roundw
      case rel => exact ⟨k + 1, g7, v7, by omega, by omega, by go_num, rfl, HS7⟩
      case measure => simp [intOf]; omega
    · obtain rfl : k = T' := by omega
      obtain ⟨oa, oc, ho, -⟩ := HO.out.1.shape
      have hlen : (pvl (xOut (updR A I ⟨qa, qc, zs⟩) T k)).length = k - T := by simp [pvl, xOut]
      rw [hlen] at ho
      subst ho
      have HE : Hid (XtP w' c cb ib N W A S T k I zs (.returned (.tuple #[.slice oa (k - T) oc, .bool true])) wr) := by
        refine ⟨⟨qa, qc, zs⟩, oa, oc, rfl, HQf.out, rfl, ps_of_sl HO.out.1 (fun q hq => ?_), (fun x hx => ?_), hX5, HF4.out.trans (F2.of_below HO.out.2.2)⟩
        · obtain ⟨x, hx, rfl⟩ := List.mem_map.1 hq
          exact hX5.cm.ok _ (by have := List.mem_range.1 hx; omega)
        · rcases HO.out.1 with ⟨e, _, _⟩ | ⟨y, off, cp, cur, e, eg, _⟩
          · simp only [Value.slice.injEq] at e; rw [hx] at e; simp at e
          · simp only [Value.slice.injEq] at e
            rw [hx] at e
            simp only [Option.some.injEq] at e
            have h8 := HO.out.2.1 y eg
            have h9 := HF4.out.size
            rw [e.1]
            simp only
            omega
      clear hX5 HO HF4
      go_wp2_with (first | (go_at_call 15; refine Calls.mono C3 ?_; clear C3; rintro e w8 ⟨rfl, rfl⟩))
      refine bodyPost_ret (v := .tuple #[.slice oa (k - T) oc, .bool true]) (by simp [results, Try.results12, go_sem]) rfl HE.out
end Go.Proofs.Ytmfciheenemapaa
