/- The law AdamLeft, walked. -/
import Derived.Test.YtjkhldnjciakkaaAlA
namespace Go.Proofs.Ytjkhldnjciakkaa
open Go.RowKit
attribute [local go_sem] Oper.semAt_some
set_option maxHeartbeats 6400000 in
set_option maxRecDepth 20000 in
theorem aleft_walk (A B : Int) (b : Bool) (Z : Int) (w : World) (hA : (Lit.int .u8 A).wf = true) (hB : (Lit.int .u8 B).wf = true) (_ : True) (hZ : (Lit.int .u8 Z).wf = true) :
    Calls Try.prog 7 #[.int .u8 A, .int .u8 B, .bool b, .int .u8 Z] w fun e w' => e = .returned (.bool true) ∧ Below w.heap.size w w' := by
  have bA := bounds_u8 hA
  have bB := bounds_u8 hB
  have bZ := bounds_u8 hZ
  clear hA hB hZ
  have hA2 : A.tmod 40 = A % 40 := Int.tmod_eq_emod_of_nonneg (by omega)
  have hB2 : B.tmod 40 = B % 40 := Int.tmod_eq_emod_of_nonneg (by omega)
  obtain ⟨X0, hX0⟩ : ∃ X0, A % 40 = X0 := ⟨_, rfl⟩
  obtain ⟨Y0, hY0⟩ : ∃ Y0, B % 40 = Y0 := ⟨_, rfl⟩
  have hXb : 0 ≤ X0 ∧ X0 < 40 := by omega
  have hYb : 0 ≤ Y0 ∧ Y0 < 40 := by omega
  rw [hX0] at hA2
  rw [hY0] at hB2
  clear hX0 hY0
  have C1 := fun w => glines_any (1 + X0) (1 + Y0) b w
  have C2 := fun w => aLines_any (1 + X0) (1 + Y0) b w
  obtain ⟨L, hL⟩ : ∃ L, pngOf b = L := ⟨_, rfl⟩
  have HL : Hid ((∀ p ∈ L, p.ok) ∧ L.length ≤ 7) := by rw [← hL]; exact ⟨pngOf_ok b, by cases b <;> decide⟩
  have HNP : Hid (1 ≤ lnN (pngOf b) (1 + X0) (1 + Y0)) := lnN_pos b X0 Y0 hXb hYb
  rw [hL] at C1 C2 HNP
  clear hL
  obtain ⟨i0, hi0, hz0, hz1, hz2⟩ := info_parts Try.infoLn
  obtain ⟨wa, hwa⟩ : ∃ wa, w.alloc (.cells #[.int .u8 Z] 5) = wa := ⟨_, rfl⟩
  have HW : Hid (Below w.heap.size w wa ∧ wa.heap[w.heap.size]? = some (.cells #[.int .u8 Z] 5 (0, 0))) := by
    rw [← hwa]; exact ⟨(Below.refl _ w).alloc (Nat.le_refl _) _, World.alloc_heap_new w _⟩
  refine calls_of_wp_marks Try.func7 rfl ?_
  simp only [Try.ntmps7, List.size_toArray, List.length_cons, List.length_nil, Nat.reduceAdd, Nat.reduceSub, Array.replicate_succ, Array.replicate_zero, List.push_toArray, List.append_toArray, List.nil_append, List.cons_append]
  go_wp2_with fail
  refine (afixed_any wa).mono ?_
  rintro e w1 ⟨rfl, hb1⟩
  have H1 : Hid (Below w.heap.size w w1 ∧ w1.heap[w.heap.size]? = some (.cells #[.int .u8 Z] 5 (0, 0))) := ⟨HW.out.1.trans (hb1.mono HW.out.1.size), (hb1.block _ (lt_of_block HW.out.2)).trans HW.out.2⟩
  clear hb1 HW hwa
  go_wp2_with fail
  refine (C1 w1).mono ?_
  rintro e w2 ⟨aa, ca, esA, rfl, m1, k1, hb2⟩
  have H2 : Hid (Below w.heap.size w w2 ∧ w2.heap[w.heap.size]? = some (.cells #[.int .u8 Z] 5 (0, 0)) ∧ LsR w2 aa esA ∧ esA.map Le.key = lnsL L (1 + X0) (1 + Y0)) :=
    ⟨H1.out.1.trans (hb2.mono H1.out.1.size), (hb2.block _ (lt_of_block H1.out.2)).trans H1.out.2, m1.read, k1⟩
  have hlA : esA.length = lnN L (1 + X0) (1 + Y0) := by have := congrArg List.length k1; rw [List.length_map, lnsL_len] at this; exact this
  have HA : Hid ((aa = none ∧ esA.length = 0 ∧ ca = 0) ∨ (∃ ga, aa = some ⟨ga, 0, none⟩) ∧ esA.length ≤ ca) := by
    rcases m1.own.2 with ⟨h, hn⟩ | ⟨ga, cap, cur, h, _, _, q1, _⟩
    · simp only [Value.slice.injEq] at h
      exact .inl ⟨h.1, hn, h.2.2⟩
    · simp only [Value.slice.injEq] at h
      exact .inr ⟨⟨ga, h.1⟩, by omega⟩
  have HNb : Hid (lnN L (1 + X0) (1 + Y0) ≤ 20000) := lnN_bd HL.out.1 HL.out.2 _ _
  clear m1 k1 hb2 H1 C1
  obtain ⟨N, hN⟩ : ∃ N, esA.length = N := ⟨_, rfl⟩
  rw [hN] at hlA HA ⊢
  have HN : Hid (esA.length = N ∧ N = lnN L (1 + X0) (1 + Y0) ∧ N ≤ 20000) := ⟨hN, hlA, by rw [hlA]; exact HNb.out⟩
  clear hN hlA HNb
  go_wp2_with fail
  refine (C2 w2).mono ?_
  clear C2
  rintro e w3 ⟨s, sb, rfl, hbx, hsb, hsb2, hb3⟩
  have H3 : Hid (Below w.heap.size w w3 ∧ w3.heap[w.heap.size]? = some (.cells #[.int .u8 Z] 5 (0, 0)) ∧ LsR w3 aa esA ∧ esA.map Le.key = lnsL L (1 + X0) (1 + Y0) ∧ Bx w3 s (1 + X0) (1 + Y0) sb L) :=
    ⟨H2.out.1.trans (hb3.mono H2.out.1.size), (hb3.block _ (lt_of_block H2.out.2.1)).trans H2.out.2.1, H2.out.2.2.1.old hb3, H2.out.2.2.2, hbx⟩
  clear hbx hsb hsb2 hb3 H2
  obtain ⟨w4, hw4⟩ : ∃ w4, w3.alloc (.cells #[.slice none 0 0] 27) = w4 := ⟨_, rfl⟩
  have hb4 : Below w3.heap.size w3 w4 := by rw [← hw4]; exact (Below.refl _ w3).alloc (Nat.le_refl _) _
  have H4 : Hid (LwE w3 s sb (1 + X0) (1 + Y0) L 0 (.slice none 0 0) [] w4) := ⟨by rw [← hw4]; exact World.alloc_heap_new w3 _, LsM.nil _ _, by simp, H3.out.2.2.2.2.old hb4, hb4⟩
  have HSZ : Hid (w3.heap.size < w4.heap.size) := lt_of_block H4.out.ob
  clear hb4
  obtain ⟨ZN, hZN⟩ : ∃ ZN : Nat, Z = (ZN : Int) := ⟨Z.toNat, by omega⟩
  subst hZN
  go_wp2
  refine wp_range_ixG1 (d := 0) (gf := 35) rfl (callFnA Try.func35 (by kernel_rfl) (by kernel_rfl)) (lines1_iter s sb (1 + X0) (1 + Y0) L HL.out.1 HL.out.2) (fun _ _ _ _ e => by obtain ⟨_, _, _, _, _, _, _, rfl, _⟩ := e; rfl)
    (fun k Wa => LwI w3 w3.heap.size s sb (1 + X0) (1 + Y0) L k Wa ∧ k ≤ ZN) (fun Wa => ∃ k, k = min N ZN ∧ LwI w3 w3.heap.size s sb (1 + X0) (1 + Y0) L k Wa)
    (fun i Wa Wb h hk => ⟨h.1.bk hk (by have := HSZ.out; omega), h.2⟩) (fun Wa Wb h hk => by obtain ⟨k, e, h⟩ := h; exact ⟨k, e, h.bk hk (by have := HSZ.out; omega)⟩) (fun Wa h => ⟨N, by rw [← HN.out.2.1] at h; omega, by have := h.1; rw [← HN.out.2.1] at this; exact this⟩) (fun i Wa h => h.1.bx) ⟨H4.out.all, Nat.zero_le _⟩ ?body ?q ?done
  case q =>
    intro a0 W0 h
    exact wp_exit h
  case body =>
    rintro k Wp Wa args hk HI hbp hen hlp hdf
    obtain ⟨i, r, g, cur, hi, hr, rfl, rfl, hg1, hg2, hg3⟩ := hen
    simp only [List.zip_toArray, List.zip_cons_cons, List.zip_nil_right, List.foldl_toArray, List.foldl_cons, List.foldl_nil, List.setIfInBounds_toArray, List.set_cons_succ, List.set_cons_zero]
    obtain ⟨r1, hr1⟩ := hlp
    obtain ⟨r2, hr2⟩ := hdf
    have hp : picN (1 + X0) (1 + Y0) := by by_cases hp : picN (1 + X0) (1 + Y0); exact hp; (unfold psN at hi; rw [if_neg hp] at hi; omega)
    have hwb := wid_bd (stAt_ok HL.out.1 i) (w := 1 + X0) (h := 1 + Y0) hp.2.1
    have hn2 : wNt L (1 + X0) (1 + Y0) i ≤ 2048 := by unfold wNt widAt; omega
    have HEN : Hid ((lnsL L (1 + X0) (1 + Y0))[bsN (hNt L (1 + X0) (1 + Y0)) i + r]? = some (((i : Int) + 1), lnS L (1 + X0) (1 + Y0) i r)) := lnsI_at L (1 + X0) (1 + Y0) hi hr
    have HLN : Hid (bsN (hNt L (1 + X0) (1 + Y0)) i + r < N ∧ N ≤ 20000) := ⟨by rw [HN.out.2.1]; exact hk, HN.out.2.2⟩
    have HSL : Hid ((lnS L (1 + X0) (1 + Y0) i r).length = 2 * wNt L (1 + X0) (1 + Y0) i) := spL_len ..
    obtain ⟨v, es, HE⟩ := HI.1.some
    have hkZ := HI.2
    have HG : Hid (LwE w3 s sb (1 + X0) (1 + Y0) L (bsN (hNt L (1 + X0) (1 + Y0)) i + r) v es Wa ∧ Wa.heap[w4.heap.size + 1]? = some (.loop r1) ∧ Wa.heap[w4.heap.size]? = some (.deferred r2) ∧ (∀ e ∈ es, e.L = [] ∨ ∃ q, e.a = some ⟨q, 0, none⟩ ∧ q ≠ g) ∧ w3.heap.size ≤ g ∧ Wa.heap[g]? = some (.cells cur 45 (0, 0)) ∧ ∀ j, j < (lnS L (1 + X0) (1 + Y0) i r).length → cur[j]? = some (.int .i64 ((lnS L (1 + X0) (1 + Y0) i r)[j]?.getD 0))) :=
      ⟨HE.old hbp, hr1, hr2, HE.ahead hg3, Nat.le_trans HE.be.size hg3, hg1, hg2⟩
    clear hk HI hbp hg1 hg2 hg3 hr1 hr2 hwb hp HE Wp
    obtain ⟨k, hk⟩ : ∃ k, bsN (hNt L (1 + X0) (1 + Y0)) i + r = k := ⟨_, rfl⟩
    rw [hk] at HEN HLN HG hkZ ⊢
    generalize lnS L (1 + X0) (1 + Y0) i r = S at *
    generalize wNt L (1 + X0) (1 + Y0) i = M at *
    clear hk hr hi
    gi_wp2
    refine ⟨trivial, trivial, KpO.refl _ _ _, ?_⟩
    intro o hbk ho hdf ho2
    obtain ⟨rb, rfl⟩ := ho2
    obtain ⟨rd, hrd⟩ := hdf
    have HC : Hid (LwE w3 s sb (1 + X0) (1 + Y0) L k v es (Wa.putObj (w4.heap.size + 1) (.loop rb)) ∧ (Wa.putObj (w4.heap.size + 1) (.loop rb)).heap[w4.heap.size + 1]? = some (.loop rb) ∧ (Wa.putObj (w4.heap.size + 1) (.loop rb)).heap[w4.heap.size]? = some (.deferred rd) ∧ (∀ e ∈ es, e.L = [] ∨ ∃ q, e.a = some ⟨q, 0, none⟩ ∧ q ≠ g) ∧ w3.heap.size ≤ g ∧ (Wa.putObj (w4.heap.size + 1) (.loop rb)).heap[g]? = some (.cells cur 45 (0, 0)) ∧ ∀ j, j < S.length → cur[j]? = some (.int .i64 (S[j]?.getD 0))) := by
      obtain ⟨q1, q2, q3, q4, q5, q6, q7⟩ := HG.out
      obtain ⟨q0, x1, x2⟩ := q1.all.bk hbk (by have := HSZ.out; omega)
      exact ⟨⟨hbk.cells q1.ob, q1.ls.bk hbk, q1.key, x1, x2⟩, ho, hrd, q4, q5, hbk.cells q6, q7⟩
    generalize Wa.putObj (w4.heap.size + 1) (.loop rb) = Wc at *
    clear hbk ho hrd HG
    obtain ⟨av, cv, hv, hc1, hc2, hc3⟩ := HC.out.1.ls.shape
    subst hv
    have hes : es.length = k := by
      have e := congrArg List.length HC.out.1.key
      rw [List.length_map, List.length_take, lnsL_len, ← HN.out.2.1] at e
      have := HLN.out; omega
    rw [hes] at HC hc1
    have HEL : Hid (es.length = k) := hes
    have hkb : k < 20000 := by have := HLN.out; omega
    have HZb : Hid (Wc.heap[w.heap.size]? = some (.cells #[.int .u8 (ZN : Int)] 5 (0, 0))) := (HC.out.1.be.block _ (lt_of_block H3.out.2.1)).trans H3.out.2.1
    have z0 : Wc.cell? ⟨w.heap.size, 0, none⟩ = some (.int .u8 (ZN : Int)) := (one_cellA HZb.out).1
    have k1 := (one_cellA HC.out.1.ob).1
    clear hes hc2 hc3
    by_cases hq : k = ZN
    · have HX : Hid (∃ k, k = min N ZN ∧ LwI w3 w3.heap.size s sb (1 + X0) (1 + Y0) L k Wc) := ⟨k, by have := HLN.out; omega, HC.out.1.all⟩
      have hq2 : (k : Int) = ZN := by omega
      gi_wp2
      exact ⟨rfl, rfl, KpO.refl _ _ _, rfl, HX.out⟩
    · have hq2 : (k : Int) ≠ ZN := by omega
      have k1d : Wc.drew.cell? ⟨w3.heap.size, 0, none⟩ = some (.slice av k cv) := k1
      obtain ⟨iS, hS0, hS1, hS2, hS3⟩ := info_parts Try.infoSp
      gi_wp2
      refine wpIn_region_held (fun _ => True) (by kernel_rfl) ?hq (by kernel_rfl) trivial ?_
      case hq => rintro ⟨a, w, h⟩; exact h
      intro hHeld
      refine wpAnyH_take (i := 1) (v := .int .i64 ((i : Int) + 1)) rfl (by kernel_rfl) (by kernel_rfl) (by kernel_rfl) (fun _ _ _ h => h) (Or.inl ⟨by rfl, ?_⟩) hHeld ?_
      · intro wq hSw
        clear hSw
        go_simp
      try simp only [Act.put]
      try simp only [List.setIfInBounds_toArray]
      try simp only [List.set_cons_succ]
      try simp only [List.set_cons_zero]
      refine wpAnyH_take (i := 3) (v := .slice (some ⟨g, 0, none⟩) M M) rfl (by kernel_rfl) (by kernel_rfl) (by kernel_rfl) (fun _ _ _ h => h) (Or.inl ⟨by rfl, ?_⟩) hHeld ?_
      · intro wq hSw
        clear hSw
        go_simp
      try simp only [Act.put]
      try simp only [List.setIfInBounds_toArray]
      try simp only [List.set_cons_succ]
      try simp only [List.set_cons_zero]
      refine wpAnyH_ready (rs := [0, 2]) (by kernel_rfl) (by simp) (AllReadyH.cons (o := _) rfl (fun K hK => ?_) (AllReadyH.cons (o := _) rfl (fun K hK => ?_) AllReadyH.nil))
      · go_simp
        refine hK.out _ _ trivial (fun hHeld => ?_)
        clear hK K
        try simp only [Act.put]
        try simp only [List.setIfInBounds_toArray]
        try simp only [List.set_cons_succ]
        try simp only [List.set_cons_zero]
        refine wpAnyH_ready (rs := [2]) (by kernel_rfl) (by simp) (AllReadyH.cons (o := _) rfl (fun K hK => ?_) AllReadyH.nil)
        go_simp
        obtain ⟨W5, hW5⟩ : ∃ W5, (Wc.alloc (.cells #[] 45)).drew = W5 := ⟨_, rfl⟩
        have hb5 : Below Wc.heap.size Wc W5 := by rw [← hW5]; exact ((Below.refl _ Wc).alloc (Nat.le_refl _) _).trans ⟨rfl, rfl, rfl, Nat.le_refl _, fun _ _ => rfl⟩
        have ho5 : W5.ownsRow Wc.heap.size 45 2 (.slice (some ⟨Wc.heap.size, 0, none⟩) 0 0) 0 [] := by
          rw [← hW5]
          exact ⟨by simp, .inr ⟨Wc.heap.size, 0, #[], rfl, Nat.le_refl _, World.alloc_heap_new Wc _, Nat.le_refl _, by unfold maxLen; omega, by simp, by simp⟩⟩
        have k5 : W5.cell? ⟨w3.heap.size, 0, none⟩ = some (.slice av k cv) := (World.cell?_of_block (a := ⟨w3.heap.size, 0, none⟩) (hb5.block _ (lt_of_block HC.out.1.ob))).trans k1
        have HN5 : Hid (∀ j u, (ivalsA S)[j]? = some u → W5.cell? ((⟨g, 0, none⟩ : Addr).add j) = some u) := sp_news HC.out.2.2.2.2.2.2 ((hb5.block g (lt_of_block HC.out.2.2.2.2.2.1)).trans HC.out.2.2.2.2.2.1)
        have HB5 : Hid (Below Wc.heap.size Wc W5 ∧ W5.ownsRow Wc.heap.size 45 2 (.slice (some ⟨Wc.heap.size, 0, none⟩) 0 0) 0 []) := ⟨hb5, ho5⟩
        clear hb5 ho5
        refine hK.out _ _ trivial (fun hHeld => ?_)
        clear hK K
        try simp only [Act.put]
        try simp only [List.setIfInBounds_toArray]
        try simp only [List.set_cons_succ]
        try simp only [List.set_cons_zero]
        rw [hW5]
        clear hW5
        refine wpAnyH_ready (rs := [4]) (by kernel_rfl) (by simp) (AllReadyH.cons (o := _) rfl (fun K hK => ?_) AllReadyH.nil)
        refine step_of_list rfl (wpList_append_own _ rfl _ _ 41 rfl Wc.heap.size 45 iS _ 2 16 Try.underlying41 hS0 hS1 hS2 hS3 rfl (by decide) (.slice (some ⟨Wc.heap.size, 0, none⟩) 0 0) 0 [] rfl HB5.out.2 ⟨g, 0, none⟩ M M (ivalsA S) rfl (by rw [ivalsA_len, HSL.out]; omega) HN5.out (by intro u hu; obtain ⟨z, _, rfl⟩ := List.mem_map.1 hu; rfl) (by unfold maxLen; omega) (by omega) HB5.out.1.size (fun v6 w6 g1 g2 g3 => ⟨rfl, ?_⟩))
        rw [Nat.zero_add, List.nil_append] at g1
        have hb6 : Below Wc.heap.size Wc w6 := by
          have hb5 := HB5.out.1
          have := hb5.size
          exact ⟨g2.os.trans hb5.os, g2.tape.trans hb5.tape, g2.output.trans hb5.output, Nat.le_trans hb5.size g2.size, fun j hj => (g2.block j (by omega) (by intro e; simp [Value.ownBlock] at e; omega)).trans (hb5.block j hj)⟩
        obtain ⟨gc, cc, rfl, hgc, hsp⟩ := sp_copy (p := (i : Int) + 1) HSL.out hn2 g1 (fun e => by have := (g3.1 e).1; cases this)
        have HE6 := HC.out.1.old hb6
        have k6 : w6.cell? ⟨w3.heap.size, 0, none⟩ = some (.slice av k cv) := (one_cellA HE6.ob).1
        have H6 : Hid (LwE w3 s sb (1 + X0) (1 + Y0) L k (.slice av k cv) es w6 ∧ SpIn w3.heap.size w6 ⟨(i : Int) + 1, some ⟨gc, 0, none⟩, M, cc, S⟩ ∧ gc ≠ g ∧ w6.heap[w4.heap.size + 1]? = some (.loop rb) ∧ w6.heap[w4.heap.size]? = some (.deferred rd) ∧ w6.heap[g]? = some (.cells cur 45 (0, 0)) ∧ Below Wc.heap.size Wc w6) := by
          obtain ⟨q1, q2, q3, q4, q5, q6, q7⟩ := HC.out
          exact ⟨HE6, hsp _ q1.be.size, by have := lt_of_block q6; omega, (hb6.block _ (lt_of_block q2)).trans q2, (hb6.block _ (lt_of_block q3)).trans q3, (hb6.block _ (lt_of_block q6)).trans q6, hb6⟩
        clear g1 g2 g3 hsp hgc hb6 HE6 HB5 HN5 k5
        refine hK.out _ _ trivial (fun hHeld => ?_)
        clear hK K
        try simp only [Act.put]
        try simp only [List.setIfInBounds_toArray]
        try simp only [List.set_cons_succ]
        try simp only [List.set_cons_zero]
        refine wpAnyH_take (i := 5) (v := .agg #[.int .i64 ((i : Int) + 1), .slice (some ⟨gc, 0, none⟩) M cc]) rfl (by kernel_rfl) (by kernel_rfl) (by kernel_rfl) (fun _ _ _ h => h) (Or.inl ⟨by rfl, ?_⟩) hHeld ?_
        · intro wq hSw
          clear hSw
          go_simp
        try simp only [Act.put]
        try simp only [List.setIfInBounds_toArray]
        try simp only [List.set_cons_succ]
        try simp only [List.set_cons_zero]
        refine wpAnyH_ready (rs := [6]) (by kernel_rfl) (by simp) (AllReadyH.cons (o := _) rfl (fun K hK => ?_) AllReadyH.nil)
        go_simp
        have hb7 : Below w6.heap.size w6 (w6.alloc (.cells #[.int .i64 ((i : Int) + 1), .slice (some ⟨gc, 0, none⟩) M cc] 43)) := (Below.refl _ w6).alloc (Nat.le_refl _) _
        have k7 : (w6.alloc (.cells #[.int .i64 ((i : Int) + 1), .slice (some ⟨gc, 0, none⟩) M cc] 43)).cell? ⟨w3.heap.size, 0, none⟩ = some (.slice av k cv) := (World.cell?_of_block (a := ⟨w3.heap.size, 0, none⟩) (hb7.block _ (lt_of_block H6.out.1.ob))).trans k6
        clear hb7
        refine hK.out _ _ trivial (fun hHeld => ?_)
        clear hK K
        try simp only [Act.put]
        try simp only [List.setIfInBounds_toArray]
        try simp only [List.set_cons_succ]
        try simp only [List.set_cons_zero]
        refine wpAnyH_ready (rs := [7]) (by kernel_rfl) (by simp) (AllReadyH.cons (o := _) rfl (fun K hK => ?_) AllReadyH.nil)
        have HV := H6.out.1.ls.own.alloc (.cells #[.int .i64 ((i : Int) + 1), .slice (some ⟨gc, 0, none⟩) M cc] 43)
        rw [HEL.out] at HV
        refine step_of_list rfl (wpList_append_own _ rfl _ _ 27 rfl w3.heap.size 43 i0 _ 2 32 Try.underlying27 hi0 hz0 hz1 hz2 rfl (by decide) (.slice av k cv) k (leF es) rfl HV ⟨w6.heap.size, 0, none⟩ 1 1 [.int .i64 ((i : Int) + 1), .slice (some ⟨gc, 0, none⟩) M cc] rfl rfl (new2 w6 _ _) (one2 _ _ _ _) (by unfold maxLen; omega) (by omega) (by have := H6.out.1.be.size; simp; omega) (fun v7 w7 g1 g2 _ => ⟨rfl, ?_⟩))
        rw [← HEL.out] at g1
        obtain ⟨y1, y2, y3, y4, y5, y6, y7⟩ := LwE.push (e := ⟨(i : Int) + 1, some ⟨gc, 0, none⟩, M, cc, S⟩) H6.out.1 HEN.out H6.out.2.1 g1 g2 H6.out.2.2.2.1 H6.out.2.2.2.2.1
        obtain ⟨a7, c7, hv7⟩ : ∃ a7 c7, v7 = .slice a7 (k + 1) c7 := by
          rcases g1.2 with ⟨rfl, hn⟩ | ⟨g, cap, cur, rfl, _⟩
          · omega
          · exact ⟨_, _, by rw [HEL.out]⟩
        subst hv7
        obtain ⟨w8, hw8⟩ : ∃ w8, w7.setCell ⟨w3.heap.size, 0, none⟩ (.slice a7 (k + 1) c7) = w8 := ⟨_, rfl⟩
        rw [hw8] at y3 y4 y5 y6 y7
        have H8 : Hid (LwE w3 s sb (1 + X0) (1 + Y0) L (k + 1) (.slice a7 (k + 1) c7) (es ++ [⟨(i : Int) + 1, some ⟨gc, 0, none⟩, M, cc, S⟩]) w8 ∧ w8.heap[w4.heap.size + 1]? = some (.loop rb) ∧ w8.heap[w4.heap.size]? = some (.deferred rd) ∧ KpO kpL (w4.heap.size + 1) Wc w8 ∧ w8.heap[g]? = some (.cells cur 45 (0, 0)) ∧ ∀ e ∈ (es ++ [⟨(i : Int) + 1, some ⟨gc, 0, none⟩, M, cc, S⟩] : List Le), e.L = [] ∨ ∃ q, e.a = some ⟨q, 0, none⟩ ∧ q ≠ g) := by
          obtain ⟨p1, p2, p3, p4, p5, p6, p7⟩ := H6.out
          refine ⟨y3, y4, y5, ⟨Nat.le_trans p7.size y7, fun j o _ hj ho => y6 j o ((p7.block j (lt_of_block hj)).trans hj) (fun c f e => by subst e; exact ho.2.1 rfl) (fun c f e => by subst e; exact ho.1 rfl)⟩, y6 _ _ p6 (fun c f e => by cases e) (fun c f e => by cases e), ?_⟩
          intro e he
          rcases List.mem_append.1 he with q | q
          · exact HC.out.2.2.2.1 e q
          · simp at q; subst q; exact .inr ⟨gc, rfl, p3⟩
        clear g1 g2 HV y3 y4 y5 y6 y7
        refine hK.out _ _ trivial (fun hHeld => ?_)
        clear hK K
        try simp only [Act.put]
        try simp only [List.setIfInBounds_toArray]
        try simp only [List.set_cons_succ]
        try simp only [List.set_cons_zero]
        refine wpAnyH_ready (rs := [8]) (by kernel_rfl) (by simp) (AllReadyH.cons (o := _) rfl (fun K hK => ?_) AllReadyH.nil)
        go_simp
        refine hK.out _ _ trivial (fun hHeld => ?_)
        clear hK K
        try simp only [Act.put]
        try simp only [List.setIfInBounds_toArray]
        try simp only [List.set_cons_succ]
        try simp only [List.set_cons_zero]
        refine wpAnyH_done (by kernel_rfl) ?_ _
        clear hw8 y1 y2 H6
        have H9 : Hid (SetG g M w8 w8) := ⟨rfl, rfl, rfl, rfl, fun _ _ => rfl, cur, H8.out.2.2.2.2.1, size_of_all HSL.out HC.out.2.2.2.2.2.2⟩
        clear k1 k1d k6 k7 z0 hHeld
        gi_wp2
        gi_loopw [16, 56] (fun _ v wr => ∃ r : Nat, r ≤ M ∧ v = .int .i64 r ∧ Hid (SetG g M w8 wr)) (fun _ v _ => M - (intOf v).toNat)
        case atStart => exact ⟨0, Nat.zero_le _, rfl, H9⟩
        case round =>
          obtain ⟨r, hr, rfl, HR⟩ := hrel
          clear H9
          by_cases hlt : r < M
          · obtain ⟨⟨x0, s0⟩, f0⟩ := HR.out.cell (i := r * 2) (by omega)
            obtain ⟨⟨x1, s1⟩, f1⟩ := HR.out.cell (i := r * 2 + 1) (by omega)
            have HR2 : Hid (SetG g M w8 ((wr.setCell ⟨g, r * 2, none⟩ (.int .i64 (-1))).setCell ⟨g, r * 2 + 1, none⟩ (.int .i64 (-1)))) := (HR.out.store _ _).store _ _
            clear HR
            gi_wp2
            go_roundw
            case rel => exact ⟨r + 1, hlt, by go_num, HR2⟩
            case measure => simp [intOf]; omega
          · have HF : Hid (wr.heap[w4.heap.size + 1]? = Wc.heap[w4.heap.size + 1]? ∧ wr.heap[w4.heap.size]? = Wc.heap[w4.heap.size]? ∧ KpO kpL (w4.heap.size + 1) Wc wr ∧ LwI w3 w3.heap.size s sb (1 + X0) (1 + Y0) L (k + 1) wr ∧ k + 1 ≤ ZN) := left_end H8.out.1 H8.out.2.1 H8.out.2.2.1 H8.out.2.2.2.1 H8.out.2.2.2.2.1 H8.out.2.2.2.2.2 HC.out.2.1 HC.out.2.2.1 HC.out.2.2.2.2.1 HR.out (by omega)
            obtain rfl : r = M := by omega
            clear HR
            gi_wp2
            exact HF.out
      · go_simp
        obtain ⟨W5, hW5⟩ : ∃ W5, (Wc.alloc (.cells #[] 45)).drew = W5 := ⟨_, rfl⟩
        have hb5 : Below Wc.heap.size Wc W5 := by rw [← hW5]; exact ((Below.refl _ Wc).alloc (Nat.le_refl _) _).trans ⟨rfl, rfl, rfl, Nat.le_refl _, fun _ _ => rfl⟩
        have ho5 : W5.ownsRow Wc.heap.size 45 2 (.slice (some ⟨Wc.heap.size, 0, none⟩) 0 0) 0 [] := by
          rw [← hW5]
          exact ⟨by simp, .inr ⟨Wc.heap.size, 0, #[], rfl, Nat.le_refl _, World.alloc_heap_new Wc _, Nat.le_refl _, by unfold maxLen; omega, by simp, by simp⟩⟩
        have k5 : W5.cell? ⟨w3.heap.size, 0, none⟩ = some (.slice av k cv) := (World.cell?_of_block (a := ⟨w3.heap.size, 0, none⟩) (hb5.block _ (lt_of_block HC.out.1.ob))).trans k1
        have HN5 : Hid (∀ j u, (ivalsA S)[j]? = some u → W5.cell? ((⟨g, 0, none⟩ : Addr).add j) = some u) := sp_news HC.out.2.2.2.2.2.2 ((hb5.block g (lt_of_block HC.out.2.2.2.2.2.1)).trans HC.out.2.2.2.2.2.1)
        have HB5 : Hid (Below Wc.heap.size Wc W5 ∧ W5.ownsRow Wc.heap.size 45 2 (.slice (some ⟨Wc.heap.size, 0, none⟩) 0 0) 0 []) := ⟨hb5, ho5⟩
        clear hb5 ho5
        refine hK.out _ _ trivial (fun hHeld => ?_)
        clear hK K
        try simp only [Act.put]
        try simp only [List.setIfInBounds_toArray]
        try simp only [List.set_cons_succ]
        try simp only [List.set_cons_zero]
        rw [hW5]
        clear hW5
        refine wpAnyH_ready (rs := [0, 4]) (by kernel_rfl) (by simp) (AllReadyH.cons (o := _) rfl (fun K hK => ?_) (AllReadyH.cons (o := _) rfl (fun K hK => ?_) AllReadyH.nil))
        · go_simp
          refine hK.out _ _ trivial (fun hHeld => ?_)
          clear hK K
          try simp only [Act.put]
          try simp only [List.setIfInBounds_toArray]
          try simp only [List.set_cons_succ]
          try simp only [List.set_cons_zero]
          refine wpAnyH_ready (rs := [4]) (by kernel_rfl) (by simp) (AllReadyH.cons (o := _) rfl (fun K hK => ?_) AllReadyH.nil)
          refine step_of_list rfl (wpList_append_own _ rfl _ _ 41 rfl Wc.heap.size 45 iS _ 2 16 Try.underlying41 hS0 hS1 hS2 hS3 rfl (by decide) (.slice (some ⟨Wc.heap.size, 0, none⟩) 0 0) 0 [] rfl HB5.out.2 ⟨g, 0, none⟩ M M (ivalsA S) rfl (by rw [ivalsA_len, HSL.out]; omega) HN5.out (by intro u hu; obtain ⟨z, _, rfl⟩ := List.mem_map.1 hu; rfl) (by unfold maxLen; omega) (by omega) HB5.out.1.size (fun v6 w6 g1 g2 g3 => ⟨rfl, ?_⟩))
          rw [Nat.zero_add, List.nil_append] at g1
          have hb6 : Below Wc.heap.size Wc w6 := by
            have hb5 := HB5.out.1
            have := hb5.size
            exact ⟨g2.os.trans hb5.os, g2.tape.trans hb5.tape, g2.output.trans hb5.output, Nat.le_trans hb5.size g2.size, fun j hj => (g2.block j (by omega) (by intro e; simp [Value.ownBlock] at e; omega)).trans (hb5.block j hj)⟩
          obtain ⟨gc, cc, rfl, hgc, hsp⟩ := sp_copy (p := (i : Int) + 1) HSL.out hn2 g1 (fun e => by have := (g3.1 e).1; cases this)
          have HE6 := HC.out.1.old hb6
          have k6 : w6.cell? ⟨w3.heap.size, 0, none⟩ = some (.slice av k cv) := (one_cellA HE6.ob).1
          have H6 : Hid (LwE w3 s sb (1 + X0) (1 + Y0) L k (.slice av k cv) es w6 ∧ SpIn w3.heap.size w6 ⟨(i : Int) + 1, some ⟨gc, 0, none⟩, M, cc, S⟩ ∧ gc ≠ g ∧ w6.heap[w4.heap.size + 1]? = some (.loop rb) ∧ w6.heap[w4.heap.size]? = some (.deferred rd) ∧ w6.heap[g]? = some (.cells cur 45 (0, 0)) ∧ Below Wc.heap.size Wc w6) := by
            obtain ⟨q1, q2, q3, q4, q5, q6, q7⟩ := HC.out
            exact ⟨HE6, hsp _ q1.be.size, by have := lt_of_block q6; omega, (hb6.block _ (lt_of_block q2)).trans q2, (hb6.block _ (lt_of_block q3)).trans q3, (hb6.block _ (lt_of_block q6)).trans q6, hb6⟩
          clear g1 g2 g3 hsp hgc hb6 HE6 HB5 HN5 k5
          refine hK.out _ _ trivial (fun hHeld => ?_)
          clear hK K
          try simp only [Act.put]
          try simp only [List.setIfInBounds_toArray]
          try simp only [List.set_cons_succ]
          try simp only [List.set_cons_zero]
          refine wpAnyH_take (i := 5) (v := .agg #[.int .i64 ((i : Int) + 1), .slice (some ⟨gc, 0, none⟩) M cc]) rfl (by kernel_rfl) (by kernel_rfl) (by kernel_rfl) (fun _ _ _ h => h) (Or.inl ⟨by rfl, ?_⟩) hHeld ?_
          · intro wq hSw
            clear hSw
            go_simp
          try simp only [Act.put]
          try simp only [List.setIfInBounds_toArray]
          try simp only [List.set_cons_succ]
          try simp only [List.set_cons_zero]
          refine wpAnyH_ready (rs := [6]) (by kernel_rfl) (by simp) (AllReadyH.cons (o := _) rfl (fun K hK => ?_) AllReadyH.nil)
          go_simp
          have hb7 : Below w6.heap.size w6 (w6.alloc (.cells #[.int .i64 ((i : Int) + 1), .slice (some ⟨gc, 0, none⟩) M cc] 43)) := (Below.refl _ w6).alloc (Nat.le_refl _) _
          have k7 : (w6.alloc (.cells #[.int .i64 ((i : Int) + 1), .slice (some ⟨gc, 0, none⟩) M cc] 43)).cell? ⟨w3.heap.size, 0, none⟩ = some (.slice av k cv) := (World.cell?_of_block (a := ⟨w3.heap.size, 0, none⟩) (hb7.block _ (lt_of_block H6.out.1.ob))).trans k6
          clear hb7
          refine hK.out _ _ trivial (fun hHeld => ?_)
          clear hK K
          try simp only [Act.put]
          try simp only [List.setIfInBounds_toArray]
          try simp only [List.set_cons_succ]
          try simp only [List.set_cons_zero]
          refine wpAnyH_ready (rs := [7]) (by kernel_rfl) (by simp) (AllReadyH.cons (o := _) rfl (fun K hK => ?_) AllReadyH.nil)
          have HV := H6.out.1.ls.own.alloc (.cells #[.int .i64 ((i : Int) + 1), .slice (some ⟨gc, 0, none⟩) M cc] 43)
          rw [HEL.out] at HV
          refine step_of_list rfl (wpList_append_own _ rfl _ _ 27 rfl w3.heap.size 43 i0 _ 2 32 Try.underlying27 hi0 hz0 hz1 hz2 rfl (by decide) (.slice av k cv) k (leF es) rfl HV ⟨w6.heap.size, 0, none⟩ 1 1 [.int .i64 ((i : Int) + 1), .slice (some ⟨gc, 0, none⟩) M cc] rfl rfl (new2 w6 _ _) (one2 _ _ _ _) (by unfold maxLen; omega) (by omega) (by have := H6.out.1.be.size; simp; omega) (fun v7 w7 g1 g2 _ => ⟨rfl, ?_⟩))
          rw [← HEL.out] at g1
          obtain ⟨y1, y2, y3, y4, y5, y6, y7⟩ := LwE.push (e := ⟨(i : Int) + 1, some ⟨gc, 0, none⟩, M, cc, S⟩) H6.out.1 HEN.out H6.out.2.1 g1 g2 H6.out.2.2.2.1 H6.out.2.2.2.2.1
          obtain ⟨a7, c7, hv7⟩ : ∃ a7 c7, v7 = .slice a7 (k + 1) c7 := by
            rcases g1.2 with ⟨rfl, hn⟩ | ⟨g, cap, cur, rfl, _⟩
            · omega
            · exact ⟨_, _, by rw [HEL.out]⟩
          subst hv7
          obtain ⟨w8, hw8⟩ : ∃ w8, w7.setCell ⟨w3.heap.size, 0, none⟩ (.slice a7 (k + 1) c7) = w8 := ⟨_, rfl⟩
          rw [hw8] at y3 y4 y5 y6 y7
          have H8 : Hid (LwE w3 s sb (1 + X0) (1 + Y0) L (k + 1) (.slice a7 (k + 1) c7) (es ++ [⟨(i : Int) + 1, some ⟨gc, 0, none⟩, M, cc, S⟩]) w8 ∧ w8.heap[w4.heap.size + 1]? = some (.loop rb) ∧ w8.heap[w4.heap.size]? = some (.deferred rd) ∧ KpO kpL (w4.heap.size + 1) Wc w8 ∧ w8.heap[g]? = some (.cells cur 45 (0, 0)) ∧ ∀ e ∈ (es ++ [⟨(i : Int) + 1, some ⟨gc, 0, none⟩, M, cc, S⟩] : List Le), e.L = [] ∨ ∃ q, e.a = some ⟨q, 0, none⟩ ∧ q ≠ g) := by
            obtain ⟨p1, p2, p3, p4, p5, p6, p7⟩ := H6.out
            refine ⟨y3, y4, y5, ⟨Nat.le_trans p7.size y7, fun j o _ hj ho => y6 j o ((p7.block j (lt_of_block hj)).trans hj) (fun c f e => by subst e; exact ho.2.1 rfl) (fun c f e => by subst e; exact ho.1 rfl)⟩, y6 _ _ p6 (fun c f e => by cases e) (fun c f e => by cases e), ?_⟩
            intro e he
            rcases List.mem_append.1 he with q | q
            · exact HC.out.2.2.2.1 e q
            · simp at q; subst q; exact .inr ⟨gc, rfl, p3⟩
          clear g1 g2 HV y3 y4 y5 y6 y7
          refine hK.out _ _ trivial (fun hHeld => ?_)
          clear hK K
          try simp only [Act.put]
          try simp only [List.setIfInBounds_toArray]
          try simp only [List.set_cons_succ]
          try simp only [List.set_cons_zero]
          refine wpAnyH_ready (rs := [8]) (by kernel_rfl) (by simp) (AllReadyH.cons (o := _) rfl (fun K hK => ?_) AllReadyH.nil)
          go_simp
          refine hK.out _ _ trivial (fun hHeld => ?_)
          clear hK K
          try simp only [Act.put]
          try simp only [List.setIfInBounds_toArray]
          try simp only [List.set_cons_succ]
          try simp only [List.set_cons_zero]
          refine wpAnyH_done (by kernel_rfl) ?_ _
          clear hw8 y1 y2 H6
          have H9 : Hid (SetG g M w8 w8) := ⟨rfl, rfl, rfl, rfl, fun _ _ => rfl, cur, H8.out.2.2.2.2.1, size_of_all HSL.out HC.out.2.2.2.2.2.2⟩
          clear k1 k1d k6 k7 z0 hHeld
          gi_wp2
          gi_loopw [16, 56] (fun _ v wr => ∃ r : Nat, r ≤ M ∧ v = .int .i64 r ∧ Hid (SetG g M w8 wr)) (fun _ v _ => M - (intOf v).toNat)
          case atStart => exact ⟨0, Nat.zero_le _, rfl, H9⟩
          case round =>
            obtain ⟨r, hr, rfl, HR⟩ := hrel
            clear H9
            by_cases hlt : r < M
            · obtain ⟨⟨x0, s0⟩, f0⟩ := HR.out.cell (i := r * 2) (by omega)
              obtain ⟨⟨x1, s1⟩, f1⟩ := HR.out.cell (i := r * 2 + 1) (by omega)
              have HR2 : Hid (SetG g M w8 ((wr.setCell ⟨g, r * 2, none⟩ (.int .i64 (-1))).setCell ⟨g, r * 2 + 1, none⟩ (.int .i64 (-1)))) := (HR.out.store _ _).store _ _
              clear HR
              gi_wp2
              go_roundw
              case rel => exact ⟨r + 1, hlt, by go_num, HR2⟩
              case measure => simp [intOf]; omega
            · have HF : Hid (wr.heap[w4.heap.size + 1]? = Wc.heap[w4.heap.size + 1]? ∧ wr.heap[w4.heap.size]? = Wc.heap[w4.heap.size]? ∧ KpO kpL (w4.heap.size + 1) Wc wr ∧ LwI w3 w3.heap.size s sb (1 + X0) (1 + Y0) L (k + 1) wr ∧ k + 1 ≤ ZN) := left_end H8.out.1 H8.out.2.1 H8.out.2.2.1 H8.out.2.2.2.1 H8.out.2.2.2.2.1 H8.out.2.2.2.2.2 HC.out.2.1 HC.out.2.2.1 HC.out.2.2.2.2.1 HR.out (by omega)
              obtain rfl : r = M := by omega
              clear HR
              gi_wp2
              exact HF.out
        · refine step_of_list rfl (wpList_append_own _ rfl _ _ 41 rfl Wc.heap.size 45 iS _ 2 16 Try.underlying41 hS0 hS1 hS2 hS3 rfl (by decide) (.slice (some ⟨Wc.heap.size, 0, none⟩) 0 0) 0 [] rfl HB5.out.2 ⟨g, 0, none⟩ M M (ivalsA S) rfl (by rw [ivalsA_len, HSL.out]; omega) HN5.out (by intro u hu; obtain ⟨z, _, rfl⟩ := List.mem_map.1 hu; rfl) (by unfold maxLen; omega) (by omega) HB5.out.1.size (fun v6 w6 g1 g2 g3 => ⟨rfl, ?_⟩))
          rw [Nat.zero_add, List.nil_append] at g1
          have hb6 : Below Wc.heap.size Wc w6 := by
            have hb5 := HB5.out.1
            have := hb5.size
            exact ⟨g2.os.trans hb5.os, g2.tape.trans hb5.tape, g2.output.trans hb5.output, Nat.le_trans hb5.size g2.size, fun j hj => (g2.block j (by omega) (by intro e; simp [Value.ownBlock] at e; omega)).trans (hb5.block j hj)⟩
          obtain ⟨gc, cc, rfl, hgc, hsp⟩ := sp_copy (p := (i : Int) + 1) HSL.out hn2 g1 (fun e => by have := (g3.1 e).1; cases this)
          have HE6 := HC.out.1.old hb6
          have k6 : w6.cell? ⟨w3.heap.size, 0, none⟩ = some (.slice av k cv) := (one_cellA HE6.ob).1
          have H6 : Hid (LwE w3 s sb (1 + X0) (1 + Y0) L k (.slice av k cv) es w6 ∧ SpIn w3.heap.size w6 ⟨(i : Int) + 1, some ⟨gc, 0, none⟩, M, cc, S⟩ ∧ gc ≠ g ∧ w6.heap[w4.heap.size + 1]? = some (.loop rb) ∧ w6.heap[w4.heap.size]? = some (.deferred rd) ∧ w6.heap[g]? = some (.cells cur 45 (0, 0)) ∧ Below Wc.heap.size Wc w6) := by
            obtain ⟨q1, q2, q3, q4, q5, q6, q7⟩ := HC.out
            exact ⟨HE6, hsp _ q1.be.size, by have := lt_of_block q6; omega, (hb6.block _ (lt_of_block q2)).trans q2, (hb6.block _ (lt_of_block q3)).trans q3, (hb6.block _ (lt_of_block q6)).trans q6, hb6⟩
          clear g1 g2 g3 hsp hgc hb6 HE6 HB5 HN5 k5
          refine hK.out _ _ trivial (fun hHeld => ?_)
          clear hK K
          try simp only [Act.put]
          try simp only [List.setIfInBounds_toArray]
          try simp only [List.set_cons_succ]
          try simp only [List.set_cons_zero]
          refine wpAnyH_take (i := 5) (v := .agg #[.int .i64 ((i : Int) + 1), .slice (some ⟨gc, 0, none⟩) M cc]) rfl (by kernel_rfl) (by kernel_rfl) (by kernel_rfl) (fun _ _ _ h => h) (Or.inl ⟨by rfl, ?_⟩) hHeld ?_
          · intro wq hSw
            clear hSw
            go_simp
          try simp only [Act.put]
          try simp only [List.setIfInBounds_toArray]
          try simp only [List.set_cons_succ]
          try simp only [List.set_cons_zero]
          refine wpAnyH_ready (rs := [0, 6]) (by kernel_rfl) (by simp) (AllReadyH.cons (o := _) rfl (fun K hK => ?_) (AllReadyH.cons (o := _) rfl (fun K hK => ?_) AllReadyH.nil))
          · go_simp
            refine hK.out _ _ trivial (fun hHeld => ?_)
            clear hK K
            try simp only [Act.put]
            try simp only [List.setIfInBounds_toArray]
            try simp only [List.set_cons_succ]
            try simp only [List.set_cons_zero]
            refine wpAnyH_ready (rs := [6]) (by kernel_rfl) (by simp) (AllReadyH.cons (o := _) rfl (fun K hK => ?_) AllReadyH.nil)
            go_simp
            have hb7 : Below w6.heap.size w6 (w6.alloc (.cells #[.int .i64 ((i : Int) + 1), .slice (some ⟨gc, 0, none⟩) M cc] 43)) := (Below.refl _ w6).alloc (Nat.le_refl _) _
            have k7 : (w6.alloc (.cells #[.int .i64 ((i : Int) + 1), .slice (some ⟨gc, 0, none⟩) M cc] 43)).cell? ⟨w3.heap.size, 0, none⟩ = some (.slice av k cv) := (World.cell?_of_block (a := ⟨w3.heap.size, 0, none⟩) (hb7.block _ (lt_of_block H6.out.1.ob))).trans k6
            clear hb7
            refine hK.out _ _ trivial (fun hHeld => ?_)
            clear hK K
            try simp only [Act.put]
            try simp only [List.setIfInBounds_toArray]
            try simp only [List.set_cons_succ]
            try simp only [List.set_cons_zero]
            refine wpAnyH_ready (rs := [7]) (by kernel_rfl) (by simp) (AllReadyH.cons (o := _) rfl (fun K hK => ?_) AllReadyH.nil)
            have HV := H6.out.1.ls.own.alloc (.cells #[.int .i64 ((i : Int) + 1), .slice (some ⟨gc, 0, none⟩) M cc] 43)
            rw [HEL.out] at HV
            refine step_of_list rfl (wpList_append_own _ rfl _ _ 27 rfl w3.heap.size 43 i0 _ 2 32 Try.underlying27 hi0 hz0 hz1 hz2 rfl (by decide) (.slice av k cv) k (leF es) rfl HV ⟨w6.heap.size, 0, none⟩ 1 1 [.int .i64 ((i : Int) + 1), .slice (some ⟨gc, 0, none⟩) M cc] rfl rfl (new2 w6 _ _) (one2 _ _ _ _) (by unfold maxLen; omega) (by omega) (by have := H6.out.1.be.size; simp; omega) (fun v7 w7 g1 g2 _ => ⟨rfl, ?_⟩))
            rw [← HEL.out] at g1
            obtain ⟨y1, y2, y3, y4, y5, y6, y7⟩ := LwE.push (e := ⟨(i : Int) + 1, some ⟨gc, 0, none⟩, M, cc, S⟩) H6.out.1 HEN.out H6.out.2.1 g1 g2 H6.out.2.2.2.1 H6.out.2.2.2.2.1
            obtain ⟨a7, c7, hv7⟩ : ∃ a7 c7, v7 = .slice a7 (k + 1) c7 := by
              rcases g1.2 with ⟨rfl, hn⟩ | ⟨g, cap, cur, rfl, _⟩
              · omega
              · exact ⟨_, _, by rw [HEL.out]⟩
            subst hv7
            obtain ⟨w8, hw8⟩ : ∃ w8, w7.setCell ⟨w3.heap.size, 0, none⟩ (.slice a7 (k + 1) c7) = w8 := ⟨_, rfl⟩
            rw [hw8] at y3 y4 y5 y6 y7
            have H8 : Hid (LwE w3 s sb (1 + X0) (1 + Y0) L (k + 1) (.slice a7 (k + 1) c7) (es ++ [⟨(i : Int) + 1, some ⟨gc, 0, none⟩, M, cc, S⟩]) w8 ∧ w8.heap[w4.heap.size + 1]? = some (.loop rb) ∧ w8.heap[w4.heap.size]? = some (.deferred rd) ∧ KpO kpL (w4.heap.size + 1) Wc w8 ∧ w8.heap[g]? = some (.cells cur 45 (0, 0)) ∧ ∀ e ∈ (es ++ [⟨(i : Int) + 1, some ⟨gc, 0, none⟩, M, cc, S⟩] : List Le), e.L = [] ∨ ∃ q, e.a = some ⟨q, 0, none⟩ ∧ q ≠ g) := by
              obtain ⟨p1, p2, p3, p4, p5, p6, p7⟩ := H6.out
              refine ⟨y3, y4, y5, ⟨Nat.le_trans p7.size y7, fun j o _ hj ho => y6 j o ((p7.block j (lt_of_block hj)).trans hj) (fun c f e => by subst e; exact ho.2.1 rfl) (fun c f e => by subst e; exact ho.1 rfl)⟩, y6 _ _ p6 (fun c f e => by cases e) (fun c f e => by cases e), ?_⟩
              intro e he
              rcases List.mem_append.1 he with q | q
              · exact HC.out.2.2.2.1 e q
              · simp at q; subst q; exact .inr ⟨gc, rfl, p3⟩
            clear g1 g2 HV y3 y4 y5 y6 y7
            refine hK.out _ _ trivial (fun hHeld => ?_)
            clear hK K
            try simp only [Act.put]
            try simp only [List.setIfInBounds_toArray]
            try simp only [List.set_cons_succ]
            try simp only [List.set_cons_zero]
            refine wpAnyH_ready (rs := [8]) (by kernel_rfl) (by simp) (AllReadyH.cons (o := _) rfl (fun K hK => ?_) AllReadyH.nil)
            go_simp
            refine hK.out _ _ trivial (fun hHeld => ?_)
            clear hK K
            try simp only [Act.put]
            try simp only [List.setIfInBounds_toArray]
            try simp only [List.set_cons_succ]
            try simp only [List.set_cons_zero]
            refine wpAnyH_done (by kernel_rfl) ?_ _
            clear hw8 y1 y2 H6
            have H9 : Hid (SetG g M w8 w8) := ⟨rfl, rfl, rfl, rfl, fun _ _ => rfl, cur, H8.out.2.2.2.2.1, size_of_all HSL.out HC.out.2.2.2.2.2.2⟩
            clear k1 k1d k6 k7 z0 hHeld
            gi_wp2
            gi_loopw [16, 56] (fun _ v wr => ∃ r : Nat, r ≤ M ∧ v = .int .i64 r ∧ Hid (SetG g M w8 wr)) (fun _ v _ => M - (intOf v).toNat)
            case atStart => exact ⟨0, Nat.zero_le _, rfl, H9⟩
            case round =>
              obtain ⟨r, hr, rfl, HR⟩ := hrel
              clear H9
              by_cases hlt : r < M
              · obtain ⟨⟨x0, s0⟩, f0⟩ := HR.out.cell (i := r * 2) (by omega)
                obtain ⟨⟨x1, s1⟩, f1⟩ := HR.out.cell (i := r * 2 + 1) (by omega)
                have HR2 : Hid (SetG g M w8 ((wr.setCell ⟨g, r * 2, none⟩ (.int .i64 (-1))).setCell ⟨g, r * 2 + 1, none⟩ (.int .i64 (-1)))) := (HR.out.store _ _).store _ _
                clear HR
                gi_wp2
                go_roundw
                case rel => exact ⟨r + 1, hlt, by go_num, HR2⟩
                case measure => simp [intOf]; omega
              · have HF : Hid (wr.heap[w4.heap.size + 1]? = Wc.heap[w4.heap.size + 1]? ∧ wr.heap[w4.heap.size]? = Wc.heap[w4.heap.size]? ∧ KpO kpL (w4.heap.size + 1) Wc wr ∧ LwI w3 w3.heap.size s sb (1 + X0) (1 + Y0) L (k + 1) wr ∧ k + 1 ≤ ZN) := left_end H8.out.1 H8.out.2.1 H8.out.2.2.1 H8.out.2.2.2.1 H8.out.2.2.2.2.1 H8.out.2.2.2.2.2 HC.out.2.1 HC.out.2.2.1 HC.out.2.2.2.2.1 HR.out (by omega)
                obtain rfl : r = M := by omega
                clear HR
                gi_wp2
                exact HF.out
          · go_simp
            have hb7 : Below w6.heap.size w6 (w6.alloc (.cells #[.int .i64 ((i : Int) + 1), .slice (some ⟨gc, 0, none⟩) M cc] 43)) := (Below.refl _ w6).alloc (Nat.le_refl _) _
            have k7 : (w6.alloc (.cells #[.int .i64 ((i : Int) + 1), .slice (some ⟨gc, 0, none⟩) M cc] 43)).cell? ⟨w3.heap.size, 0, none⟩ = some (.slice av k cv) := (World.cell?_of_block (a := ⟨w3.heap.size, 0, none⟩) (hb7.block _ (lt_of_block H6.out.1.ob))).trans k6
            clear hb7
            refine hK.out _ _ trivial (fun hHeld => ?_)
            clear hK K
            try simp only [Act.put]
            try simp only [List.setIfInBounds_toArray]
            try simp only [List.set_cons_succ]
            try simp only [List.set_cons_zero]
            refine wpAnyH_ready (rs := [0]) (by kernel_rfl) (by simp) (AllReadyH.cons (o := _) rfl (fun K hK => ?_) AllReadyH.nil)
            go_simp
            refine hK.out _ _ trivial (fun hHeld => ?_)
            clear hK K
            try simp only [Act.put]
            try simp only [List.setIfInBounds_toArray]
            try simp only [List.set_cons_succ]
            try simp only [List.set_cons_zero]
            refine wpAnyH_ready (rs := [7]) (by kernel_rfl) (by simp) (AllReadyH.cons (o := _) rfl (fun K hK => ?_) AllReadyH.nil)
            have HV := H6.out.1.ls.own.alloc (.cells #[.int .i64 ((i : Int) + 1), .slice (some ⟨gc, 0, none⟩) M cc] 43)
            rw [HEL.out] at HV
            refine step_of_list rfl (wpList_append_own _ rfl _ _ 27 rfl w3.heap.size 43 i0 _ 2 32 Try.underlying27 hi0 hz0 hz1 hz2 rfl (by decide) (.slice av k cv) k (leF es) rfl HV ⟨w6.heap.size, 0, none⟩ 1 1 [.int .i64 ((i : Int) + 1), .slice (some ⟨gc, 0, none⟩) M cc] rfl rfl (new2 w6 _ _) (one2 _ _ _ _) (by unfold maxLen; omega) (by omega) (by have := H6.out.1.be.size; simp; omega) (fun v7 w7 g1 g2 _ => ⟨rfl, ?_⟩))
            rw [← HEL.out] at g1
            obtain ⟨y1, y2, y3, y4, y5, y6, y7⟩ := LwE.push (e := ⟨(i : Int) + 1, some ⟨gc, 0, none⟩, M, cc, S⟩) H6.out.1 HEN.out H6.out.2.1 g1 g2 H6.out.2.2.2.1 H6.out.2.2.2.2.1
            obtain ⟨a7, c7, hv7⟩ : ∃ a7 c7, v7 = .slice a7 (k + 1) c7 := by
              rcases g1.2 with ⟨rfl, hn⟩ | ⟨g, cap, cur, rfl, _⟩
              · omega
              · exact ⟨_, _, by rw [HEL.out]⟩
            subst hv7
            obtain ⟨w8, hw8⟩ : ∃ w8, w7.setCell ⟨w3.heap.size, 0, none⟩ (.slice a7 (k + 1) c7) = w8 := ⟨_, rfl⟩
            rw [hw8] at y3 y4 y5 y6 y7
            have H8 : Hid (LwE w3 s sb (1 + X0) (1 + Y0) L (k + 1) (.slice a7 (k + 1) c7) (es ++ [⟨(i : Int) + 1, some ⟨gc, 0, none⟩, M, cc, S⟩]) w8 ∧ w8.heap[w4.heap.size + 1]? = some (.loop rb) ∧ w8.heap[w4.heap.size]? = some (.deferred rd) ∧ KpO kpL (w4.heap.size + 1) Wc w8 ∧ w8.heap[g]? = some (.cells cur 45 (0, 0)) ∧ ∀ e ∈ (es ++ [⟨(i : Int) + 1, some ⟨gc, 0, none⟩, M, cc, S⟩] : List Le), e.L = [] ∨ ∃ q, e.a = some ⟨q, 0, none⟩ ∧ q ≠ g) := by
              obtain ⟨p1, p2, p3, p4, p5, p6, p7⟩ := H6.out
              refine ⟨y3, y4, y5, ⟨Nat.le_trans p7.size y7, fun j o _ hj ho => y6 j o ((p7.block j (lt_of_block hj)).trans hj) (fun c f e => by subst e; exact ho.2.1 rfl) (fun c f e => by subst e; exact ho.1 rfl)⟩, y6 _ _ p6 (fun c f e => by cases e) (fun c f e => by cases e), ?_⟩
              intro e he
              rcases List.mem_append.1 he with q | q
              · exact HC.out.2.2.2.1 e q
              · simp at q; subst q; exact .inr ⟨gc, rfl, p3⟩
            clear g1 g2 HV y3 y4 y5 y6 y7
            refine hK.out _ _ trivial (fun hHeld => ?_)
            clear hK K
            try simp only [Act.put]
            try simp only [List.setIfInBounds_toArray]
            try simp only [List.set_cons_succ]
            try simp only [List.set_cons_zero]
            refine wpAnyH_ready (rs := [8]) (by kernel_rfl) (by simp) (AllReadyH.cons (o := _) rfl (fun K hK => ?_) AllReadyH.nil)
            go_simp
            refine hK.out _ _ trivial (fun hHeld => ?_)
            clear hK K
            try simp only [Act.put]
            try simp only [List.setIfInBounds_toArray]
            try simp only [List.set_cons_succ]
            try simp only [List.set_cons_zero]
            refine wpAnyH_done (by kernel_rfl) ?_ _
            clear hw8 y1 y2 H6
            have H9 : Hid (SetG g M w8 w8) := ⟨rfl, rfl, rfl, rfl, fun _ _ => rfl, cur, H8.out.2.2.2.2.1, size_of_all HSL.out HC.out.2.2.2.2.2.2⟩
            clear k1 k1d k6 k7 z0 hHeld
            gi_wp2
            gi_loopw [16, 56] (fun _ v wr => ∃ r : Nat, r ≤ M ∧ v = .int .i64 r ∧ Hid (SetG g M w8 wr)) (fun _ v _ => M - (intOf v).toNat)
            case atStart => exact ⟨0, Nat.zero_le _, rfl, H9⟩
            case round =>
              obtain ⟨r, hr, rfl, HR⟩ := hrel
              clear H9
              by_cases hlt : r < M
              · obtain ⟨⟨x0, s0⟩, f0⟩ := HR.out.cell (i := r * 2) (by omega)
                obtain ⟨⟨x1, s1⟩, f1⟩ := HR.out.cell (i := r * 2 + 1) (by omega)
                have HR2 : Hid (SetG g M w8 ((wr.setCell ⟨g, r * 2, none⟩ (.int .i64 (-1))).setCell ⟨g, r * 2 + 1, none⟩ (.int .i64 (-1)))) := (HR.out.store _ _).store _ _
                clear HR
                gi_wp2
                go_roundw
                case rel => exact ⟨r + 1, hlt, by go_num, HR2⟩
                case measure => simp [intOf]; omega
              · have HF : Hid (wr.heap[w4.heap.size + 1]? = Wc.heap[w4.heap.size + 1]? ∧ wr.heap[w4.heap.size]? = Wc.heap[w4.heap.size]? ∧ KpO kpL (w4.heap.size + 1) Wc wr ∧ LwI w3 w3.heap.size s sb (1 + X0) (1 + Y0) L (k + 1) wr ∧ k + 1 ≤ ZN) := left_end H8.out.1 H8.out.2.1 H8.out.2.2.1 H8.out.2.2.2.1 H8.out.2.2.2.2.1 H8.out.2.2.2.2.2 HC.out.2.1 HC.out.2.2.1 HC.out.2.2.2.2.1 HR.out (by omega)
                obtain rfl : r = M := by omega
                clear HR
                gi_wp2
                exact HF.out
  case done =>
    intro Wa HR hD hlp
    have HS4 : Hid (w.heap.size ≤ w4.heap.size ∧ w4.heap.size < Wa.heap.size) := ⟨by have := HSZ.out; have := H3.out.1.size; omega, lt_of_block hD⟩
    clear H4 HSZ hlp
    obtain ⟨k1, hk1, HI⟩ := HR
    obtain ⟨v, es, HE⟩ := HI.some
    obtain ⟨a1, c1, hv, -, -, -⟩ := HE.ls.shape
    subst hv
    have hes : es.length = k1 := by
      have e := congrArg List.length HE.key
      rw [List.length_map, List.length_take, lnsL_len, ← HN.out.2.1] at e
      omega
    rw [hes] at HE
    have HT : Hid (Below w.heap.size w Wa ∧ Wa.heap[w.heap.size]? = some (.cells #[.int .u8 (ZN : Int)] 5 (0, 0)) ∧ LsR Wa aa esA ∧ Wa.heap[w4.heap.size]? = some (.deferred (some [])) ∧ Wa.heap[w3.heap.size]? = some (.cells #[.slice a1 k1 c1] 27 (0, 0)) ∧ LsR Wa a1 es ∧ es.length = k1 ∧ es.map Le.key = (lnsL L (1 + X0) (1 + Y0)).take k1 ∧ Bx Wa s (1 + X0) (1 + Y0) sb L) :=
      ⟨H3.out.1.trans (HE.be.mono H3.out.1.size), (HE.be.block _ (lt_of_block H3.out.2.1)).trans H3.out.2.1, H3.out.2.2.1.old HE.be, hD, HE.ob, HE.ls.read, hes, HE.key, HE.bx⟩
    clear HE HI hes hD
    obtain ⟨Wb, hWb⟩ : ∃ Wb, Wa.alloc (.cells #[.slice none 0 0] 27) = Wb := ⟨_, rfl⟩
    have hbB : Below Wa.heap.size Wa Wb := by rw [← hWb]; exact (Below.refl _ Wa).alloc (Nat.le_refl _) _
    have HB0 : Hid (LwI Wa Wa.heap.size s sb (1 + X0) (1 + Y0) L 0 Wb) := ⟨⟨.slice none 0 0, [], by rw [← hWb]; exact World.alloc_heap_new Wa _, LsM.nil _ _, by simp⟩, HT.out.2.2.2.2.2.2.2.2.old hbB, hbB⟩
    have HSZ : Hid (Wa.heap.size < Wb.heap.size) := by show _ < _; rw [← hWb]; simp
    clear hbB
    go_wp2
    refine wp_range_ixG (gf := 35) rfl (callFnA Try.func35 (by kernel_rfl) (by kernel_rfl)) (lines1_iter s sb (1 + X0) (1 + Y0) L HL.out.1 HL.out.2) (fun _ _ _ _ e => by obtain ⟨_, _, _, _, _, _, _, rfl, _⟩ := e; rfl)
      (LwI Wa Wa.heap.size s sb (1 + X0) (1 + Y0) L) (fun _ _ => False) (fun i Wx Wy h hk => h.bk hk (by have := HSZ.out; omega)) (fun _ _ _ h _ => h) (fun i Wx h => h.bx) HB0.out ?body2 ?done2 (fun _ _ h _ _ => h.elim)
    case body2 =>
      clear HT HA H3 hk1 bZ
      rintro k Wp Wd args hk HI hbp hen hlp hdf
      obtain ⟨i, r, g, cur, hi, hr, rfl, rfl, hg1, hg2, hg3⟩ := hen
      simp only [List.zip_toArray, List.zip_cons_cons, List.zip_nil_right, List.foldl_toArray, List.foldl_cons, List.foldl_nil, List.setIfInBounds_toArray, List.set_cons_succ, List.set_cons_zero]
      obtain ⟨r1, hr1⟩ := hlp
      obtain ⟨r2, hr2⟩ := hdf
      have hp : picN (1 + X0) (1 + Y0) := by by_cases hp : picN (1 + X0) (1 + Y0); exact hp; (unfold psN at hi; rw [if_neg hp] at hi; omega)
      have hwb := wid_bd (stAt_ok HL.out.1 i) (w := 1 + X0) (h := 1 + Y0) hp.2.1
      have hn2 : wNt L (1 + X0) (1 + Y0) i ≤ 2048 := by unfold wNt widAt; omega
      have HEN : Hid ((lnsL L (1 + X0) (1 + Y0))[bsN (hNt L (1 + X0) (1 + Y0)) i + r]? = some (((i : Int) + 1), lnS L (1 + X0) (1 + Y0) i r)) := lnsI_at L (1 + X0) (1 + Y0) hi hr
      have HI2 : Hid (LwI Wa Wa.heap.size s sb (1 + X0) (1 + Y0) L (bsN (hNt L (1 + X0) (1 + Y0)) i + r) Wd ∧ Wd.heap[Wb.heap.size + 1]? = some (.loop r1) ∧ Wd.heap[Wb.heap.size]? = some (.deferred r2) ∧ SpIn Wa.heap.size Wd ⟨(i : Int) + 1, some ⟨g, 0, none⟩, wNt L (1 + X0) (1 + Y0) i, wNt L (1 + X0) (1 + Y0) i, lnS L (1 + X0) (1 + Y0) i r⟩) :=
        ⟨HI.bk (Bk.of_below _ hbp) (Nat.le_refl _), hr1, hr2, spL_len .., Nat.le_refl _, hn2, .inr ⟨g, cur, rfl, Nat.le_trans HI.be.size hg3, hg1, hg2⟩⟩
      have HLN : Hid (bsN (hNt L (1 + X0) (1 + Y0)) i + r < 20000) := Nat.lt_of_lt_of_le hk (lnN_bd HL.out.1 HL.out.2 (1 + X0) (1 + Y0))
      clear hk HI hbp hg1 hg2 hg3 hr1 hr2 hwb hp hn2 Wp cur
      obtain ⟨k, hk⟩ : ∃ k, bsN (hNt L (1 + X0) (1 + Y0)) i + r = k := ⟨_, rfl⟩
      rw [hk] at HEN HI2 HLN ⊢
      generalize lnS L (1 + X0) (1 + Y0) i r = S at *
      generalize wNt L (1 + X0) (1 + Y0) i = M at *
      clear hk hr hi
      gi_wp2
      refine ⟨trivial, trivial, KpO.refl _ _ _, ?_⟩
      intro o hbk ho hdf ho2
      obtain ⟨rb, rfl⟩ := ho2
      obtain ⟨rd, hrd⟩ := hdf
      have HC : Hid (LwI Wa Wa.heap.size s sb (1 + X0) (1 + Y0) L k (Wd.putObj (Wb.heap.size + 1) (.loop rb)) ∧ SpIn Wa.heap.size (Wd.putObj (Wb.heap.size + 1) (.loop rb)) ⟨(i : Int) + 1, some ⟨g, 0, none⟩, M, M, S⟩ ∧ (Wd.putObj (Wb.heap.size + 1) (.loop rb)).heap[Wb.heap.size + 1]? = some (.loop rb) ∧ (Wd.putObj (Wb.heap.size + 1) (.loop rb)).heap[Wb.heap.size]? = some (.deferred rd)) :=
        ⟨HI2.out.1.bk hbk (by have := HSZ.out; omega), HI2.out.2.2.2.same fun g cur _ hq => hbk.cells hq, ho, hrd⟩
      generalize Wd.putObj (Wb.heap.size + 1) (.loop rb) = Wc at *
      clear hbk ho hrd HI2
      obtain ⟨v, es, h1, h2, h3⟩ := HC.out.1.ob
      obtain ⟨av, cv, hv, hc1, hc2, hc3⟩ := h2.shape
      subst hv
      have hes : es.length ≤ 20000 := by
        have e := congrArg List.length h3
        rw [List.length_map, List.length_take] at e
        have := HLN.out; omega
      have HV : Hid (LsM Wa.heap.size Wc (.slice av es.length cv) es) := h2
      have HP : Hid (∀ v7 w7, w7.ownsRow Wa.heap.size 43 2 v7 (es.length + 1) (leF es ++ [.int .i64 ((i : Int) + 1), .slice (some ⟨g, 0, none⟩) M M]) → (Wc.alloc (.cells #[.int .i64 ((i : Int) + 1), .slice (some ⟨g, 0, none⟩) M M] 43)).grownBy w7 (Value.ownBlock (.slice av es.length cv)) →
          w7.cell? ⟨Wa.heap.size, 0, none⟩ = some (.slice av es.length cv) ∧ w7.frozen? ⟨Wa.heap.size, 0, none⟩ = false ∧ LwI Wa Wa.heap.size s sb (1 + X0) (1 + Y0) L (k + 1) (w7.setCell ⟨Wa.heap.size, 0, none⟩ v7) ∧ (w7.setCell ⟨Wa.heap.size, 0, none⟩ v7).heap[Wb.heap.size + 1]? = Wc.heap[Wb.heap.size + 1]? ∧ (w7.setCell ⟨Wa.heap.size, 0, none⟩ v7).heap[Wb.heap.size]? = Wc.heap[Wb.heap.size]? ∧ KpO kpL (Wb.heap.size + 1) Wc (w7.setCell ⟨Wa.heap.size, 0, none⟩ v7)) := fun v7 w7 g1 g2 =>
        LwI.push (e := ⟨(i : Int) + 1, some ⟨g, 0, none⟩, M, M, S⟩) h1 h2 h3 HC.out.1.bx HC.out.1.be HEN.out HC.out.2.1 g1 g2 HC.out.2.2.1 HC.out.2.2.2
      have k1 := (one_cellA h1).1
      have HB : Hid (Wa.heap.size ≤ Wc.heap.size) := HC.out.1.be.size
      obtain ⟨EL, hEL⟩ : ∃ EL, es.length = EL := ⟨_, rfl⟩
      rw [hEL] at k1 hc1 hes
      have HEL : Hid (es.length = EL) := hEL
      clear h1 h2 h3 hc2 hc3 HC hEL
      gi_wp2_with (gi_at_builtin; refine wpListIn_append_own _ rfl _ _ 27 rfl Wa.heap.size 43 i0 (.agg #[.int .i64 0, .slice none 0 0]) 2 32 Try.underlying27 hi0 hz0 hz1 hz2 rfl (by decide) (.slice av EL cv) EL (leF es) rfl ?c0 ⟨Wc.heap.size, 0, none⟩ 1 1 [.int .i64 ((i : Int) + 1), .slice (some ⟨g, 0, none⟩) M M] rfl rfl ?c1 ?c2 ?c3 ?c4 ?c5 ?_)
      case c0 => have := HV.out.own.alloc (.cells #[.int .i64 ((i : Int) + 1), .slice (some ⟨g, 0, none⟩) M M] 43); rw [HEL.out] at this; exact this
      case c1 =>
        intro j u hj
        match j, hj with
        | 0, hj => simp at hj; subst hj; exact World.cell?_alloc_mark ..
        | 1, hj => simp at hj; subst hj; exact World.cell?_alloc_mark ..
      case c2 => intro u hu; simp at hu; rcases hu with rfl | rfl <;> rfl
      case c3 => unfold maxLen; omega
      case c4 => omega
      case c5 => have := HB.out; simp; omega
      intro v7 w7 g1 g2 _
      rw [← HEL.out] at g1 g2
      obtain ⟨y1, y2, y3, y4, y5, y6⟩ := HP.out v7 w7 g1 g2
      rw [HEL.out] at y1
      obtain ⟨a7, c7, hv7⟩ : ∃ a7 c7, v7 = .slice a7 (es.length + 1) c7 := by
        rcases g1.2 with ⟨rfl, hn⟩ | ⟨g, cap, cur, rfl, _⟩
        · omega
        · exact ⟨_, _, rfl⟩
      rw [HEL.out] at hv7
      subst hv7
      clear g1 g2 HP HV k1
      gi_wp2
      exact ⟨y4, y5, y6, y3⟩
    case done2 =>
      intro Wd HI hD hlp
      clear hlp HB0 hWb
      obtain ⟨v, es2, HE⟩ := HI.some
      obtain ⟨a2, c2, hv, -, -, -⟩ := HE.ls.shape
      subst hv
      have hes : es2.length = N := by
        have e := congrArg List.length HE.key
        rw [List.length_map, List.length_take, lnsL_len, ← HN.out.2.1] at e
        omega
      rw [hes] at HE
      have hkey : es2.map Le.key = esA.map Le.key := by rw [HE.key, H3.out.2.2.2.1, ← lnsL_len, List.take_length]
      obtain ⟨t1, t2, t3, t4, t5, t6, t7, t8, t9⟩ := HT.out
      have hbd : Below Wa.heap.size Wa Wd := HE.be
      have HS1 : Hid (∀ u, Below Wd.heap.size Wd u → Calls Try.prog 12 #[.slice a1 k1 c1, .slice aa k1 ca] u fun e u' => e = .returned (.bool true) ∧ Hid (Below Wd.heap.size Wd u') ∧ u'.cell? ⟨w3.heap.size, 0, none⟩ = some (.slice a1 k1 c1) ∧ u'.cell? ⟨Wa.heap.size, 0, none⟩ = some (.slice a2 N c2) ∧ u'.cell? ⟨w.heap.size, 0, none⟩ = some (.int .u8 (ZN : Int))) := fun u hu => by
        have hau : Below Wa.heap.size Wa u := hbd.trans (hu.mono hbd.size)
        refine (rsame_any a1 aa k1 c1 ca es (esA.take k1) u t7 (t6.old hau) ((t3.old hau).take k1) (by rw [t8, List.map_take, H3.out.2.2.2.1]) (by have := HN.out; omega)).mono ?_
        rintro e u' ⟨rfl, hb⟩
        have h2 := hu.trans (hb.mono hu.size)
        have h3 := hbd.trans (h2.mono hbd.size)
        exact ⟨rfl, h2, (one_cellA ((h3.block _ (lt_of_block t5)).trans t5)).1, (one_cellA ((h2.block _ (lt_of_block HE.ob)).trans HE.ob)).1, (one_cellA ((h3.block _ (lt_of_block t2)).trans t2)).1⟩
      have HS2 : Hid (∀ u, Below Wd.heap.size Wd u → Calls Try.prog 12 #[.slice a2 N c2, .slice aa N ca] u fun e u' => e = .returned (.bool true) ∧ Hid (Below Wd.heap.size Wd u') ∧ u'.cell? ⟨w3.heap.size, 0, none⟩ = some (.slice a1 k1 c1) ∧ u'.cell? ⟨Wa.heap.size, 0, none⟩ = some (.slice a2 N c2) ∧ u'.cell? ⟨w.heap.size, 0, none⟩ = some (.int .u8 (ZN : Int))) := fun u hu => by
        have hau : Below Wa.heap.size Wa u := hbd.trans (hu.mono hbd.size)
        refine (rsame_any a2 aa N c2 ca es2 esA u hes (HE.ls.read.old hu) (t3.old hau) hkey (by have := HN.out; omega)).mono ?_
        rintro e u' ⟨rfl, hb⟩
        have h2 := hu.trans (hb.mono hu.size)
        have h3 := hbd.trans (h2.mono hbd.size)
        exact ⟨rfl, h2, (one_cellA ((h3.block _ (lt_of_block t5)).trans t5)).1, (one_cellA ((h2.block _ (lt_of_block HE.ob)).trans HE.ob)).1, (one_cellA ((h3.block _ (lt_of_block t2)).trans t2)).1⟩
      have HWD : Hid (Below Wd.heap.size Wd Wd.drew) := ⟨rfl, rfl, rfl, Nat.le_refl _, fun _ _ => rfl⟩
      have d0 : Wd.drew.cell? ⟨w3.heap.size, 0, none⟩ = some (.slice a1 k1 c1) := (one_cellA ((hbd.block _ (lt_of_block t5)).trans t5)).1
      have d1 : Wd.drew.cell? ⟨Wa.heap.size, 0, none⟩ = some (.slice a2 N c2) := (one_cellA HE.ob).1
      have d2 : Wd.drew.cell? ⟨w.heap.size, 0, none⟩ = some (.int .u8 (ZN : Int)) := (one_cellA ((hbd.block _ (lt_of_block t2)).trans t2)).1
      have HDF : Hid (Below w.heap.size w Wd ∧ Wd.heap[w4.heap.size]? = some (.deferred (some [])) ∧ Wd.heap[Wb.heap.size]? = some (.deferred (some []))) := ⟨t1.trans (hbd.mono t1.size), (hbd.block _ (lt_of_block t4)).trans t4, hD⟩
      have HKB : Hid (k1 = min N ZN) := hk1
      have hNb : N ≤ 20000 := HN.out.2.2
      have hkN : k1 ≤ N := by omega
      clear t1 t2 t3 t4 t5 t6 t7 t8 t9 hbd HE HI hD hkey hes HT H3
      clear bA bB hA2 hB2 hXb hYb
      rcases HA.out with ⟨-, hN0, -⟩ | ⟨⟨ga, rfl⟩, hca⟩
      · exact absurd hN0 (by have := HNP.out; have := HN.out.2.1; omega)
      · by_cases hm : N ≤ ZN
        · obtain rfl : k1 = N := by omega
          have hm2 : ¬ ((ZN : Int) < (k1 : Int)) := by omega
          have hm3 : (k1 : Int) ≤ (ZN : Int) := by omega
          have hzw : IntKind.i64.wrap (ZN : Int) = ZN := by rw [IntKind.wrap_i64]; omega
          clear hk1
          go_upto_region 22 with fail
          refine wp_region_held2 (fun u => u.cell? ⟨w3.heap.size, 0, none⟩ = some (.slice a1 k1 c1) ∧ u.cell? ⟨Wa.heap.size, 0, none⟩ = some (.slice a2 k1 c2) ∧ u.cell? ⟨w.heap.size, 0, none⟩ = some (.int .u8 (ZN : Int))) (by kernel_rfl) ⟨d0, d1, d2⟩ ?_
          intro hHeld
          refine wpAnyH_take (i := 0) (v := .slice a1 k1 c1) rfl (by kernel_rfl) (by kernel_rfl) (by kernel_rfl) onlyN_panic (Or.inl ⟨by kernel_rfl, ?_⟩) hHeld ?_
          · intro wq hSw
            obtain ⟨hS0, hS1, hS2⟩ := hSw
            go_simp
          try simp only [Act.put]
          try simp only [List.setIfInBounds_toArray]
          try simp only [List.set_cons_succ]
          try simp only [List.set_cons_zero]
          refine wpAnyH_take (i := 1) (v := .int .i64 (k1 : Int)) rfl (by kernel_rfl) (by kernel_rfl) (by kernel_rfl) onlyN_panic (Or.inl ⟨by kernel_rfl, ?_⟩) hHeld ?_
          · intro wq hSw
            obtain ⟨hS0, hS1, hS2⟩ := hSw
            go_simp
          try simp only [Act.put]
          try simp only [List.setIfInBounds_toArray]
          try simp only [List.set_cons_succ]
          try simp only [List.set_cons_zero]
          refine wpAnyH_take (i := 2) (v := .slice (some ⟨ga, 0, none⟩) k1 ca) rfl (by kernel_rfl) (by kernel_rfl) (by kernel_rfl) onlyN_panic (Or.inl ⟨by kernel_rfl, ?_⟩) hHeld ?_
          · intro wq hSw
            obtain ⟨hS0, hS1, hS2⟩ := hSw
            go_simp
          try simp only [Act.put]
          try simp only [List.setIfInBounds_toArray]
          try simp only [List.set_cons_succ]
          try simp only [List.set_cons_zero]
          refine wpAnyH_take (i := 3) (v := .int .i64 (k1 : Int)) rfl (by kernel_rfl) (by kernel_rfl) (by kernel_rfl) onlyN_panic (Or.inl ⟨by kernel_rfl, ?_⟩) hHeld ?_
          · intro wq hSw
            obtain ⟨hS0, hS1, hS2⟩ := hSw
            go_simp
          try simp only [Act.put]
          try simp only [List.setIfInBounds_toArray]
          try simp only [List.set_cons_succ]
          try simp only [List.set_cons_zero]
          refine wpAnyH_take (i := 4) (v := .int .u8 (ZN : Int)) rfl (by kernel_rfl) (by kernel_rfl) (by kernel_rfl) onlyN_panic (Or.inl ⟨by kernel_rfl, ?_⟩) hHeld ?_
          · intro wq hSw
            obtain ⟨hS0, hS1, hS2⟩ := hSw
            go_simp
          try simp only [Act.put]
          try simp only [List.setIfInBounds_toArray]
          try simp only [List.set_cons_succ]
          try simp only [List.set_cons_zero]
          refine wpAnyH_take (i := 5) (v := .int .i64 (ZN : Int)) rfl (by kernel_rfl) (by kernel_rfl) (by kernel_rfl) onlyN_panic (Or.inl ⟨by kernel_rfl, ?_⟩) hHeld ?_
          · intro wq hSw
            obtain ⟨hS0, hS1, hS2⟩ := hSw
            go_simp
          try simp only [Act.put]
          try simp only [List.setIfInBounds_toArray]
          try simp only [List.set_cons_succ]
          try simp only [List.set_cons_zero]
          refine wpAnyH_take (i := 6) (v := .int .i64 (k1 : Int)) rfl (by kernel_rfl) (by kernel_rfl) (by kernel_rfl) onlyN_panic (Or.inl ⟨by kernel_rfl, ?_⟩) hHeld ?_
          · intro wq hSw
            obtain ⟨hS0, hS1, hS2⟩ := hSw
            go_simp
          try simp only [Act.put]
          try simp only [List.setIfInBounds_toArray]
          try simp only [List.set_cons_succ]
          try simp only [List.set_cons_zero]
          refine wpAnyH_take (i := 7) (v := .bool true) rfl (by kernel_rfl) (by kernel_rfl) (by kernel_rfl) onlyN_panic (Or.inl ⟨by kernel_rfl, ?_⟩) hHeld ?_
          · intro wq hSw
            obtain ⟨hS0, hS1, hS2⟩ := hSw
            go_simp
          try simp only [Act.put]
          try simp only [List.setIfInBounds_toArray]
          try simp only [List.set_cons_succ]
          try simp only [List.set_cons_zero]
          refine wpAnyH_take (i := 8) (v := .bool true) rfl (by kernel_rfl) (by kernel_rfl) (by kernel_rfl) onlyN_panic (Or.inl ⟨by kernel_rfl, ?_⟩) hHeld ?_
          · intro wq hSw
            obtain ⟨hS0, hS1, hS2⟩ := hSw
            go_simp
          try simp only [Act.put]
          try simp only [List.setIfInBounds_toArray]
          try simp only [List.set_cons_succ]
          try simp only [List.set_cons_zero]
          refine wpAnyH_take (i := 9) (v := .slice a1 k1 c1) rfl (by kernel_rfl) (by kernel_rfl) (by kernel_rfl) onlyN_panic (Or.inl ⟨by kernel_rfl, ?_⟩) hHeld ?_
          · intro wq hSw
            obtain ⟨hS0, hS1, hS2⟩ := hSw
            go_simp
          try simp only [Act.put]
          try simp only [List.setIfInBounds_toArray]
          try simp only [List.set_cons_succ]
          try simp only [List.set_cons_zero]
          refine wpAnyH_take (i := 10) (v := .slice (some ⟨ga, 0, none⟩) k1 ca) rfl (by kernel_rfl) (by kernel_rfl) (by kernel_rfl) onlyN_panic (Or.inl ⟨by kernel_rfl, ?_⟩) hHeld ?_
          · intro wq hSw
            obtain ⟨hS0, hS1, hS2⟩ := hSw
            go_simp
          try simp only [Act.put]
          try simp only [List.setIfInBounds_toArray]
          try simp only [List.set_cons_succ]
          try simp only [List.set_cons_zero]
          refine wpAnyH_take (i := 11) (v := .slice a1 k1 c1) rfl (by kernel_rfl) (by kernel_rfl) (by kernel_rfl) onlyN_panic (Or.inl ⟨by kernel_rfl, ?_⟩) hHeld ?_
          · intro wq hSw
            obtain ⟨hS0, hS1, hS2⟩ := hSw
            go_simp
          try simp only [Act.put]
          try simp only [List.setIfInBounds_toArray]
          try simp only [List.set_cons_succ]
          try simp only [List.set_cons_zero]
          refine wpAnyH_take (i := 12) (v := .int .i64 (k1 : Int)) rfl (by kernel_rfl) (by kernel_rfl) (by kernel_rfl) onlyN_panic (Or.inl ⟨by kernel_rfl, ?_⟩) hHeld ?_
          · intro wq hSw
            obtain ⟨hS0, hS1, hS2⟩ := hSw
            go_simp
          try simp only [Act.put]
          try simp only [List.setIfInBounds_toArray]
          try simp only [List.set_cons_succ]
          try simp only [List.set_cons_zero]
          refine wpAnyH_take (i := 13) (v := .slice (some ⟨ga, 0, none⟩) k1 ca) rfl (by kernel_rfl) (by kernel_rfl) (by kernel_rfl) onlyN_panic (Or.inl ⟨by kernel_rfl, ?_⟩) hHeld ?_
          · intro wq hSw
            obtain ⟨hS0, hS1, hS2⟩ := hSw
            go_simp
          try simp only [Act.put]
          try simp only [List.setIfInBounds_toArray]
          try simp only [List.set_cons_succ]
          try simp only [List.set_cons_zero]
          refine wpAnyH_ready (rs := [14]) (by kernel_rfl) (by simp) (AllReadyH.cons (o := _) rfl (fun K hK => ?_) AllReadyH.nil)
          go_simp
          go_at_call 12
          refine Calls.mono (HS1.out _ HWD.out) ?_
          rintro e w7 ⟨rfl, hj1, r0, r1, r2⟩
          first | (refine hK.out _ _ ⟨r0, r1, r2⟩ (fun hHeld => ?_)) | (go_wp2_with fail; refine hK.out _ _ ⟨r0, r1, r2⟩ (fun hHeld => ?_))
          clear hK K
          try simp only [Act.put]
          try simp only [List.setIfInBounds_toArray]
          try simp only [List.set_cons_succ]
          try simp only [List.set_cons_zero]
          refine wpAnyH_take (i := 15) (v := .bool true) rfl (by kernel_rfl) (by kernel_rfl) (by kernel_rfl) onlyN_panic (Or.inl ⟨by kernel_rfl, ?_⟩) hHeld ?_
          · intro wq hSw
            obtain ⟨hS0, hS1, hS2⟩ := hSw
            go_simp
          try simp only [Act.put]
          try simp only [List.setIfInBounds_toArray]
          try simp only [List.set_cons_succ]
          try simp only [List.set_cons_zero]
          refine wpAnyH_take (i := 16) (v := .bool true) rfl (by kernel_rfl) (by kernel_rfl) (by kernel_rfl) onlyN_panic (Or.inl ⟨by kernel_rfl, ?_⟩) hHeld ?_
          · intro wq hSw
            obtain ⟨hS0, hS1, hS2⟩ := hSw
            go_simp
          try simp only [Act.put]
          try simp only [List.setIfInBounds_toArray]
          try simp only [List.set_cons_succ]
          try simp only [List.set_cons_zero]
          refine wpAnyH_take (i := 17) (v := .slice a2 k1 c2) rfl (by kernel_rfl) (by kernel_rfl) (by kernel_rfl) onlyN_panic (Or.inl ⟨by kernel_rfl, ?_⟩) hHeld ?_
          · intro wq hSw
            obtain ⟨hS0, hS1, hS2⟩ := hSw
            go_simp
          try simp only [Act.put]
          try simp only [List.setIfInBounds_toArray]
          try simp only [List.set_cons_succ]
          try simp only [List.set_cons_zero]
          refine wpAnyH_take (i := 18) (v := .slice (some ⟨ga, 0, none⟩) k1 ca) rfl (by kernel_rfl) (by kernel_rfl) (by kernel_rfl) onlyN_panic (Or.inl ⟨by kernel_rfl, ?_⟩) hHeld ?_
          · intro wq hSw
            obtain ⟨hS0, hS1, hS2⟩ := hSw
            go_simp
          try simp only [Act.put]
          try simp only [List.setIfInBounds_toArray]
          try simp only [List.set_cons_succ]
          try simp only [List.set_cons_zero]
          refine wpAnyH_ready (rs := [19]) (by kernel_rfl) (by simp) (AllReadyH.cons (o := _) rfl (fun K hK => ?_) AllReadyH.nil)
          go_simp
          go_at_call 12
          refine Calls.mono (HS2.out _ hj1.out) ?_
          rintro e w8 ⟨rfl, hj2, s0, s1, s2⟩
          first | (refine hK.out _ _ ⟨s0, s1, s2⟩ (fun hHeld => ?_)) | (go_wp2_with fail; refine hK.out _ _ ⟨s0, s1, s2⟩ (fun hHeld => ?_))
          clear hK K
          try simp only [Act.put]
          try simp only [List.setIfInBounds_toArray]
          try simp only [List.set_cons_succ]
          try simp only [List.set_cons_zero]
          refine wpAnyH_take (i := 20) (v := .bool true) rfl (by kernel_rfl) (by kernel_rfl) (by kernel_rfl) onlyN_panic (Or.inl ⟨by kernel_rfl, ?_⟩) hHeld ?_
          · intro wq hSw
            obtain ⟨hS0, hS1, hS2⟩ := hSw
            go_simp
          try simp only [Act.put]
          try simp only [List.setIfInBounds_toArray]
          try simp only [List.set_cons_succ]
          try simp only [List.set_cons_zero]
          refine wpAnyH_take (i := 21) (v := .bool true) rfl (by kernel_rfl) (by kernel_rfl) (by kernel_rfl) onlyN_panic (Or.inl ⟨by kernel_rfl, ?_⟩) hHeld ?_
          · intro wq hSw
            obtain ⟨hS0, hS1, hS2⟩ := hSw
            go_simp
          try simp only [Act.put]
          try simp only [List.setIfInBounds_toArray]
          try simp only [List.set_cons_succ]
          try simp only [List.set_cons_zero]
          refine wpAnyH_done (by kernel_rfl) ⟨rfl, ?_⟩ _
          have HF : Hid _ := left_fin HDF.out.1 HDF.out.2.1 HDF.out.2.2 hj2.out HS4.out.1 (Nat.lt_trans HS4.out.2 HSZ.out)
          clear HS1 HS2 hj1 hj2 r0 r1 r2 s0 s1 s2 d0 d1 d2 HWD HDF hHeld
          try simp only [List.getElem_toArray]
          try simp only [List.getElem_cons_succ]
          try simp only [List.getElem_cons_zero]
          try dsimp only
          go_wp2
          refine ⟨by simp, .inl ⟨_, _, rfl, run_takeDeferred HF.out.1, ?_⟩⟩
          refine ⟨by simp, .inl ⟨_, _, rfl, run_takeDeferred HF.out.2.1, ?_⟩⟩
          refine ⟨_, results_tmp rfl _ _ _, ?_⟩
          simp only [Array.getD_eq_getD_getElem?, List.getElem?_toArray, List.getElem?_cons_succ, List.getElem?_cons_zero, Option.getD_some]
          exact ⟨trivial, HF.out.2.2⟩
        · obtain rfl : k1 = ZN := by omega
          have hm2 : (k1 : Int) < (N : Int) := by omega
          have hm3 : ¬ ((N : Int) ≤ (k1 : Int)) := by omega
          have hck : k1 ≤ ca := by omega
          have hzw : IntKind.i64.wrap (k1 : Int) = k1 := by rw [IntKind.wrap_i64]; omega
          clear hk1
          go_upto_region 22 with fail
          refine wp_region_held2 (fun u => u.cell? ⟨w3.heap.size, 0, none⟩ = some (.slice a1 k1 c1) ∧ u.cell? ⟨Wa.heap.size, 0, none⟩ = some (.slice a2 N c2) ∧ u.cell? ⟨w.heap.size, 0, none⟩ = some (.int .u8 (k1 : Int))) (by kernel_rfl) ⟨d0, d1, d2⟩ ?_
          intro hHeld
          refine wpAnyH_take (i := 0) (v := .slice a1 k1 c1) rfl (by kernel_rfl) (by kernel_rfl) (by kernel_rfl) onlyN_panic (Or.inl ⟨by kernel_rfl, ?_⟩) hHeld ?_
          · intro wq hSw
            obtain ⟨hS0, hS1, hS2⟩ := hSw
            go_simp
          try simp only [Act.put]
          try simp only [List.setIfInBounds_toArray]
          try simp only [List.set_cons_succ]
          try simp only [List.set_cons_zero]
          refine wpAnyH_take (i := 1) (v := .int .i64 (k1 : Int)) rfl (by kernel_rfl) (by kernel_rfl) (by kernel_rfl) onlyN_panic (Or.inl ⟨by kernel_rfl, ?_⟩) hHeld ?_
          · intro wq hSw
            obtain ⟨hS0, hS1, hS2⟩ := hSw
            go_simp
          try simp only [Act.put]
          try simp only [List.setIfInBounds_toArray]
          try simp only [List.set_cons_succ]
          try simp only [List.set_cons_zero]
          refine wpAnyH_take (i := 2) (v := .slice (some ⟨ga, 0, none⟩) N ca) rfl (by kernel_rfl) (by kernel_rfl) (by kernel_rfl) onlyN_panic (Or.inl ⟨by kernel_rfl, ?_⟩) hHeld ?_
          · intro wq hSw
            obtain ⟨hS0, hS1, hS2⟩ := hSw
            go_simp
          try simp only [Act.put]
          try simp only [List.setIfInBounds_toArray]
          try simp only [List.set_cons_succ]
          try simp only [List.set_cons_zero]
          refine wpAnyH_take (i := 3) (v := .int .i64 (N : Int)) rfl (by kernel_rfl) (by kernel_rfl) (by kernel_rfl) onlyN_panic (Or.inl ⟨by kernel_rfl, ?_⟩) hHeld ?_
          · intro wq hSw
            obtain ⟨hS0, hS1, hS2⟩ := hSw
            go_simp
          try simp only [Act.put]
          try simp only [List.setIfInBounds_toArray]
          try simp only [List.set_cons_succ]
          try simp only [List.set_cons_zero]
          refine wpAnyH_take (i := 4) (v := .int .u8 (k1 : Int)) rfl (by kernel_rfl) (by kernel_rfl) (by kernel_rfl) onlyN_panic (Or.inl ⟨by kernel_rfl, ?_⟩) hHeld ?_
          · intro wq hSw
            obtain ⟨hS0, hS1, hS2⟩ := hSw
            go_simp
          try simp only [Act.put]
          try simp only [List.setIfInBounds_toArray]
          try simp only [List.set_cons_succ]
          try simp only [List.set_cons_zero]
          refine wpAnyH_take (i := 5) (v := .int .i64 (k1 : Int)) rfl (by kernel_rfl) (by kernel_rfl) (by kernel_rfl) onlyN_panic (Or.inl ⟨by kernel_rfl, ?_⟩) hHeld ?_
          · intro wq hSw
            obtain ⟨hS0, hS1, hS2⟩ := hSw
            go_simp
          try simp only [Act.put]
          try simp only [List.setIfInBounds_toArray]
          try simp only [List.set_cons_succ]
          try simp only [List.set_cons_zero]
          refine wpAnyH_take (i := 6) (v := .int .i64 (k1 : Int)) rfl (by kernel_rfl) (by kernel_rfl) (by kernel_rfl) onlyN_panic (Or.inl ⟨by kernel_rfl, ?_⟩) hHeld ?_
          · intro wq hSw
            obtain ⟨hS0, hS1, hS2⟩ := hSw
            go_simp
          try simp only [Act.put]
          try simp only [List.setIfInBounds_toArray]
          try simp only [List.set_cons_succ]
          try simp only [List.set_cons_zero]
          refine wpAnyH_take (i := 7) (v := .bool true) rfl (by kernel_rfl) (by kernel_rfl) (by kernel_rfl) onlyN_panic (Or.inl ⟨by kernel_rfl, ?_⟩) hHeld ?_
          · intro wq hSw
            obtain ⟨hS0, hS1, hS2⟩ := hSw
            go_simp
          try simp only [Act.put]
          try simp only [List.setIfInBounds_toArray]
          try simp only [List.set_cons_succ]
          try simp only [List.set_cons_zero]
          refine wpAnyH_take (i := 8) (v := .bool true) rfl (by kernel_rfl) (by kernel_rfl) (by kernel_rfl) onlyN_panic (Or.inl ⟨by kernel_rfl, ?_⟩) hHeld ?_
          · intro wq hSw
            obtain ⟨hS0, hS1, hS2⟩ := hSw
            go_simp
          try simp only [Act.put]
          try simp only [List.setIfInBounds_toArray]
          try simp only [List.set_cons_succ]
          try simp only [List.set_cons_zero]
          refine wpAnyH_take (i := 9) (v := .slice a1 k1 c1) rfl (by kernel_rfl) (by kernel_rfl) (by kernel_rfl) onlyN_panic (Or.inl ⟨by kernel_rfl, ?_⟩) hHeld ?_
          · intro wq hSw
            obtain ⟨hS0, hS1, hS2⟩ := hSw
            go_simp
          try simp only [Act.put]
          try simp only [List.setIfInBounds_toArray]
          try simp only [List.set_cons_succ]
          try simp only [List.set_cons_zero]
          refine wpAnyH_take (i := 10) (v := .slice (some ⟨ga, 0, none⟩) N ca) rfl (by kernel_rfl) (by kernel_rfl) (by kernel_rfl) onlyN_panic (Or.inl ⟨by kernel_rfl, ?_⟩) hHeld ?_
          · intro wq hSw
            obtain ⟨hS0, hS1, hS2⟩ := hSw
            go_simp
          try simp only [Act.put]
          try simp only [List.setIfInBounds_toArray]
          try simp only [List.set_cons_succ]
          try simp only [List.set_cons_zero]
          refine wpAnyH_take (i := 11) (v := .slice a1 k1 c1) rfl (by kernel_rfl) (by kernel_rfl) (by kernel_rfl) onlyN_panic (Or.inl ⟨by kernel_rfl, ?_⟩) hHeld ?_
          · intro wq hSw
            obtain ⟨hS0, hS1, hS2⟩ := hSw
            go_simp
          try simp only [Act.put]
          try simp only [List.setIfInBounds_toArray]
          try simp only [List.set_cons_succ]
          try simp only [List.set_cons_zero]
          refine wpAnyH_take (i := 12) (v := .int .i64 (k1 : Int)) rfl (by kernel_rfl) (by kernel_rfl) (by kernel_rfl) onlyN_panic (Or.inl ⟨by kernel_rfl, ?_⟩) hHeld ?_
          · intro wq hSw
            obtain ⟨hS0, hS1, hS2⟩ := hSw
            go_simp
          try simp only [Act.put]
          try simp only [List.setIfInBounds_toArray]
          try simp only [List.set_cons_succ]
          try simp only [List.set_cons_zero]
          refine wpAnyH_take (i := 13) (v := .slice (some ⟨ga, 0, none⟩) k1 ca) rfl (by kernel_rfl) (by kernel_rfl) (by kernel_rfl) onlyN_panic (Or.inl ⟨by kernel_rfl, ?_⟩) hHeld ?_
          · intro wq hSw
            obtain ⟨hS0, hS1, hS2⟩ := hSw
            go_simp
          try simp only [Act.put]
          try simp only [List.setIfInBounds_toArray]
          try simp only [List.set_cons_succ]
          try simp only [List.set_cons_zero]
          refine wpAnyH_ready (rs := [14]) (by kernel_rfl) (by simp) (AllReadyH.cons (o := _) rfl (fun K hK => ?_) AllReadyH.nil)
          go_simp
          go_at_call 12
          refine Calls.mono (HS1.out _ HWD.out) ?_
          rintro e w7 ⟨rfl, hj1, r0, r1, r2⟩
          first | (refine hK.out _ _ ⟨r0, r1, r2⟩ (fun hHeld => ?_)) | (go_wp2_with fail; refine hK.out _ _ ⟨r0, r1, r2⟩ (fun hHeld => ?_))
          clear hK K
          try simp only [Act.put]
          try simp only [List.setIfInBounds_toArray]
          try simp only [List.set_cons_succ]
          try simp only [List.set_cons_zero]
          refine wpAnyH_take (i := 15) (v := .bool true) rfl (by kernel_rfl) (by kernel_rfl) (by kernel_rfl) onlyN_panic (Or.inl ⟨by kernel_rfl, ?_⟩) hHeld ?_
          · intro wq hSw
            obtain ⟨hS0, hS1, hS2⟩ := hSw
            go_simp
          try simp only [Act.put]
          try simp only [List.setIfInBounds_toArray]
          try simp only [List.set_cons_succ]
          try simp only [List.set_cons_zero]
          refine wpAnyH_take (i := 16) (v := .bool true) rfl (by kernel_rfl) (by kernel_rfl) (by kernel_rfl) onlyN_panic (Or.inl ⟨by kernel_rfl, ?_⟩) hHeld ?_
          · intro wq hSw
            obtain ⟨hS0, hS1, hS2⟩ := hSw
            go_simp
          try simp only [Act.put]
          try simp only [List.setIfInBounds_toArray]
          try simp only [List.set_cons_succ]
          try simp only [List.set_cons_zero]
          refine wpAnyH_take (i := 17) (v := .slice a2 N c2) rfl (by kernel_rfl) (by kernel_rfl) (by kernel_rfl) onlyN_panic (Or.inl ⟨by kernel_rfl, ?_⟩) hHeld ?_
          · intro wq hSw
            obtain ⟨hS0, hS1, hS2⟩ := hSw
            go_simp
          try simp only [Act.put]
          try simp only [List.setIfInBounds_toArray]
          try simp only [List.set_cons_succ]
          try simp only [List.set_cons_zero]
          refine wpAnyH_take (i := 18) (v := .slice (some ⟨ga, 0, none⟩) N ca) rfl (by kernel_rfl) (by kernel_rfl) (by kernel_rfl) onlyN_panic (Or.inl ⟨by kernel_rfl, ?_⟩) hHeld ?_
          · intro wq hSw
            obtain ⟨hS0, hS1, hS2⟩ := hSw
            go_simp
          try simp only [Act.put]
          try simp only [List.setIfInBounds_toArray]
          try simp only [List.set_cons_succ]
          try simp only [List.set_cons_zero]
          refine wpAnyH_ready (rs := [19]) (by kernel_rfl) (by simp) (AllReadyH.cons (o := _) rfl (fun K hK => ?_) AllReadyH.nil)
          go_simp
          go_at_call 12
          refine Calls.mono (HS2.out _ hj1.out) ?_
          rintro e w8 ⟨rfl, hj2, s0, s1, s2⟩
          first | (refine hK.out _ _ ⟨s0, s1, s2⟩ (fun hHeld => ?_)) | (go_wp2_with fail; refine hK.out _ _ ⟨s0, s1, s2⟩ (fun hHeld => ?_))
          clear hK K
          try simp only [Act.put]
          try simp only [List.setIfInBounds_toArray]
          try simp only [List.set_cons_succ]
          try simp only [List.set_cons_zero]
          refine wpAnyH_take (i := 20) (v := .bool true) rfl (by kernel_rfl) (by kernel_rfl) (by kernel_rfl) onlyN_panic (Or.inl ⟨by kernel_rfl, ?_⟩) hHeld ?_
          · intro wq hSw
            obtain ⟨hS0, hS1, hS2⟩ := hSw
            go_simp
          try simp only [Act.put]
          try simp only [List.setIfInBounds_toArray]
          try simp only [List.set_cons_succ]
          try simp only [List.set_cons_zero]
          refine wpAnyH_take (i := 21) (v := .bool true) rfl (by kernel_rfl) (by kernel_rfl) (by kernel_rfl) onlyN_panic (Or.inl ⟨by kernel_rfl, ?_⟩) hHeld ?_
          · intro wq hSw
            obtain ⟨hS0, hS1, hS2⟩ := hSw
            go_simp
          try simp only [Act.put]
          try simp only [List.setIfInBounds_toArray]
          try simp only [List.set_cons_succ]
          try simp only [List.set_cons_zero]
          refine wpAnyH_done (by kernel_rfl) ⟨rfl, ?_⟩ _
          have HF : Hid _ := left_fin HDF.out.1 HDF.out.2.1 HDF.out.2.2 hj2.out HS4.out.1 (Nat.lt_trans HS4.out.2 HSZ.out)
          clear HS1 HS2 hj1 hj2 r0 r1 r2 s0 s1 s2 d0 d1 d2 HWD HDF hHeld
          try simp only [List.getElem_toArray]
          try simp only [List.getElem_cons_succ]
          try simp only [List.getElem_cons_zero]
          try dsimp only
          go_wp2
          refine ⟨by simp, .inl ⟨_, _, rfl, run_takeDeferred HF.out.1, ?_⟩⟩
          refine ⟨by simp, .inl ⟨_, _, rfl, run_takeDeferred HF.out.2.1, ?_⟩⟩
          refine ⟨_, results_tmp rfl _ _ _, ?_⟩
          simp only [Array.getD_eq_getD_getElem?, List.getElem?_toArray, List.getElem?_cons_succ, List.getElem?_cons_zero, Option.getD_some]
          exact ⟨trivial, HF.out.2.2⟩
end Go.Proofs.Ytjkhldnjciakkaa
