/- LZW: a decoder reads codes: read. -/
import Derived.Test.YtcbmlioeeoghkaaLzI
namespace Go.Proofs.Ytcbmlioeeoghkaa
open Go.RowKit
attribute [local go_sem] Oper.semAt_some
theorem Lg.mono {base : Nat} {S S' : Nat → Prop} {w : World} {d L r : Nat} {g : Option Nat} {fv : Value} {s : Lz} (h : Lg base S w d L r g fv s) (hs : ∀ k, S k → S' k) : Lg base S' w d L r g fv s :=
  ⟨h.dc, h.rd, h.tb, h.gn, h.gz, h.bz, h.zl, h.wf, h.ct, h.ah, h.k0, h.er, h.re, h.lf, hs _ h.sd, hs _ h.sr, fun k hk => hs k (h.sg k hk), fun k hk => hs k (h.sf k hk), h.bs⟩
theorem LrE.on {w : World} {base : Nat} {S0 : Nat → Prop} {d L r : Nat} {g : Option Nat} {s0 : Lz} {rs : List Nat} {s : Lz} {tv : Value} {tg : Option Nat} {W1 W2 : World} (h : LrE w base S0 d L r g s0 rs s tv tg W1) (hk2 : s.k = 2) (hd : d < w.heap.size) (ho : W2.os = W1.os ∧ W2.tape = W1.tape ∧ W2.output = W1.output) (hz : W1.heap.size ≤ W2.heap.size)
    (hb : ∀ k, (k < w.heap.size + 2 ∨ tg = some k ∨ k ∈ rs) → W2.heap[k]? = W1.heap[k]?) : LrE w base S0 d L r g s0 rs s tv tg W2 := by
  obtain ⟨T, h1, h2⟩ := h.sl
  refine ⟨?_, (hb _ (.inl (by omega))).trans h.tc, ⟨T, h1.same fun k hk => hb k (.inr (.inl hk)), h2⟩, h.tn, fun q hq => ⟨(h.ms q hq).1, (hb q (.inr (.inr hq))).trans (h.ms q hq).2⟩, h.nd, ?_, h.go⟩
  · rcases h.le with ⟨e, _⟩ | ⟨e, _⟩ | ⟨e1, e2, e3, e4⟩
    · omega
    · omega
    · exact .inr (.inr ⟨e1, e2, e3, (hb d (.inl (by omega))).trans e4⟩)
  · exact ⟨ho.1.trans h.fr.os, ho.2.1.trans h.fr.tape, ho.2.2.trans h.fr.output, Nat.le_trans h.fr.size hz, fun k hk hn => (hb k (.inl (by omega))).trans (h.fr.block k hk hn)⟩
theorem LrI.mark {w : World} {base : Nat} {S0 : Nat → Prop} {d L r : Nat} {g : Option Nat} {s0 : Lz} {rs : List Nat} {s : Lz} {fv tv : Value} {tg : Option Nat} {W1 : World} {m : Nat} (h : LrI w base S0 d L r g s0 rs s fv tv tg W1) (h1 : w.heap.size + 2 ≤ m) (h2 : W1.heap[m]? = some (.deferred (some []))) (h3 : m ∉ rs) : LrI w base S0 d L r g s0 (m :: rs) s fv tv tg W1 := by
  refine ⟨h.lg, h.db, h.tc, h.sl, h.tn, fun q hq => ?_, List.nodup_cons.2 ⟨h3, h.nd⟩, h.fr, h.lo⟩
  rcases List.mem_cons.1 hq with rfl | hq
  · exact ⟨h1, h2⟩
  · exact h.ms q hq
theorem LrE.mark {w : World} {base : Nat} {S0 : Nat → Prop} {d L r : Nat} {g : Option Nat} {s0 : Lz} {rs : List Nat} {s : Lz} {tv : Value} {tg : Option Nat} {W1 : World} {m : Nat} (h : LrE w base S0 d L r g s0 rs s tv tg W1) (h1 : w.heap.size + 2 ≤ m) (h2 : W1.heap[m]? = some (.deferred (some []))) (h3 : m ∉ rs) : LrE w base S0 d L r g s0 (m :: rs) s tv tg W1 := by
  refine ⟨h.le, h.tc, h.sl, h.tn, fun q hq => ?_, List.nodup_cons.2 ⟨h3, h.nd⟩, h.fr, h.go⟩
  rcases List.mem_cons.1 hq with rfl | hq
  · exact ⟨h1, h2⟩
  · exact h.ms q hq
theorem letsOut_blockL {id : Nat} {mk : LoopState → Option Code → Loop} {l : Nat} {R : Ending → World → Prop} : ¬ LetsOut (Exit.inBlock id (rfPost mk l R)) := by
  rintro ⟨a, w, h⟩
  exact h
set_option maxHeartbeats 400000 in
theorem text_any (d c : Nat) (w : World) : Calls Try.prog 48 #[.pointer (some ⟨d, 6, none⟩), .int .i64 c] w fun e w' => e = .returned (.func (.func 59) #[] #[.pointer (some ⟨w.heap.size + 1, 0, none⟩), .pointer (some ⟨w.heap.size, 0, none⟩)]) ∧ w' = (w.alloc (.cells #[.pointer (some ⟨d, 6, none⟩)] 94)).alloc (.cells #[.int .i64 (c : Int)] 3) := by
  go_enter Try.func48, Try.ntmps48
  go_wp2
  go_ret
  exact ⟨rfl, rfl⟩
set_option maxHeartbeats 6400000 in
set_option maxRecDepth 100000 in
theorem read_any9 {w : World} {base : Nat} {S0 : Nat → Prop} {d L r : Nat} {g : Option Nat} {fv0 : Value} {s0 : Lz} (hL : 2 ≤ L ∧ L ≤ 8) (h : Lg base S0 w d L r g fv0 s0) :
    Calls Try.prog 25 #[.pointer (some ⟨d, 0, none⟩)] w fun e w' => ReP w base S0 d L r g s0 e w' := by
  obtain ⟨w1, hw1⟩ : ∃ w1, (w.alloc (.cells #[.pointer (some ⟨d, 0, none⟩)] 24)).alloc (.cells #[.slice none 0 0] 22) = w1 := ⟨_, rfl⟩
  have HI1 : Hid (LrI w base S0 d L r g s0 [] s0 fv0 (.slice none 0 0) none w1) := by
    have hb : Below w.heap.size w w1 := by rw [← hw1]; exact ((Below.refl _ w).alloc (Nat.le_refl _) _).alloc (by simp) _
    refine ⟨(h.kept (fun j c t f hj => (hb.block j (lt_of_block hj)).trans hj) hb.size).mono (fun k hk => .inl hk), ?_, ?_, ⟨[], Sl.nil _ _, by simp⟩, (fun k hk => by cases hk), (fun q hq => by simp at hq), List.nodup_nil, LFr.of_below hb, ⟨lt_of_block h.dc, h.rd.lt, fun k hk => h.rd.glt hk⟩⟩
    · rw [← hw1, Below.heap_alloc _ _ _ (by simp)]; exact World.alloc_heap_new w _
    · rw [← hw1]; have := World.alloc_heap_new (w.alloc (.cells #[.pointer (some ⟨d, 0, none⟩)] 24)) (.cells #[.slice none 0 0] 22); rwa [World.size_alloc] at this
  have HB0 : Hid (lzB s0 ≤ 8000000) := by have := h.zl; unfold lzB; show _ ≤ _; omega
  clear h
  refine calls_of_wp_marks Try.func25 rfl ?_
  simp only [Try.ntmps25, List.size_toArray, List.length_cons, List.length_nil, Nat.reduceAdd, Nat.reduceSub, Array.replicate_succ, Array.replicate_zero, List.push_toArray, List.append_toArray, List.nil_append, List.cons_append]
  go_wp2_with fail
  go_step3
  go_wp2_with fail
  go_step3
  go_wp2_with fail
  clear hw1
  refine wp_loop (fun a wr => ∃ (rs : List Nat) (s : Lz) (fv tv : Value) (tg : Option Nat) (u4 u5 u7 u8 u9 u10 u11 u12 u13 u14 u15 u16 u17 u18 u19 u20 u21 u22 u23 u24 u25 u26 u27 u28 u29 u30 u31 u32 u33 u34 u35 u36 u37 u38 u39 u40 u41 u42 u43 u44 u45 u46 u47 u48 u49 u50 u51 u52 u53 u54 u55 u56 u57 u58 u59 u60 u61 u62 : Value), a = { tmps := #[.pointer (some ⟨d, 0, none⟩), .pointer (some ⟨w.heap.size, 0, none⟩), .slice none 0 0, .pointer (some ⟨w.heap.size + 1, 0, none⟩), u4, u5, undef, u7, u8, u9, u10, u11, u12, u13, u14, u15, u16, u17, u18, u19, u20, u21, u22, u23, u24, u25, u26, u27, u28, u29, u30, u31, u32, u33, u34, u35, u36, u37, u38, u39, u40, u41, u42, u43, u44, u45, u46, u47, u48, u49, u50, u51, u52, u53, u54, u55, u56, u57, u58, u59, u60, u61, u62, undef, undef, undef, undef, undef, undef, undef, undef, undef, undef, undef, undef, undef, undef, undef, undef, undef, undef, undef, undef], defers := marksL rs } ∧ Hid (LrI w base S0 d L r g s0 rs s fv tv tg wr) ∧ Hid (lzG L s0 = lzG L s) ∧ Hid (s.out.length + 4100 * lzB s ≤ s0.out.length + 4100 * lzB s0)) (fun _ wr => bitsAt wr r) ?start ?round
  case start => exact ⟨[], s0, fv0, .slice none 0 0, none, undef, undef, undef, undef, undef, undef, undef, undef, undef, undef, undef, undef, undef, undef, undef, undef, undef, undef, undef, undef, undef, undef, undef, undef, undef, undef, undef, undef, undef, undef, undef, undef, undef, undef, undef, undef, undef, undef, undef, undef, undef, undef, undef, undef, undef, undef, undef, undef, undef, undef, undef, undef, undef, undef, undef, undef, undef, undef, rfl, HI1, rfl, Nat.le_refl _⟩
  case round =>
    clear HI1
    rintro a wr ⟨rs, s, fv, tv, tg, u4, u5, u7, u8, u9, u10, u11, u12, u13, u14, u15, u16, u17, u18, u19, u20, u21, u22, u23, u24, u25, u26, u27, u28, u29, u30, u31, u32, u33, u34, u35, u36, u37, u38, u39, u40, u41, u42, u43, u44, u45, u46, u47, u48, u49, u50, u51, u52, u53, u54, u55, u56, u57, u58, u59, u60, u61, u62, rfl, HI, HGO, HOB⟩
    have HSO : Hid (∀ t, lzS L s = some t → t.out.length + 4100 * lzB t ≤ s0.out.length + 4100 * lzB s0) := fun t ht => Nat.le_trans (lzS_out hL HI.out.lg.wf HI.out.lg.ct HI.out.lg.ah ht) HOB.out
    obtain ⟨fa, fc, hfv, -⟩ := HI.out.lg.tb.shape
    have x0 := (one_cellL HI.out.db).1
    obtain ⟨k0, k1, k2, k3, k4, k5⟩ := HI.out.lg.dc.head
    obtain ⟨k6, k7, k8⟩ := HI.out.lg.dc.tab
    have hfl := HI.out.lg.ct
    have hF : 6 ≤ fcN L ∧ fcN L ≤ 258 := by have := fc_bd hL; unfold fcN; omega
    rw [hfv] at k7
    have HCo : Hid (∀ n, Calls Try.prog 42 #[.pointer (some ⟨d, 6, none⟩)] (wr.drewN n) fun e w' => e = .returned (.int .i64 ((fcN L + s.fs.length : Nat) : Int)) ∧ ∃ m, w' = wr.drewN m) := fun n => (count_any (w := wr.drewN n) hL k6 k7 (by omega)).mono fun e w' ⟨e1, e2⟩ => ⟨e1, n + 1, e2⟩
    have HWi : Hid (∀ w, Calls Try.prog 41 #[.int .i64 L, .int .i64 ((fcN L + s.fs.length : Nat) : Int)] w fun e w' => e = .returned (.int .i64 (lzW L s : Int)) ∧ w' = w) := fun w => width_any hL (by omega) w
    have hWb := widN_le L (fcN L + s.fs.length) hL.2
    have hWe : lzW L s = widN L (fcN L + s.fs.length) := rfl
    rw [← hWe] at hWb
    clear hWe
    generalize fcN L + s.fs.length = N at *
    obtain ⟨W, hW⟩ : ∃ W, lzW L s = W := ⟨_, rfl⟩
    have HW : Hid (lzW L s = W) := hW
    rw [hW] at HWi hWb
    clear hW hfl hF k1 k2 k3 k4 k6 k7 k8
    by_cases hen : 8 * s.zs.length < s.gone + W
    · have HTk : Hid (∀ n, Calls Try.prog 40 #[.pointer (some ⟨r, 0, none⟩), .int .i64 W] (wr.drewN n) fun e w' => e = .returned (.tuple #[.int .i64 0, .bool false]) ∧ ∃ m, w' = wr.drewN m) := fun n =>
        (take_no r g s.zs s.gone W _ (HI.out.lg.rd.drewN n) (by have := HI.out.lg.zl; omega) HI.out.lg.gn (by omega)).mono fun e w' ⟨e1, m, e2⟩ => ⟨e1, n + m, by rw [e2, drewN_add]⟩
      clear hfv
      go_wp2
      go_region_held3 (fun u => u.cell? ⟨w.heap.size, 0, none⟩ = some (.pointer (some ⟨d, 0, none⟩)) ∧ u.cell? ⟨d, 5, none⟩ = some (.pointer (some ⟨r, 0, none⟩)) ∧ u.cell? ⟨d, 0, none⟩ = some (.int .i64 L))
        (first | (with_reducible exact ⟨by with_reducible assumption, by with_reducible assumption, by with_reducible assumption⟩) | go_keep) (first
        | (go_at_call 42; refine Calls.mono (HCo.out 1) ?_; rintro e w4 ⟨rfl, m4, rfl⟩)
        | (go_at_call 41; refine Calls.mono (HWi.out _) ?_; rintro e w5 ⟨rfl, hw5⟩; subst w5)
        | (go_at_call 40; refine Calls.mono (HTk.out _) ?_; rintro e w6 ⟨rfl, m6, rfl⟩)
        | fail)
      have HE : Hid (LrE w base S0 d L r g s0 rs s tv tg (wr.drewN m6)) := (HI.out.drew m6).stop HGO.out (by unfold lzS; rw [HW.out, if_pos hen])
      obtain ⟨T, hT, -⟩ := HE.out.sl
      obtain ⟨ta, tc, htv, -⟩ := hT.shape
      have c3 := (one_cellL HE.out.tc).1
      generalize (vals T).length = tn at htv
      subst htv
      clear hT HCo HWi HTk x0 k0 k5 hWb hen HI HW
      generalize wr.drewN m6 = wf at *
      go_wp2
      rw [Exit.noGoto_ret]
      refine leaves_marksL (by simp) rs wf (fun q hq => (HE.out.ms q hq).2) HE.out.nd ?_
      refine ⟨_, results_tmp rfl _ _ _, ?_⟩
      simp only [Array.getD_eq_getD_getElem?, List.getElem?_toArray, List.getElem?_cons_succ, List.getElem?_cons_zero, Option.getD_some]
      exact HE.out.fin
    · have hen' : s.gone + W ≤ 8 * s.zs.length := by omega
      obtain ⟨v, hv⟩ : ∃ v, bitV s.zs s.gone % 2 ^ W = v := ⟨_, rfl⟩
      have hvb : 0 ≤ v ∧ v < 4096 := by
        rw [← hv]
        have h1 := Int.emod_nonneg (bitV s.zs s.gone) (show (2 : Int) ^ W ≠ 0 by have := two_pos W; omega)
        have h2 := Int.emod_lt_of_pos (bitV s.zs s.gone) (two_pos W)
        have h3 : (2 : Int) ^ W ≤ 2 ^ 12 := by
          have := Nat.pow_le_pow_right (show 0 < 2 by omega) hWb.2
          exact_mod_cast this
        have h4 : (2 : Int) ^ 12 = 4096 := by decide
        omega
      obtain ⟨c, hc⟩ : ∃ c : Nat, v = (c : Int) := ⟨v.toNat, by omega⟩
      have HV : Hid (lzV s W = c ∧ c < 4096) := by
        refine ⟨?_, by omega⟩
        unfold lzV; rw [hv, hc]; simp
      subst hc
      have HK0 : Hid (s.k = 0) := HI.out.lg.k0
      have HTk : Hid (∀ n, Calls Try.prog 40 #[.pointer (some ⟨r, 0, none⟩), .int .i64 W] (wr.drewN n) fun e w' => e = .returned (.tuple #[.int .i64 (c : Int), .bool true]) ∧ LrI w base S0 d L r g s0 rs (lzP s W) fv tv tg w') := fun n =>
        (take_yes r g s.zs s.gone W _ (HI.out.lg.rd.drewN n) HI.out.lg.bz (by have := HI.out.lg.zl; omega) HI.out.lg.gn (by omega) hen').mono fun e w' ⟨e1, e2, e3⟩ => ⟨by rw [e1, hv], HI.out.take hen' e2 e3⟩
      have HST : Hid (lzS L s = some (lzC L (lzP s W) c)) := by
        show _ = _
        unfold lzS; rw [HW.out, if_neg hen, HV.out.1]
      clear hfv hv hvb
      go_wp2
      go_region_held3 (fun u => u.cell? ⟨w.heap.size, 0, none⟩ = some (.pointer (some ⟨d, 0, none⟩)) ∧ u.cell? ⟨d, 5, none⟩ = some (.pointer (some ⟨r, 0, none⟩)) ∧ u.cell? ⟨d, 0, none⟩ = some (.int .i64 L))
        (first | (with_reducible exact ⟨by with_reducible assumption, by with_reducible assumption, by with_reducible assumption⟩) | go_keep) (first
        | (go_at_call 42; refine Calls.mono (HCo.out 1) ?_; rintro e w4 ⟨rfl, m4, rfl⟩)
        | (go_at_call 41; refine Calls.mono (HWi.out _) ?_; rintro e w5 ⟨rfl, hw5⟩; subst w5)
        | (go_at_call 40; refine Calls.mono (HTk.out _) ?_; rintro e w6 ⟨rfl, hI6⟩; have x6 := (one_cellL hI6.db).1; obtain ⟨y0, -, -, -, -, y5⟩ := hI6.lg.dc.head)
        | fail)
      have HI6 : Hid (LrI w base S0 d L r g s0 rs (lzP s W) fv tv tg w6) := hI6
      have HMe : Hid (8 * (lzP s W).zs.length - (lzP s W).gone < bitsAt wr r) := by
        show _ < _
        rw [HI.out.lg.rd.bits]
        show 8 * (s.zs.drop ((s.gone + W) / 8)).length - (s.gone + W) % 8 < _
        have := HI.out.lg.gn
        rw [List.length_drop]; omega
      clear hI6 HCo HWi HTk HI x0 k0 k5
      obtain ⟨s1, hs1⟩ : ∃ s1, lzP s W = s1 := ⟨_, rfl⟩
      have HO1 : Hid (s1.out = s.out) := by rw [← hs1]; rfl
      rw [hs1] at HI6 HST HMe
      clear hs1
      have CC := clearCode_any hL w6
      have CE := endCode_any hL w6
      have hb := fc_bd hL
      obtain ⟨P, hP⟩ : ∃ P, 2 ^ L = P := ⟨_, rfl⟩
      have HP : Hid (2 ^ L = P) := hP
      rw [hP] at CC CE hb
      clear hP
      by_cases hcl : c = P
      · have HT : Hid (lzC L s1 c = { s1 with fs := [], ah := -1 }) := by show _ = _; unfold lzC; rw [if_pos (by rw [HP.out]; exact hcl)]
        have CM := empty_any HI6.out.lg.dc HI6.out.lg.tb
        subst hcl
        clear CE
        go_wp2_with fail
        refine CC.mono ?_
        clear CC
        rintro e w' ⟨rfl, hw'⟩
        subst w'
        go_wp2_with fail
        refine CM.mono ?_
        clear CM
        rintro e w7 ⟨rfl, hq⟩
        obtain ⟨fv7, hI7⟩ := HI6.out.tab hq (WfT.nil L) (by have := fc_bd hL; unfold fcN; simp; omega) (.inl rfl)
        have HN : Hid (LrI w base S0 d L r g s0 rs { s1 with fs := [], ah := -1 } fv7 tv tg w7 ∧ lzG L s0 = lzG L { s1 with fs := [], ah := -1 } ∧ bitsAt w7 r < bitsAt wr r ∧ ({ s1 with fs := [], ah := -1 } : Lz).out.length + 4100 * lzB { s1 with fs := [], ah := -1 } ≤ s0.out.length + 4100 * lzB s0) := by
          refine ⟨hI7, ?_, ?_, ?_⟩
          · rw [HGO.out, lzG_step hL.2 HK0.out HST.out, HT.out]
          · rw [hI7.lg.rd.bits]; exact HMe.out
          · have := HSO.out _ HST.out; rwa [HT.out] at this
        clear hq hI7 HI6 x6 y0 y5 HST HMe HT
        go_wp2
        exact ⟨⟨rs, _, fv7, tv, tg, _, _, _, _, _, _, _, _, _, _, _, _, _, _, _, _, _, _, _, _, _, _, _, _, _, _, _, _, _, _, _, _, _, _, _, _, _, _, _, _, _, _, _, _, _, _, _, _, _, _, _, _, _, _, _, _, _, _, rfl, HN.out.1, HN.out.2.1, HN.out.2.2.2⟩, HN.out.2.2.1⟩
      by_cases hce : c = P + 1
      · have HT : Hid (lzC L s1 c = { s1 with k := 1, fs := [], ah := 0, rest := if s1.gone = 0 then s1.zs else s1.zs.drop 1, zs := [], gone := 0 }) := by show _ = _; unfold lzC; rw [if_neg (by rw [HP.out]; exact hcl), if_pos (by rw [HP.out]; exact hce)]
        have CM := end_any HI6.out.lg.dc HI6.out.lg.rd (by have := HI6.out.lg.zl; omega) HI6.out.lg.gn HI6.out.lg.gz
        have hclI : ¬ (c : Int) = (P : Int) := by omega
        subst hce
        go_wp2_with fail
        refine CC.mono ?_
        clear CC
        rintro e w' ⟨rfl, hw'⟩
        subst w'
        go_wp2_with fail
        refine CE.mono ?_
        clear CE
        rintro e w' ⟨rfl, hw'⟩
        subst w'
        go_wp2_with fail
        refine CM.mono ?_
        clear CM
        rintro e w7 ⟨rfl, a7, c7, gr, hd7, hs7, hg7, hf7⟩
        have HE : Hid (LrE w base S0 d L r g s0 rs { s1 with k := 1, fs := [], ah := 0, rest := if s1.gone = 0 then s1.zs else s1.zs.drop 1, zs := [], gone := 0 } tv tg w7) := by
          refine HI6.out.over hf7 (.inr (.inl ⟨rfl, HI6.out.lg.er, _, gr, hd7, hs7, fun k hk => ⟨.inr ?_, fun e => ?_⟩⟩)) rfl ?_
          · have e1 := hg7 k hk; have e2 := HI6.out.fr.size; omega
          · obtain ⟨T, hT, -⟩ := HI6.out.sl
            have e1 := hg7 k hk; have e2 := hT.lt e; omega
          · rw [HGO.out, lzG_done hL.2 HK0.out HST.out (by rw [HT.out]; simp), HT.out]
        clear hd7 hs7 hg7 hf7 HI6 x6 y0 y5 HST HMe HT
        obtain ⟨T, hT, -⟩ := HE.out.sl
        obtain ⟨ta, tc, htv, -⟩ := hT.shape
        have c3 := (one_cellL HE.out.tc).1
        generalize (vals T).length = tn at htv
        subst htv
        clear hT
        go_wp2
        rw [Exit.noGoto_ret]
        refine leaves_marksL (by simp) rs w7 (fun q hq => (HE.out.ms q hq).2) HE.out.nd ?_
        refine ⟨_, results_tmp rfl _ _ _, ?_⟩
        simp only [Array.getD_eq_getD_getElem?, List.getElem?_toArray, List.getElem?_cons_succ, List.getElem?_cons_zero, Option.getD_some]
        exact HE.out.fin
      have hclI : ¬ (c : Int) = (P : Int) := by omega
      have hceI : ¬ (c : Int) = ((P + 1 : Nat) : Int) := by omega
      have CF := follow_any (c := c) hL HI6.out.lg.dc HI6.out.lg.tb HI6.out.lg.bs HI6.out.lg.wf (by have := HI6.out.lg.ct; omega) HI6.out.lg.ah
      unfold FoP at CF
      have HTT : Hid (lzC L s1 c = match flwN L s1.fs s1.ah c with | none => lzF s1 6 | some fs' => lzT s1 fs' c (txC L fs' c)) := by show _ = _; unfold lzC; rw [if_neg (by rw [HP.out]; exact hcl), if_neg (by rw [HP.out]; exact hce)]; rfl
      cases hfl : flwN L s1.fs s1.ah c with
      | none =>
        rw [hfl] at CF HTT
        simp only at CF
        have HT : Hid (lzC L s1 c = lzF s1 6) := HTT.out
        have HFA : Hid (∀ n, Calls Try.prog 47 #[.pointer (some ⟨d, 0, none⟩), .int .i64 6] (w6.drewN n) fun e w' => e = .returned (.tuple #[]) ∧ Dc w' d L s1.left 6 false (.slice none 0 0) (.pointer none) 0 (.slice none 0 0) 0 ∧ Fr (w6.drewN n) w' d none) := fun n => fail_any (w := w6.drewN n) 6 HI6.out.lg.dc
        clear HTT hfl
        go_wp2_with fail
        refine CC.mono ?_
        clear CC
        rintro e w' ⟨rfl, hw'⟩
        subst w'
        go_wp2_with fail
        refine CE.mono ?_
        clear CE
        rintro e w' ⟨rfl, hw'⟩
        subst w'
        go_wp2_with fail
        refine CF.mono ?_
        clear CF
        rintro e w' ⟨rfl, n7, hw'⟩
        subst w'
        have CX := HFA.out n7
        go_wp2_with fail
        refine CX.mono ?_
        clear CX HFA
        rintro e w8 ⟨rfl, hd8, hf8⟩
        have HE : Hid (LrE w base S0 d L r g s0 rs (lzF s1 6) tv tg w8) := by
          refine HI6.out.over ⟨hf8.os, hf8.tape, hf8.output, hf8.size, fun k hk hn => hf8.block k hk (fun e => hn (.inl e)) (fun e => by cases e)⟩ (.inr (.inr ⟨rfl, by show (6 : Int) ≠ 0; decide, HI6.out.lg.re, hd8⟩)) rfl ?_
          rw [HGO.out, lzG_done hL.2 HK0.out HST.out (by rw [HT.out]; show 2 ≠ 0; decide), HT.out]
        clear hd8 hf8 HI6 x6 y0 y5 HST HMe HT
        obtain ⟨T, hT, -⟩ := HE.out.sl
        obtain ⟨ta, tc, htv, -⟩ := hT.shape
        have c3 := (one_cellL HE.out.tc).1
        generalize (vals T).length = tn at htv
        subst htv
        clear hT
        go_wp2
        rw [Exit.noGoto_ret]
        refine leaves_marksL (by simp) rs w8 (fun q hq => (HE.out.ms q hq).2) HE.out.nd ?_
        refine ⟨_, results_tmp rfl _ _ _, ?_⟩
        simp only [Array.getD_eq_getD_getElem?, List.getElem?_toArray, List.getElem?_cons_succ, List.getElem?_cons_zero, Option.getD_some]
        exact HE.out.fin
      | some fs' =>
        rw [hfl] at CF HTT
        simp only at CF
        obtain ⟨o1, o2, o3⟩ := flwN_ok HI6.out.lg.wf HI6.out.lg.ct HI6.out.lg.ah HV.out.2 hfl
        have HT : Hid (lzC L s1 c = lzT s1 fs' c (txC L fs' c)) := HTT.out
        have HOK : Hid (WfT L fs' ∧ fcN L + fs'.length ≤ 4096 ∧ c < fcN L + fs'.length) := ⟨o1, o2, o3⟩
        clear HTT hfl o1 o2 o3
        go_wp2_with fail
        refine CC.mono ?_
        clear CC
        rintro e w' ⟨rfl, hw'⟩
        subst w'
        go_wp2_with fail
        refine CE.mono ?_
        clear CE
        rintro e w' ⟨rfl, hw'⟩
        subst w'
        go_wp2_with fail
        refine CF.mono ?_
        clear CF
        rintro e w7 ⟨rfl, hq⟩
        obtain ⟨fv7, hI7⟩ := HI6.out.tab hq HOK.out.1 HOK.out.2.1 (.inr ⟨c, rfl, HOK.out.2.2⟩)
        obtain ⟨s2, hs2⟩ : ∃ s2 : Lz, ({ s1 with fs := fs', ah := (c : Int) } : Lz) = s2 := ⟨_, rfl⟩
        have HS2 : Hid (s2 = { s1 with fs := fs', ah := (c : Int) }) := hs2.symm
        rw [hs2] at hI7
        have HI7 : Hid (LrI w base S0 d L r g s0 rs s2 fv7 tv tg w7) := hI7
        have x7 := (one_cellL hI7.db).1
        clear hq hI7 hs2 HI6 x6 y0 y5
        go_wp2_with fail
        refine (text_any d c w7).mono ?_
        rintro e w' ⟨rfl, rfl⟩
        go_wp2_with fail
        obtain ⟨wa, hwa⟩ : ∃ wa, (w7.alloc (.cells #[.pointer (some ⟨d, 6, none⟩)] 94)).alloc (.cells #[.int .i64 (c : Int)] 3) = wa := ⟨_, rfl⟩
        have hsz : wa.heap.size = w7.heap.size + 2 := by rw [← hwa]; simp
        have hba : Below w7.heap.size w7 wa := by rw [← hwa]; exact ((Below.refl _ w7).alloc (Nat.le_refl _) _).alloc (by simp) _
        have hA0 : wa.heap[w7.heap.size]? = some (.cells #[.pointer (some ⟨d, 6, none⟩)] 94 (0, 0)) := by rw [← hwa, Below.heap_alloc _ _ _ (by simp)]; exact World.alloc_heap_new w7 _
        have hA1 : wa.heap[w7.heap.size + 1]? = some (.cells #[.int .i64 (c : Int)] 3 (0, 0)) := by rw [← hwa]; have := World.alloc_heap_new (w7.alloc (.cells #[.pointer (some ⟨d, 6, none⟩)] 94)) (.cells #[.int .i64 (c : Int)] 3); rwa [World.size_alloc] at this
        rw [hwa]
        clear hwa x7
        refine wp_rangeFunc_any (gf := 59) rfl (callFnL Try.func59 (by kernel_rfl) (by kernel_rfl)) ?_
        intro mk W1 hW1 hyi
        have hB1 : Below wa.heap.size wa W1 := by rw [← hW1]; exact ((Below.refl _ wa).alloc (Nat.le_refl _) _).alloc (by simp) _
        have hL1 : W1.heap[wa.heap.size + 1]? = some (.loop (mk .ready none)) := by
          rw [← hW1]; have := World.alloc_heap_new (wa.alloc (.deferred (some []))) (.loop (mk .ready none)); rwa [World.size_alloc] at this
        have hD1 : W1.heap[wa.heap.size]? = some (.deferred (some [])) := by
          rw [← hW1, Below.heap_alloc _ _ _ (by simp)]; exact World.alloc_heap_new wa _
        have hA : W1.heap.size = wa.heap.size + 2 := by rw [← hW1]; simp
        have hbw : Below w7.heap.size w7 W1 := hba.trans (hB1.mono hba.size)
        have hz7 : w.heap.size + 2 ≤ w7.heap.size := by have := lt_of_block HI7.out.tc; omega
        have hI1 : LrI w base S0 d L r g s0 rs s2 fv7 tv tg W1 := HI7.out.on ⟨hbw.os, hbw.tape, hbw.output⟩ hbw.size fun k hk => by
          refine hbw.block k ?_
          rcases hk with hk | hk | hk | hk
          · omega
          · obtain ⟨_, cur, hc⟩ := HI7.out.lg.tb.tag hk; exact lt_of_block hc
          · obtain ⟨T, h1, -⟩ := HI7.out.sl; exact h1.lt hk
          · exact lt_of_block (HI7.out.ms k hk).2
        obtain ⟨T, hT⟩ : ∃ T, txC L fs' c = T := ⟨_, rfl⟩
        have HTM : TxM W1 (w7.heap.size + 1) w7.heap.size d base L c fv7 fs' := by
          have e : s2.fs = fs' := by rw [HS2.out]
          have ht := hI1.lg.tb
          rw [e] at ht
          exact ⟨(one_cellL ((hB1.block _ (by omega)).trans hA1)).1, (one_cellL ((hB1.block _ (by omega)).trans hA0)).1, hI1.lg.dc.tab.1, hI1.lg.dc.tab.2.1, ht⟩
        have HFV : Hid ((∀ k, fv7.ownBlock = some k → k < W1.heap.size) ∧ (∀ q ∈ rs, q < W1.heap.size ∧ q < wa.heap.size) ∧ w.heap.size + 4 ≤ wa.heap.size ∧ W1.heap.size = wa.heap.size + 2 ∧ (∀ k, tg = some k → k < wa.heap.size)) := by
          refine ⟨fun k hk => by obtain ⟨_, cur, hc⟩ := hI1.lg.tb.tag hk; exact lt_of_block hc, fun q hq => ⟨lt_of_block (hI1.ms q hq).2, by have := lt_of_block (HI7.out.ms q hq).2; omega⟩, by omega, hA, fun k hk => ?_⟩
          obtain ⟨T, h1, -⟩ := HI7.out.sl
          have := h1.lt hk; omega
        have HI1' : Hid (LrI w base S0 d L r g s0 rs s2 fv7 tv tg W1) := hI1
        have HYI : Hid (RfYield Try.prog _ _ _ _ mk (wa.heap.size + 1)) := hyi
        have HLD : Hid (W1.heap[wa.heap.size + 1]? = some (.loop (mk .ready none)) ∧ W1.heap[wa.heap.size]? = some (.deferred (some []))) := ⟨hL1, hD1⟩
        clear hB1 hL1 hD1 hW1 hbw hA0 hA1 hba hI1 HI7 hyi hA hsz hz7
        have HSl : Hid (s2.left = s1.left ∧ s2.out = s1.out ∧ lzT s1 fs' c T = if T.length ≤ s2.left then lzI s2 T T.length else lzF { s2 with out := s2.out ++ T.take s2.left, left := 0 } 9) := by
          refine ⟨by rw [HS2.out], by rw [HS2.out], ?_⟩
          rw [HS2.out]; unfold lzT lzI
          simp only [List.take_length]
          split <;> rfl
        refine Calls.mono (text1_any hL HTM HOK.out.1 (by have := HOK.out.2.1; omega) HOK.out.2.2 T hT (by have := HFV.out.2.2.2.1; omega)
          (fun Z i W => ∃ tv tg, LrI w base S0 d L r g s0 rs (lzI s2 T i) fv7 tv tg W ∧ i ≤ s2.left ∧ (∀ k, tg = some k → k < wa.heap.size ∨ Z ≤ k) ∧ W.heap[wa.heap.size + 1]? = some (.loop (mk .ready none)) ∧ W.heap[wa.heap.size]? = some (.deferred (some [])) ∧ W1.heap.size ≤ Z)
          (fun Z W => ∃ tv tg, LrE w base S0 d L r g s0 rs (lzC L s1 c) tv tg W ∧ (lzC L s1 c).k = 2 ∧ (∀ k, tg = some k → k < wa.heap.size ∨ Z ≤ k) ∧ W.heap[wa.heap.size + 1]? = some (.loop (mk .done (some (.exit 0)))) ∧ W.heap[wa.heap.size]? = some (.deferred (some [])) ∧ W1.heap.size ≤ Z) ?h0 ?hJs ?hDs ?hY) ?fin
        case h0 =>
          intro Z W hb hZ
          obtain ⟨f1, f2, f3, f4, f5⟩ := HFV.out
          have e0 : lzI s2 T 0 = s2 := by unfold lzI; simp
          have hon : LrI w base S0 d L r g s0 rs s2 fv7 tv tg W := by
            refine HI1'.out.on ⟨hb.os, hb.tape, hb.output⟩ hb.size fun k hk => hb.block k ?_
            rcases hk with hk | hk | hk | hk
            · omega
            · exact f1 k hk
            · have := f5 k hk; omega
            · exact (f2 k hk).1
          exact ⟨tv, tg, by rw [e0]; exact hon, Nat.zero_le _, fun k hk => .inl (f5 k hk), (hb.block _ (by omega)).trans HLD.out.1, (hb.block _ (by omega)).trans HLD.out.2, by rw [hZ]; exact hb.size⟩
        case hJs =>
          rintro Z i Wa Wb ⟨tv, tg, j1, j2, j3, j4, j5, j6⟩ o
          obtain ⟨f1, f2, f3, f4, f5⟩ := HFV.out
          refine ⟨tv, tg, j1.on ⟨o.os, o.tape, o.output⟩ (by rw [o.size]; exact Nat.le_refl _) fun k hk => o.block k ?_, j2, j3, (o.block _ (.inl (by omega))).trans j4, (o.block _ (.inl (by omega))).trans j5, j6⟩
          rcases hk with hk | hk | hk | hk
          · exact .inl (by omega)
          · exact .inl (f1 k hk)
          · rcases j3 k hk with h | h
            · exact .inl (by omega)
            · exact .inr h
          · exact .inl (f2 k hk).1
        case hDs =>
          rintro Z Wa Wb ⟨tv, tg, j1, j2, j3, j4, j5, j6⟩ o
          obtain ⟨f1, f2, f3, f4, f5⟩ := HFV.out
          refine ⟨tv, tg, j1.on j2 HI1'.out.lo.1 ⟨o.os, o.tape, o.output⟩ (by rw [o.size]; exact Nat.le_refl _) fun k hk => o.block k ?_, j2, j3, (o.block _ (.inl (by omega))).trans j4, (o.block _ (.inl (by omega))).trans j5, j6⟩
          rcases hk with hk | hk | hk
          · exact .inl (by omega)
          · rcases j3 k hk with h | h
            · exact .inl (by omega)
            · exact .inr h
          · exact .inl (f2 k hk).1
        case hY =>
          rintro Z i W hi ⟨tv, tg, j1, j2, j3, j4, j5, j6⟩ hzW
          refine HYI.out _ W _ rfl j4 ?_
          obtain ⟨f1, f2, f3, f4, f5⟩ := HFV.out
          obtain ⟨v, hv⟩ : ∃ v, (T[i]?).getD 0 = v := ⟨_, rfl⟩
          rw [hv]
          obtain ⟨W4, hW4⟩ : ∃ W4, W.putObj (wa.heap.size + 1) (.loop (mk .busy none)) = W4 := ⟨_, rfl⟩
          have hk4 : ∀ k, k ≠ wa.heap.size + 1 → W4.heap[k]? = W.heap[k]? := fun k hk => by rw [← hW4]; exact World.putObj_heap_other hk
          have hl4 : W4.heap[wa.heap.size + 1]? = some (.loop (mk .busy none)) := by rw [← hW4]; exact World.putObj_heap_same (lt_of_block j4)
          have hz4 : W4.heap.size = W.heap.size := by rw [← hW4]; simp
          have hI4 : LrI w base S0 d L r g s0 rs (lzI s2 T i) fv7 tv tg W4 := j1.on (by rw [← hW4]; exact ⟨rfl, rfl, rfl⟩) (by omega) fun k hk => hk4 k (fun e => by
            rcases hk with hk | hk | hk | hk
            · omega
            · obtain ⟨_, cur, hc⟩ := j1.lg.tb.tag hk; rw [e, j4] at hc; cases hc
            · rcases j3 k hk with h | h <;> omega
            · have := (f2 k hk).2; omega)
          have hd4 : W4.heap[wa.heap.size]? = some (.deferred (some [])) := (hk4 _ (by omega)).trans j5
          have hot : ∀ k, W1.heap.size ≤ k → k < Z → W4.heap[k]? = W.heap[k]? := fun k h1 h2 => hk4 k (by omega)
          have x4 := (one_cellL hI4.db).1
          have kk := hI4.lg.dc
          obtain ⟨-, k1, -, -, -, -⟩ := kk.head
          have kf := kk.frz
          have HLR : Hid (RfAt W (wa.heap.size + 1) mk) := j4
          simp only [List.zip_toArray, List.zip_cons_cons, List.zip_nil_right, List.foldl_toArray, List.foldl_cons, List.foldl_nil, List.setIfInBounds_toArray, List.set_cons_succ, List.set_cons_zero]
          have HJ36 : Hid ((∀ k, tg = some k → k < wa.heap.size ∨ Z ≤ k) ∧ W1.heap.size ≤ Z) := ⟨j3, j6⟩
          by_cases hlz : s2.left = i
          · have hl0 : (lzI s2 T i).left = 0 := by unfold lzI; show s2.left - i = 0; omega
            rw [hl0] at k1
            have CX := fail_any (w := W4) 9 kk
            have HF : Hid (∀ w8, Dc w8 d L (lzI s2 T i).left 9 false (.slice none 0 0) (.pointer none) 0 (.slice none 0 0) 0 → Fr W4 w8 d none → w8.heap[wa.heap.size + 1]? = some (.loop (mk .busy none)) ∧ KpR W1.heap.size Z W (w8.putObj (wa.heap.size + 1) (.loop (mk .done (some (.exit 0))))) ∧ LrE w base S0 d L r g s0 rs (lzC L s1 c) tv tg (w8.putObj (wa.heap.size + 1) (.loop (mk .done (some (.exit 0))))) ∧ (lzC L s1 c).k = 2 ∧ (w8.putObj (wa.heap.size + 1) (.loop (mk .done (some (.exit 0))))).heap[wa.heap.size + 1]? = some (.loop (mk .done (some (.exit 0)))) ∧ (w8.putObj (wa.heap.size + 1) (.loop (mk .done (some (.exit 0))))).heap[wa.heap.size]? = some (.deferred (some []))) := by
              have HEq : lzF (lzI s2 T i) 9 = lzC L s1 c := by
                rw [HT.out, hT, HSl.out.2.2, if_neg (by omega)]
                unfold lzI; rw [hlz, Nat.sub_self]
              intro w8 hd8 hf8
              have hk8 : ∀ k, k < W.heap.size → k ≠ d → w8.heap[k]? = W4.heap[k]? := fun k h1 h2 => hf8.block k (by omega) h2 (fun e => by cases e)
              have hlt := lt_of_block j4
              have hdl := HI1'.out.lo.1
              have hl8 := (hk8 _ hlt (by omega)).trans hl4
              have hz8 := hf8.size
              have hE8 : LrE w base S0 d L r g s0 rs (lzF (lzI s2 T i) 9) tv tg w8 := hI4.over ⟨hf8.os, hf8.tape, hf8.output, hf8.size, fun k hk hn => hf8.block k hk (fun e => hn (.inl e)) (fun e => by cases e)⟩ (.inr (.inr ⟨rfl, by show (9 : Int) ≠ 0; decide, hI4.lg.re, hd8⟩)) rfl (by rw [HEq, HGO.out, lzG_done hL.2 HK0.out HST.out (by rw [← HEq]; show 2 ≠ 0; decide)])
              rw [HEq] at hE8
              have hk2 : (lzC L s1 c).k = 2 := by rw [← HEq]; rfl
              refine ⟨hl8, ⟨by rw [World.putObj_size]; omega, fun k h1 h2 => ?_⟩, hE8.on hk2 hdl ⟨rfl, rfl, rfl⟩ (by rw [World.putObj_size]; exact Nat.le_refl _) fun k hk => World.putObj_heap_other (fun e => ?_), hk2, World.putObj_heap_same (lt_of_block hl8), ?_⟩
              · rw [World.putObj_heap_other (by omega)]; exact (hk8 k (by omega) (by omega)).trans (hot k h1 h2)
              · rcases hk with hk | hk | hk
                · omega
                · rcases j3 k hk with h | h <;> omega
                · have := (f2 k hk).2; omega
              · rw [World.putObj_heap_other (by omega)]; exact (hk8 _ (by omega) (by omega)).trans hd4
            clear kk hI4 hk4 hl4 hz4 hd4 hot hv f1 f2 f3 f4 f5 j1 j2 j3 j4 j5 j6 hl0 HTM hzW hi
            gi_wp2
            refine ⟨HLR.out, ?_⟩
            clear hW4
            refine wpIn_block ?_
            gi_wp2_with fail
            refine ⟨trivial, CallsIn.inRound _ (callsIn_wide.2 (Calls.mono CX ?_))⟩
            clear CX
            rintro e w8 ⟨rfl, hd8, hf8⟩
            obtain ⟨g1, g2, g3, g4, g5, g6⟩ := HF.out w8 hd8 hf8
            clear HF hd8 hf8
            gi_wp2
            exact ⟨g1, .inl ⟨rfl, g2, tv, tg, g3, g4, HJ36.out.1, g5, g6, HJ36.out.2⟩⟩
          · have hlp : 0 < (lzI s2 T i).left := by unfold lzI; show 0 < s2.left - i; omega
            have HLE : Hid (i + 1 ≤ s2.left) := by show _ ≤ _; omega
            obtain ⟨T', t1, t2⟩ := hI4.sl
            have t3 : T'.length ≤ 100000000000 := by
              have e := congrArg List.length t2
              have hl := txC_len HOK.out.1 c HOK.out.2.2 fs'.length (by have := HOK.out.2.2; omega)
              rw [hT] at hl
              have e2 : (lzI s2 T i).out.length = s.out.length + i := by unfold lzI; rw [HSl.out.2.1, HO1.out]; simp; omega
              have := HOB.out
              have := HB0.out
              have := HOK.out.2.1
              rw [e2, List.length_append] at e
              omega
            obtain ⟨lf, hlf⟩ : ∃ lf, (lzI s2 T i).left = lf := ⟨_, rfl⟩
            have HLF : Hid ((lzI s2 T i).left = lf) := hlf
            have HN : Hid (∀ W3 w7' v7 g7, Below (W4.setCell ⟨d, 1, none⟩ (.int .i64 ((lf : Int) - 1))).heap.size (W4.setCell ⟨d, 1, none⟩ (.int .i64 ((lf : Int) - 1))) W3 → Sl w7' 5 v7 g7 (vals (T' ++ [v])) → (g7 = tg ∨ ∃ k, g7 = some k ∧ W3.heap.size ≤ k) → W3.grownBy w7' tg →
                w7'.cell? ⟨w.heap.size + 1, 0, none⟩ = some tv ∧ w7'.frozen? ⟨w.heap.size + 1, 0, none⟩ = false ∧ (w7'.setCell ⟨w.heap.size + 1, 0, none⟩ v7).heap[wa.heap.size + 1]? = some (.loop (mk .busy none)) ∧ KpR W1.heap.size Z W ((w7'.setCell ⟨w.heap.size + 1, 0, none⟩ v7).putObj (wa.heap.size + 1) (.loop (mk .ready none))) ∧
                LrI w base S0 d L r g s0 rs (lzI s2 T (i + 1)) fv7 v7 g7 ((w7'.setCell ⟨w.heap.size + 1, 0, none⟩ v7).putObj (wa.heap.size + 1) (.loop (mk .ready none))) ∧ (∀ k, g7 = some k → k < wa.heap.size ∨ Z ≤ k) ∧ ((w7'.setCell ⟨w.heap.size + 1, 0, none⟩ v7).putObj (wa.heap.size + 1) (.loop (mk .ready none))).heap[wa.heap.size + 1]? = some (.loop (mk .ready none)) ∧ ((w7'.setCell ⟨w.heap.size + 1, 0, none⟩ v7).putObj (wa.heap.size + 1) (.loop (mk .ready none))).heap[wa.heap.size]? = some (.deferred (some []))) := by
              intro W3 w7' v7 g7 hb3 hs7 hg7 hgr7
              rw [← hlf] at hb3
              obtain ⟨e1, e2, e3, e4, e5, e6⟩ := hI4.tell ⟨t1, t2⟩ hlp hb3 hs7 hg7 hgr7
              have hlt := lt_of_block j4
              have hdl := HI1'.out.lo.1
              have eqI : ({ lzI s2 T i with out := (lzI s2 T i).out ++ [v], left := (lzI s2 T i).left - 1 } : Lz) = lzI s2 T (i + 1) := by
                unfold lzI
                rw [List.take_add_one, ← hv, List.getElem?_eq_getElem hi]
                simp [Nat.sub_sub]
              rw [eqI] at e3
              have ntg : ∀ k, wa.heap.size ≤ k → k < Z → some k ≠ tg := fun k h1 h2 e => by rcases j3 k e.symm with h | h <;> omega
              have hg8 : ∀ k, g7 = some k → k < wa.heap.size ∨ Z ≤ k := fun k hk => by
                rcases hg7 with e | ⟨j, e, hj⟩
                · exact j3 k (e.symm.trans hk)
                · rw [e] at hk; cases hk; exact .inr (by omega)
              have hb8 := (e4 (wa.heap.size + 1) (by omega) (by omega) (by omega) (ntg _ (by omega) (by omega))).trans hl4
              have hd8 := (e4 wa.heap.size (by omega) (by omega) (by omega) (ntg _ (by omega) (by omega))).trans hd4
              refine ⟨e1, e2, hb8, ⟨?_, fun k h1 h2 => ?_⟩, e3.on ⟨rfl, rfl, rfl⟩ (by rw [World.putObj_size]; exact Nat.le_refl _) fun k hk => World.putObj_heap_other (fun e => ?_), hg8, World.putObj_heap_same (lt_of_block hb8), ?_⟩
              · rw [World.putObj_size]; simp [World.setCell]; omega
              · rw [World.putObj_heap_other (by omega)]; exact (e4 k (by omega) (by omega) (by omega) (ntg k (by omega) h2)).trans (hot k h1 h2)
              · rcases hk with hk | hk | hk | hk
                · omega
                · obtain ⟨_, cur, hc⟩ := j1.lg.tb.tag hk; rw [e, j4] at hc; cases hc
                · rcases hg8 k hk with h | h <;> omega
                · have := (f2 k hk).2; omega
              · rw [World.putObj_heap_other (by omega)]; exact hd8
            have HSL : Hid ((∀ x o, Sl ((W4.setCell ⟨d, 1, none⟩ x).alloc o) 5 tv tg (vals T')) ∧ T'.length + 1 ≤ 140737488351232) := ⟨fun x o => t1.same fun k hk => (Below.heap_alloc _ _ _ (by have := t1.lt hk; simpa [World.setCell] using this)).trans (Below.heap_setCell _ _ _ _ (by have := hI4.tn k hk; have := hI4.lo.1; show k ≠ d; omega)), by omega⟩
            have HRo : Hid (∀ x, Row ((W4.setCell ⟨d, 1, none⟩ x).alloc (.cells #[.int .u8 v] 5)) (some ⟨W4.heap.size, 0, none⟩) [v]) := fun x => by have := row_oneL (W4.setCell ⟨d, 1, none⟩ x) v; simpa [World.setCell] using this
            have hlfb : lf ≤ 9223372036854775807 := by rw [← hlf]; exact hI4.lg.lf
            have hwr : wrap64 ((lf : Int) - 1) = (lf : Int) - 1 := by unfold wrap64; omega
            obtain ⟨y1, y1f⟩ := one_cellL hI4.tc
            obtain ⟨ta, tc, htv, -⟩ := t1.shape
            obtain ⟨tn, htn⟩ : ∃ tn, (vals T').length = tn := ⟨_, rfl⟩
            rw [htn] at htv
            subst htv
            have f1d := kf 1
            rw [hlf] at k1 hlp
            have hlI : ¬ (lf : Int) = 0 := by omega
            clear kk kf hI4 hk4 hl4 hz4 hd4 hot hv f1 f2 f3 f4 f5 j1 j2 j3 j4 j5 j6 HTM hzW hi t1 t2 t3 hlf hlz htn
            gi_wp2
            refine ⟨HLR.out, ?_⟩
            clear hW4
            refine wpIn_block ?_
            apply wpIn_seq_k
            intro K1 hK1
            have HK1 : Hid _ := hK1
            clear hK1
            gi_wp2
            apply HK1.out
            clear HK1 K1
            apply wpIn_seq_k
            intro K1 hK1
            have HK1 : Hid _ := hK1
            clear hK1
            gi_wp2
            apply HK1.out
            clear HK1 K1
            refine wpIn_region_round letsOut_blockL ?hd ?_
            case hd => simp
            go_wp2_with (at_builtin; refine wpList_more rfl _ _ rfl (.slice ta tn tc) tg T' rfl (HSL.out.1 _ _) _ 1 1 [v] rfl (fun h => by cases h) rfl (HRo.out _) HSL.out.2 ?_; intro v7 w8 g7 hs7 hg7 hgr7; obtain ⟨a7, c7, hv7, -⟩ := hs7.shape; generalize (vals (T' ++ [v])).length = z7 at hv7; subst hv7; obtain ⟨y2, y3, y4, y5, y6, y7, y8, y9⟩ := HN.out _ w8 _ g7 ((Below.refl _ _).alloc (Nat.le_refl _) _) hs7 hg7 hgr7; clear hs7 hg7 hgr7)
            exact ⟨y4, .inr ⟨rfl, y5, _, g7, y6, HLE.out, y7, y8, y9, HJ36.out.2⟩⟩
        case fin =>
          rintro e W' ⟨⟨v, rfl⟩, Z, hJ⟩
          obtain ⟨f1, f2, f3, f4, f5⟩ := HFV.out
          rcases hJ with ⟨tv, tg, j1, j2, j3, j4, j5, j6⟩ | ⟨tv, tg, j1, j2, j3, j4, j5, j6⟩
          · refine ⟨⟨v, rfl⟩, .inl ⟨j4, ?_⟩⟩
            have HN : Hid (LrI w base S0 d L r g s0 (wa.heap.size :: rs) (lzC L s1 c) fv7 tv tg (W'.putObj (wa.heap.size + 1) (.loop (mk .exhausted none))) ∧ lzG L s0 = lzG L (lzC L s1 c) ∧ bitsAt (W'.putObj (wa.heap.size + 1) (.loop (mk .exhausted none))) r < bitsAt wr r ∧ (lzC L s1 c).out.length + 4100 * lzB (lzC L s1 c) ≤ s0.out.length + 4100 * lzB s0) := by
              have HEq : lzI s2 T T.length = lzC L s1 c := by rw [HT.out, hT, HSl.out.2.2, if_pos j2]
              have hI : LrI w base S0 d L r g s0 rs (lzI s2 T T.length) fv7 tv tg (W'.putObj (wa.heap.size + 1) (.loop (mk .exhausted none))) := j1.on ⟨rfl, rfl, rfl⟩ (by rw [World.putObj_size]; exact Nat.le_refl _) fun k hk => World.putObj_heap_other (fun e => by
                rcases hk with hk | hk | hk | hk
                · omega
                · obtain ⟨_, cur, hc⟩ := j1.lg.tb.tag hk; rw [e, j4] at hc; cases hc
                · rcases j3 k hk with h | h <;> omega
                · have := (f2 k hk).2; omega)
              have hm : (W'.putObj (wa.heap.size + 1) (.loop (mk .exhausted none))).heap[wa.heap.size]? = some (.deferred (some [])) := (World.putObj_heap_other (by omega)).trans j5
              refine ⟨?_, by rw [HGO.out, lzG_step hL.2 HK0.out HST.out], ?_, HSO.out _ HST.out⟩
              · rw [← HEq]
                exact hI.mark (by omega) hm (fun hq => by have := (f2 _ hq).2; omega)
              · rw [hI.lg.rd.bits]
                show 8 * s2.zs.length - s2.gone < _
                rw [HS2.out]; exact HMe.out
            clear j1 j2 j3 j4 j5 j6 f1 f2 f3 f4 f5 HTM
            generalize W'.putObj (wa.heap.size + 1) (.loop (mk .exhausted none)) = WX at *
            change Exit.inBlock 3 (Exit.inBlock 1 _) Exit.normal { tmps := _, defers := marksL (wa.heap.size :: rs) } WX
            go_wp2
            exact ⟨⟨wa.heap.size :: rs, rfl, _, ⟨fv7, tv, tg, HN.out.1⟩, HN.out.2.1, HN.out.2.2.2⟩, HN.out.2.2.1⟩
          · refine ⟨⟨v, rfl⟩, .inr ⟨.exit 0, j4, ?_⟩⟩
            have HE : Hid (LrE w base S0 d L r g s0 (wa.heap.size :: rs) (lzC L s1 c) tv tg (W'.putObj (wa.heap.size + 1) (.loop (mk .exhausted (some (.exit 0)))))) := by
              have hI : LrE w base S0 d L r g s0 rs (lzC L s1 c) tv tg (W'.putObj (wa.heap.size + 1) (.loop (mk .exhausted (some (.exit 0))))) := j1.on j2 HI1'.out.lo.1 ⟨rfl, rfl, rfl⟩ (by rw [World.putObj_size]; exact Nat.le_refl _) fun k hk => World.putObj_heap_other (fun e => by
                rcases hk with hk | hk | hk
                · omega
                · rcases j3 k hk with h | h <;> omega
                · have := (f2 k hk).2; omega)
              have hm : (W'.putObj (wa.heap.size + 1) (.loop (mk .exhausted (some (.exit 0))))).heap[wa.heap.size]? = some (.deferred (some [])) := (World.putObj_heap_other (by omega)).trans j5
              exact hI.mark (by omega) hm (fun hq => by have := (f2 _ hq).2; omega)
            clear j1 j2 j3 j4 j5 j6 f1 f2 f3 f4 f5 HTM
            generalize W'.putObj (wa.heap.size + 1) (.loop (mk .exhausted (some (.exit 0)))) = WX at *
            obtain ⟨T2, hT2, -⟩ := HE.out.sl
            obtain ⟨ta, tc, htv, -⟩ := hT2.shape
            have c3 := (one_cellL HE.out.tc).1
            generalize (vals T2).length = tn at htv
            subst htv
            clear hT2
            go_wp2
            try rw [Exit.noGoto_ret]
            refine leaves_marksL (by simp) (wa.heap.size :: rs) WX (fun q hq => (HE.out.ms q hq).2) HE.out.nd ?_
            refine ⟨_, results_tmp rfl _ _ _, ?_⟩
            simp only [Array.getD_eq_getD_getElem?, List.getElem?_toArray, List.getElem?_cons_succ, List.getElem?_cons_zero, Option.getD_some]
            exact HE.out.fin
end Go.Proofs.Ytcbmlioeeoghkaa
