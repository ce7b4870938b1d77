/- ReceiverPlays: the law's walk. -/
import Derived.Test.YtmfciheenemapaaRqY
namespace Go.Proofs.Ytmfciheenemapaa
open Go.RowKit
theorem grownBy_setZ (w : World) (g i : Nat) (u : Value) : w.grownBy (w.setCell ⟨g, i, none⟩ u) (some g) :=
  ⟨rfl, rfl, rfl, by simp [World.setCell], fun k _ hk => Below.heap_setCell w _ u k (fun e => hk (by rw [e]))⟩
theorem row_cellZ {wr : World} {zs : List Int} {a : Option Addr} {n cp : Nat} {go : Option Nat} (h : Sl wr 5 (.slice a n cp) go (vals zs)) (hl : zs.length = n) (j : Nat) (hj : j < n) : ∃ g off cap, a = some ⟨g, off, none⟩ ∧ cap = cp ∧ go = some g ∧ wr.cell? ⟨g, off + j, none⟩ = some (.int .u8 (zs[j]?.getD 0)) ∧ wr.frozen? ⟨g, off + j, none⟩ = false := by
  rcases h with ⟨e, _, _⟩ | ⟨b, off, cap, cur, e, eg, hh, h1, h2, h3, hc⟩
  · simp only [Value.slice.injEq] at e; omega
  · simp only [Value.slice.injEq] at e
    obtain ⟨rfl, e2, rfl⟩ := e
    have hv : (vals zs)[j]? = some (.int .u8 (zs[j]?.getD 0)) := by
      unfold vals
      rw [List.getElem?_map]
      have : j < zs.length := by omega
      simp [this]
    have hcc := hc j (by rw [vals_len]; omega)
    rw [hv] at hcc
    refine ⟨b, off, cp, rfl, rfl, eg, ?_, ?_⟩
    · simp [World.cell?, hh, hcc]
    · simp [World.frozen?, hh]
theorem dn_new {q : Pt} {ob n : Nat} (h : ∀ x, q.a = some x → q.z ≠ [] → n ≤ x.block) (ho : ob < n) : Dn ob q := fun x hx hz => by have := h x hx hz; omega
theorem rpl_big (n win : Int) (v : Value) (w : World) (hn : 300 < n) : Calls Try.prog 3 #[.int .i64 n, .int .i64 win, v] w fun e w' => e = .returned (.bool true) ∧ Below w.heap.size w w' := by
  have HF : Hid _ := rfixed_any w
  go_enter Try.func3, Try.ntmps3
  go_wp2_with fail
  refine Calls.mono HF.out ?_
  rintro e w1 ⟨rfl, b1⟩
  go_wp2
  go_ret
  exact ⟨rfl, b1⟩
theorem rpl_no (n win : Int) (v : Value) (w : World) (hn : ¬ 300 < n) (hb : ¬ (0 ≤ n ∧ n ≤ 1048577 ∧ 1 ≤ win ∧ win ≤ 64)) : Calls Try.prog 3 #[.int .i64 n, .int .i64 win, v] w fun e w' => e = .returned (.bool true) ∧ Below w.heap.size w w' := by
  have HF : Hid _ := rfixed_any w
  have C1 : Hid (∀ u, Calls Try.prog 8 #[.int .i64 n, .int .i64 win] u fun e w' => e = .returned (.tuple #[.pointer none, .int .i64 1]) ∧ w' = u) := fun u => rnew_no n win u hb
  have C2 : Hid (∀ u, Calls Try.prog 9 #[.int .i64 n, .int .i64 win] u fun e w' => e = .returned (.tuple #[.pointer none, .int .i64 1]) ∧ w' = u) := fun u => xnew_no n win u hb
  clear hb
  go_enter Try.func3, Try.ntmps3
  go_wp2_with (first
    | (go_at_call 7; refine Calls.mono HF.out ?_; rintro e w1 ⟨rfl, b1⟩; have HB1 : Hid (Below w.heap.size w w1) := b1; clear b1)
    | (go_at_call 8; refine Calls.mono (C1.out w1) ?_; rintro e x ⟨rfl, hx⟩; have hx2 := hx.symm; clear hx; subst hx2)
    | (go_at_call 9; refine Calls.mono (C2.out w1) ?_; rintro e x ⟨rfl, hx⟩; have hx2 := hx.symm; clear hx; subst hx2))
  go_ret
  exact ⟨by simp, HB1.out⟩
set_option maxRecDepth 20000 in
set_option maxHeartbeats 64000000 in
theorem rpl_all (N : Nat) (W : Int) (a : Option Addr) (len cap : Nat) (F : Nat → It) (w : World) (hN : N ≤ 300) (hWb : 1 ≤ W ∧ W ≤ 64) (hF : ItArg w a len cap F) : Calls Try.prog 3 #[.int .i64 (N : Int), .int .i64 W, .slice a len cap] w fun e w' => e = .returned (.bool true) ∧ Below w.heap.size w w' := by
  have HF : Hid (ItArg w a len cap F) := hF
  have C0 : Hid _ := rfixed_any w
  have h300 : ¬ (300 : Int) < (N : Int) := by omega
  clear hF
  go_enter Try.func3, Try.ntmps3
  go_upto_region 5 with (go_at_call 7; refine Calls.mono C0.out ?_; rintro e w1 ⟨rfl, b1⟩)
  have HB1 : Hid (Below w.heap.size w w1) := b1
  have C1 : Hid _ := rnew_yes N W w1 ⟨by omega, by omega, hWb.1, hWb.2⟩
  clear b1 C0
  go_upto_region 6 with (go_at_call 8; refine Calls.mono C1.out ?_; rintro e w2 ⟨b, m, rfl, r2, b2, f1, f2⟩)
  have HR2 : Hid (Rc w2 b m N W 0 [] ∧ Below w.heap.size w w2 ∧ w.heap.size ≤ b ∧ w.heap.size ≤ m) := ⟨r2, HB1.out.trans (b2.mono HB1.out.size), Nat.le_trans HB1.out.size f1, Nat.le_trans HB1.out.size f2⟩
  have C2 : Hid _ := xnew_yes N W w2 hN hWb
  clear r2 b2 f1 f2 C1 HB1
  go_upto_region 7 with (go_at_call 9; refine Calls.mono C2.out ?_; rintro e w3 ⟨c, cb, ib, rfl, x3, b3, f3, f4, f5⟩)
  have HP3 : Hid (PlI w b m c cb ib N W 0 [] (fun _ => hPt0) (fun _ => false) w3) := by
    have hb := lt_of_block HR2.out.1.c
    have hm := HR2.out.1.m.lt
    have h3 := HR2.out.2.1.size
    have h4 := HR2.out.2.2
    refine ⟨HR2.out.1.old b3, trivial, x3, fun k _ => ?_, (fun p hp => by cases hp), HR2.out.2.1.trans (b3.mono HR2.out.2.1.size), ⟨h4.1, h4.2, by omega, by omega, by omega⟩, ⟨by omega, by omega⟩, ⟨by omega, by omega⟩, ⟨by omega, by omega⟩⟩
    unfold cameB hHas
    have : ¬ ((k : Int) < ((0 : Nat) : Int)) := by omega
    simp only [decide_eq_false this, List.any_nil, Bool.or_false]
  clear x3 b3 f3 f4 f5 C2 HR2
  have C4 : Hid _ := ifew_any (HF.out.old HP3.out.be)
  go_wp2_with fail
  refine Calls.mono C4.out ?_
  rintro e w4 ⟨b4, hfw⟩
  have HP4 : Hid (PlI w b m c cb ib N W 0 [] (fun _ => hPt0) (fun _ => false) w4) := HP3.out.old b4
  clear b4 C4 HP3
  rcases hfw with rfl | ⟨rfl, hlen, hzs⟩
  · go_wp2
    go_ret
    exact ⟨rfl, HP4.out.be⟩
  have HZ : Hid (∀ j, j < len → (F j).p.z.length ≤ 3000) := hzs
  clear hzs
  go_wp2
  go_loopw [54] (fun iv wr => ∃ (k T : Nat) (H : List (Int × Pt)) (A : Nat → Pt) (S : Nat → Bool), k ≤ len ∧ iv = .int .i64 k ∧ Hid (PlI w b m c cb ib N W T H A S wr)) (fun iv _ => len - (intOf iv).toNat)
  case atStart => exact ⟨0, 0, [], _, _, Nat.zero_le _, rfl, HP4.out⟩
  case round =>
    clear HP4
    obtain ⟨k, T, H, A, S, hk, rfl, HP⟩ := hrel
    by_cases hlt : k < len
    · obtain ⟨ab, aoff, rfl, hc⟩ := (HF.out.old HP.out.be).2.2 (by omega)
      obtain ⟨c0, c1, c2, c3⟩ := hc k hlt
      have hz3 := HZ.out k hlt
      obtain ⟨it, hit⟩ : ∃ it, F k = it := ⟨_, rfl⟩
      rw [hit] at c0 c1 c2 c3 hz3
      clear hc hit
      obtain ⟨ii, pa, pc, pz⟩ := it
      simp only at c0 c1 c2 c3 hz3
      obtain ⟨n, hnz⟩ : ∃ n, pz.length = n := ⟨_, rfl⟩
      rw [hnz] at c1 hz3
      have HLz : Hid (pz.length = n) := hnz
      have HWf : Hid ((Lit.int .i64 ii).wf = true) := c2
      have HC3 : Hid (PtOk wr ⟨pa, pc, pz⟩) := c3
      have HOd : Hid (b < wr.heap.size ∧ m < wr.heap.size ∧ c < wr.heap.size ∧ cb < wr.heap.size ∧ ib < wr.heap.size ∧ w.heap.size ≤ wr.heap.size ∧ (∀ p ∈ H, PtOk wr p.2) ∧ (∀ j, j < N → PtOk wr (A j))) := ⟨lt_of_block HP.out.rc.c, HP.out.rc.m.lt, lt_of_block HP.out.rx.ce, HP.out.rx.cm.lt.1, HP.out.rx.cm.lt.2, HP.out.be.size, HP.out.rc.ok, HP.out.rx.cm.ok⟩
      have hbb := below_allocR wr (.cells #[.int .i64 ii, .slice pa n pc] 34)
      obtain ⟨wb, hwb⟩ : ∃ wb, wr.alloc (.cells #[.int .i64 ii, .slice pa n pc] 34) = wb := ⟨_, rfl⟩
      have hbx := heap_alloc_new wr (.cells #[.int .i64 ii, .slice pa n pc] 34)
      rw [hwb] at hbb hbx
      have HX : Hid (wb.heap[wr.heap.size]? = some (.cells #[.int .i64 ii, .slice pa n pc] 34 (0, 0))) := hbx
      have HBb : Hid (Below wr.heap.size wr wb) := hbb
      have hI2 : ∀ {q0 q1 : Value} {u : World}, u.heap[wr.heap.size]? = some (.cells #[q0, q1] 34 (0, 0)) → u.cell? ⟨wr.heap.size, 0, none⟩ = some q0 ∧ u.cell? ⟨wr.heap.size, 1, none⟩ = some q1 := fun h => by refine ⟨?_, ?_⟩ <;> simp [World.cell?, h]
      have HI2 : Hid (∀ {q0 q1 : Value} {u : World}, u.heap[wr.heap.size]? = some (.cells #[q0, q1] 34 (0, 0)) → u.cell? ⟨wr.heap.size, 0, none⟩ = some q0 ∧ u.cell? ⟨wr.heap.size, 1, none⟩ = some q1) := hI2
      have HAl : Hid (Below wb.heap.size wb (wb.alloc (.cells #[] 5))) := below_allocR wb _
      obtain ⟨d0, d1⟩ := hI2 HX.out
      obtain ⟨d0a, d1a⟩ := hI2 ((HAl.out.block _ (lt_of_block HX.out)).trans HX.out)
      clear c2 c3 hbb hbx hnz hI2
      go_upto_region 15 with (at_builtin; refine wpList_more rfl _ _ rfl _ _ [] rfl (Sl.empty wb 5) pa n pc pz rfl HC3.out.2.2.2.1 HLz.out ((HC3.out.2.2.2.2.old HBb.out).old HAl.out) (by simp; omega) ?_; intro v1 x1 g1 sl1 hg1 hw1; obtain ⟨a1, e1, hv1, hv2, hv3, hv4⟩ := sl1.shape; have hl1 : (vals ([] ++ pz)).length = n := (by rw [vals_len, List.nil_append]; exact HLz.out); rw [hl1] at hv1 hv2; subst hv1; have HB1 : Hid (Below wb.heap.size wb x1) := HAl.out.grown hw1 HAl.out.size (fun k hk => by cases hk; exact Nat.le_refl _); have HO1 : Hid (Sl x1 5 (.slice a1 n e1) g1 (vals pz) ∧ n ≤ e1 ∧ e1 ≤ maxLen ∧ (a1 = none → e1 = 0) ∧ ∀ k, g1 = some k → wb.heap.size ≤ k) := ⟨sl1, hv2, hv3, hv4, fun k hk => by
        rcases hg1 with e | ⟨q, e, hq⟩
        · rw [e] at hk; cases hk; exact Nat.le_refl _
        · rw [e] at hk; cases hk; simp at hq; omega⟩; clear sl1 hg1 hw1 hl1 hv2 hv3 hv4)
      try rw [hwb]
      have HB2 : Hid (Below wr.heap.size wr x1) := HBb.out.trans (HB1.out.mono HBb.out.size)
      have HX1 : Hid (x1.heap[wr.heap.size]? = some (.cells #[.int .i64 ii, .slice pa n pc] 34 (0, 0))) := (HB1.out.block _ (lt_of_block HX.out)).trans HX.out
      have HS1 : Hid (wr.heap.size < wb.heap.size ∧ wb.heap.size ≤ x1.heap.size) := ⟨lt_of_block HX.out, HB1.out.size⟩
      have HP1 : Hid (PlI w b m c cb ib N W T H A S x1) := HP.out.old HB2.out
      obtain ⟨d2, d3⟩ := HI2.out HX1.out
      clear d0 d1 d0a d1a HX HBb HAl c0 c1 HB1 hwb
      cases hmc : mcB N W (T : Int) H ii
      · have C3 : Hid _ := take_no HP1.out.rc ii HWf.out (.slice a1 n e1) hmc
        have HNo : Hid (ii < T ∨ N ≤ ii ∨ W ≤ ii - T ∨ S ii.toNat = true) := HP.out.no hmc
        go_upto_region 16 with (go_at_call 11; refine Calls.mono C3.out ?_; rintro e x2 ⟨rfl, b2⟩)
        have HP2 : Hid (PlI w b m c cb ib N W T H A S x2) := HP1.out.old b2
        have HX2 : Hid (x2.heap[wr.heap.size]? = some (.cells #[.int .i64 ii, .slice pa n pc] 34 (0, 0))) := (b2.block _ (lt_of_block HX1.out)).trans HX1.out
        have HW2 : Hid (Sl x2 5 (.slice a1 n e1) g1 (vals pz) ∧ PsM x2 none [] ∧ PsM x2 none []) := ⟨HO1.out.1.same (fun k hk => b2.block k (HO1.out.1.lt hk)), .inl rfl, .inl rfl⟩
        obtain ⟨d4, d5⟩ := HI2.out HX2.out
        have C4 : Hid _ := xtake_no HP2.out.rx HP2.out.fst ii HWf.out (.slice pa n pc) HNo.out
        have HDn : Hid (∀ ob, g1 = some ob → (ob ≠ b ∧ ob ≠ m ∧ ob ≠ c ∧ ob ≠ cb ∧ ob ≠ ib) ∧ w.heap.size ≤ ob ∧ (∀ p ∈ H, Dn ob p.2) ∧ (∀ j, j < N → Dn ob (A j)) ∧ ((∀ x : Addr, (none : Option Addr) = some x → x.block ≠ ob) ∧ ∀ p ∈ ([] : List Pt), Dn ob p) ∧ (∀ x : Addr, (none : Option Addr) = some x → x.block ≠ ob) ∧ ∀ p ∈ ([] : List Pt), Dn ob p) := fun ob hob => by
          have h1 := HO1.out.2.2.2.2 ob hob
          obtain ⟨o1, o2, o3, o4, o5, o6, o7, o8⟩ := HOd.out
          have h2 := HS1.out.1
          exact ⟨⟨by omega, by omega, by omega, by omega, by omega⟩, by omega, fun p hp => Dn.of_lt (o7 p hp) (by omega), fun j hj => Dn.of_lt (o8 j hj) (by omega), ⟨(fun x h => by cases h), (fun p hp => by cases hp)⟩, (fun x h => by cases h), (fun p hp => by cases hp)⟩
        clear C3 b2 HNo hmc d2 d3 HX1 HP1 HO1 HB2
        go_upto_region 17 with (go_at_call 12; refine Calls.mono C4.out ?_; rintro e x ⟨rfl, hx⟩; have hx2 := hx.symm; clear hx; subst hx2; clear C4)
        clear d4 d5 HX2 HP HC3 HOd HS1 HWf
        go_upto_region 17 with fail
        go_wp2
        go_loopw [81] (fun jv wx => ∃ (j : Nat) (l : List Int), j ≤ n ∧ jv = .int .i64 j ∧ l.length = n ∧ Hid (PlI w b m c cb ib N W T H A S wx ∧ Sl wx 5 (.slice a1 n e1) g1 (vals l) ∧ PsM wx none [] ∧ PsM wx none [])) (fun jv _ => n - (intOf jv).toNat)
        case atStart => exact ⟨0, pz, Nat.zero_le _, rfl, HLz.out, HP2.out, HW2.out⟩
        case round =>
          clear HP2 HW2
          obtain ⟨j, l, hj, rfl, hll, HJ⟩ := hrel
          by_cases hjl : j < n
          · obtain ⟨og, oo, oc, rfl, rfl, hog, cc, fc⟩ := row_cellZ HJ.out.2.1 hll j hjl
            obtain ⟨n1, n2, n3, n4, n5, n6, n7⟩ := HDn.out og hog
            have HJ2 : Hid (∀ v : Int, PlI w b m c cb ib N W T H A S (wr.setCell ⟨og, oo + j, none⟩ (.int .u8 v)) ∧ Sl (wr.setCell ⟨og, oo + j, none⟩ (.int .u8 v)) 5 (.slice (some ⟨og, oo, none⟩) n oc) g1 (vals (l.set j v)) ∧ PsM (wr.setCell ⟨og, oo + j, none⟩ (.int .u8 v)) none [] ∧ PsM (wr.setCell ⟨og, oo + j, none⟩ (.int .u8 v)) none []) := fun v => ⟨HJ.out.1.own (grownBy_setZ wr og (oo + j) _) n1 n2 n3 n4, by rw [vals_setC]; exact HJ.out.2.1.setAt j _, HJ.out.2.2.1.own (grownBy_setZ wr og (oo + j) _) n5.1 n5.2, HJ.out.2.2.2.own (grownBy_setZ wr og (oo + j) _) n6 n7⟩
            have HLl : Hid (l.length = n) := hll
            clear n1 n2 n3 n4 n5 n6 n7 HJ hll
            go_wp2
            go_roundw
            case rel => exact ⟨j + 1, _, by omega, by go_num, by rw [List.length_set]; exact HLl.out, HJ2.out _⟩
            case measure => simp [intOf]; omega
          · obtain rfl : j = n := by omega
            have HP5 : Hid (PlI w b m c cb ib N W T H A S wr) := HJ.out.1
            have D1 : Hid _ := sameP_yes none none 0 0 0 [] [] wr (by omega) rfl rfl (fun _ => rfl) HJ.out.2.2.1 HJ.out.2.2.2
            have hFs := HP5.out.fst
            have hKy := HP5.out.keys
            have hCn := cntX_held hKy
            have hTb : (T : Int) ≤ 1000 ∧ H.length ≤ 64 := ⟨by have := hFs.1; have := HP5.out.rx.nb.1; omega, HP5.out.rc.len⟩
            have HF6 : Hid (FstX N T S ∧ H.map (·.1) = keysX S N T ∧ cntX S N T = H.length) := ⟨hFs, hKy, hCn⟩
            have HX6 : Hid (∀ u, PlI w b m c cb ib N W T H A S u → Calls Try.prog 17 #[.pointer (some ⟨c, 0, none⟩)] u fun e w' => e = .returned (.int .i64 (H.length : Int)) ∧ w' = u) := fun u hu => by
              have := xheld_any hu.rx HF6.out.1
              rwa [HF6.out.2.2] at this
            have HR6 : Hid (∀ u, PlI w b m c cb ib N W T H A S u → Calls Try.prog 20 #[.pointer (some ⟨c, 0, none⟩)] u fun e w' => XrP u (rgN [] (H.map (·.1))) e w') := fun u hu => by
              have := xranges_any hu.rx HF6.out.1
              rwa [← HF6.out.2.1] at this
            obtain ⟨dd, hdd⟩ : ∃ d, ((T : Int) == (N : Int)) = d := ⟨_, rfl⟩
            have HD6 : Hid (∀ u, PlI w b m c cb ib N W T H A S u → Calls Try.prog 21 #[.pointer (some ⟨b, 0, none⟩)] u fun e w' => e = .returned (.bool dd) ∧ w' = u.drew) := fun u hu => by
              have := rdone_any hu.rc
              rwa [hdd] at this
            obtain ⟨G, hG⟩ : ∃ G, rgN [] (H.map (·.1)) = G := ⟨_, rfl⟩
            have hG4 : G.length ≤ 4 := by rw [← hG, rgN_fold _ _ (by simp), List.length_take]; omega
            have HG6 : Hid (rgN [] (H.map (·.1)) = G) := hG
            rw [hG] at HR6
            obtain ⟨ng, hng⟩ : ∃ k, G.length = k := ⟨_, rfl⟩
            have HGn : Hid (G.length = ng) := hng
            rw [hng] at hG4
            clear hFs hKy hCn hG hng HJ hll HDn HLz
            go_wp2_with (first
              | (go_at_call 13; refine Calls.mono D1.out ?_; rintro e x6 ⟨rfl, b6⟩; have HP6 : Hid (PlI w b m c cb ib N W T H A S x6) := HP5.out.old b6; clear b6)
              | (go_at_call 14; refine Calls.mono (rnext_any HP6.out.rc) ?_; rintro e x ⟨rfl, hx⟩; have hx2 := hx.symm; clear hx; subst hx2)
              | (go_at_call 15; (first | refine Calls.mono (xnext_any HP6.out.rx HF6.out.1) ?_ | refine Calls.mono (xnext_any HPd.out.rx HF6.out.1) ?_); rintro e x ⟨rfl, hx⟩; have hx2 := hx.symm; clear hx; subst hx2)
              | (go_at_call 16; refine Calls.mono (rheld_any HP6.out.rc) ?_; rintro e x ⟨rfl, hx⟩; have hx2 := hx.symm; clear hx; subst hx2)
              | (go_at_call 17; refine Calls.mono (HX6.out x6 HP6.out) ?_; rintro e x ⟨rfl, hx⟩; have hx2 := hx.symm; clear hx; subst hx2)
              | (go_at_call 19; refine Calls.mono (ranges_any HP6.out.rc) ?_; rintro e x7 ⟨v7, rfl, o7, b7⟩; obtain ⟨a7, c7, rfl, r7, -⟩ := owns_rgR o7; rw [HG6.out] at r7; rw [HG6.out, HGn.out]; have HP7 : Hid (PlI w b m c cb ib N W T H A S x7 ∧ RgR x7 a7 G) := ⟨HP6.out.old b7, r7⟩; clear o7 b7 r7)
              | (go_at_call 20; refine Calls.mono (HR6.out x7 HP7.out.1) ?_; rintro e x8 ⟨a8, n8, c8, rfl, h8, r8, b8⟩; rw [HGn.out] at h8; subst h8; have HP8 : Hid (PlI w b m c cb ib N W T H A S x8) := HP7.out.1.old b8; have CS8 : Hid _ := sameR_yes a7 a8 n8 c7 c8 G x8 HGn.out (by omega) (HP7.out.2.old b8) r8; clear b8 r8)
              | (go_at_call 18; refine Calls.mono CS8.out ?_; rintro e x9 ⟨rfl, b9⟩; have HP9 : Hid (PlI w b m c cb ib N W T H A S x9) := HP8.out.old b9; have HPd : Hid (PlI w b m c cb ib N W T H A S x9.drew) := HP9.out.old (below_drewR x9); clear b9)
              | (go_at_call 21; refine Calls.mono (HD6.out x9 HP9.out) ?_; rintro e x ⟨rfl, hx⟩; have hx2 := hx.symm; clear hx; subst hx2))
            go_roundw
            case rel => exact ⟨k + 1, T, H, A, S, by omega, by go_num, HPd.out⟩
            case measure => first | (show len - ((k : Int) + 1).toNat < len - ((k : Int)).toNat; omega) | (simp [intOf]; omega)
      · obtain ⟨m1, m2, m3, m4⟩ := mcB_ex hmc
        obtain ⟨I, rfl⟩ : ∃ I : Nat, ii = (I : Int) := ⟨ii.toNat, by omega⟩
        have HIb : Hid (T ≤ I ∧ I < N ∧ (I : Int) - T < W ∧ S I = false) := by
          refine ⟨by omega, by omega, by omega, ?_⟩
          rw [HP.out.sv I (by omega)]
          unfold cameB
          rw [m1, decide_eq_false (by omega)]
          rfl
        have C3 : Hid _ := take_yes HP1.out.rc (I : Int) HWf.out (N := n) (zs := pz) HLz.out HO1.out.2.2.2.1 (by omega) HC3.out.1 (HO1.out.1.row rfl) hmc
        have HDt : Hid (∀ q : Pt, ∃ T' : Nat, (relN (T : Int) (hIns (I : Int) q H)).2.1 = (T' : Int) ∧ StD N T T' I H (relN (T : Int) (hIns (I : Int) q H)).2.2 A S q (relN (T : Int) (hIns (I : Int) q H)).1) := fun q => HP.out.data hmc q
        clear m1 m2 m3 m4 hmc
        go_upto_region 16 with (go_at_call 11; refine Calls.mono C3.out ?_; rintro e x2 ⟨q, q1, q2, q3, v, g5, rfl, q4, q5, q6, q7⟩; obtain ⟨T', hT', dt⟩ := HDt.out q; obtain ⟨P, hP⟩ : ∃ P, (relN (T : Int) (hIns (I : Int) q H)).1 = P := ⟨_, rfl⟩; obtain ⟨H', hH⟩ : ∃ H', (relN (T : Int) (hIns (I : Int) q H)).2.2 = H' := ⟨_, rfl⟩; rw [hP, hH] at dt; rw [hP] at q4; rw [hT', hH] at q7; obtain ⟨a5, c5, hv, -⟩ := q4.shape; have hpl : (pvl P).length = T' - T := (by unfold pvl; rw [List.length_map]; exact dt.len); rw [hpl] at hv; subst hv; clear hT' hP hH hpl)
        have HT5 : Hid (q.z = pz ∧ (∀ x, q.a = some x → x1.heap.size ≤ x.block) ∧ PtOk x2 q ∧ Sl x2 32 (.slice a5 (T' - T) c5) g5 (pvl P) ∧ (∀ k, g5 = some k → x1.heap.size ≤ k) ∧ F2 b m x1 x2 ∧ Rc x2 b m N W (T' : Int) H' ∧ StD N T T' I H H' A S q P) := ⟨q1, q2, q3, q4, q5, q6, q7, dt⟩
        have HX2 : Hid (x2.heap[wr.heap.size]? = some (.cells #[.int .i64 (I : Int), .slice pa n pc] 34 (0, 0))) := (q6.block _ (lt_of_block HX1.out) (by have := HOd.out.1; omega) (by have := HOd.out.2.1; omega)).trans HX1.out
        have HRx : Hid (Rx x2 c cb ib N W A S) := HP1.out.rx.f2 HP1.out.rc q6 HP1.out.ne.1 HP1.out.ne.2.1 HP1.out.ne.2.2
        obtain ⟨d4, d5⟩ := HI2.out HX2.out
        have hpa : PtOk x2 ⟨pa, pc, pz⟩ := q6.pt HP1.out.rc (pt_old HC3.out HB2.out)
        have C4 : Hid _ := xtake_yes HRx.out HP.out.fst I HIb.out.1 HIb.out.2.1 HIb.out.2.2.1 HIb.out.2.2.2 (n := n) (zs := pz) HLz.out hpa.2.2.2.1 (by omega) hpa.1 hpa.2.2.2.2 T' dt.fst dt.lt
        clear q1 q2 q3 q4 q5 q6 q7 dt hpa C3 HDt d2 d3 HX1
        go_upto_region 17 with (go_at_call 12; refine Calls.mono C4.out ?_; rintro e x3 ⟨q', a6, c6, p1, p2, rfl, p4, p5, p6, p7⟩)
        have HT6 : Hid (q'.z = pz ∧ (∀ x, q'.a = some x → q'.z ≠ [] → x2.heap.size ≤ x.block) ∧ PsM x3 a6 (xOut (updR A I q') T T') ∧ (∀ x, a6 = some x → x2.heap.size ≤ x.block) ∧ Rx x3 c cb ib N W (updR A I q') (updR S I true) ∧ F2 cb ib x2 x3) := ⟨p1, p2, p4, p5, p6, p7⟩
        clear p1 p2 p4 p5 p6 p7 C4
        obtain ⟨t1, t2, t3, t4, t5, t6, t7, t8⟩ := HT5.out
        obtain ⟨s1, s2, s3, s4, s5, s6⟩ := HT6.out
        obtain ⟨o1, o2, o3, o4, o5, o6, o7, o8⟩ := HOd.out
        have hy1 := HS1.out.1
        have hy2 := HS1.out.2
        obtain ⟨nb1, nb2⟩ := HRx.out.cm.noby
        have HP3 : Hid (PlI w b m c cb ib N W T' H' (updR A I q') (updR S I true) x3) := HP.out.step HB2.out t6 t7 t8 (s1.trans t1.symm) HRx.out s6 s5
        have HW3 : Hid (Sl x3 5 (.slice a1 n e1) g1 (vals pz) ∧ PsM x3 a5 P ∧ PsM x3 a6 (xOut (updR A I q') T T')) := by
          refine ⟨?_, ?_, s3⟩
          · refine HO1.out.1.same fun k hk => ?_
            have h1 := HO1.out.2.2.2.2 k hk
            have h2 := HO1.out.1.lt hk
            exact (s6.block k (Nat.lt_of_lt_of_le h2 t6.size) (by omega) (by omega)).trans (t6.block k h2 (by omega) (by omega))
          · refine ps_of_sl (t4.same fun k hk => ?_) (fun p hp => ?_)
            · have h1 := t5 k hk
              exact s6.block k (t4.lt hk) (by omega) (by omega)
            · refine NoBy.f2 nb1 nb2 s6 ?_
              rcases t8.pm p hp with rfl | ⟨k, hk⟩
              · exact t3
              · exact t6.pt HP1.out.rc (pt_old (o7 _ hk) HB2.out)
        have HDn : Hid (∀ ob, g1 = some ob → (ob ≠ b ∧ ob ≠ m ∧ ob ≠ c ∧ ob ≠ cb ∧ ob ≠ ib) ∧ w.heap.size ≤ ob ∧ (∀ p ∈ H', Dn ob p.2) ∧ (∀ j, j < N → Dn ob (updR A I q' j)) ∧ ((∀ x, a5 = some x → x.block ≠ ob) ∧ ∀ p ∈ P, Dn ob p) ∧ (∀ x, a6 = some x → x.block ≠ ob) ∧ ∀ p ∈ xOut (updR A I q') T T', Dn ob p) := fun ob hob => by
          have h1 := HO1.out.2.2.2.2 ob hob
          have h2 := HO1.out.1.lt hob
          have h3 := t6.size
          have hq : Dn ob q := dn_new (fun x hx _ => t2 x hx) h2
          have hA : ∀ j, j < N → Dn ob (updR A I q' j) := fun j hj => by
            unfold updR
            split
            · exact dn_new s2 (by omega)
            · exact Dn.of_lt (o8 j hj) (by omega)
          refine ⟨⟨by omega, by omega, by omega, by omega, by omega⟩, by omega, fun p hp => ?_, hA, ⟨fun x hx => ?_, fun p hp => ?_⟩, fun x hx => by have := s4 x hx; omega, fun p hp => ?_⟩
          · rcases t8.hm p hp with e | hp
            · rw [e]; exact hq
            · exact Dn.of_lt (o7 p hp) (by omega)
          · rcases t4 with ⟨e, _, _⟩ | ⟨b', off, cap', cur, e, eg, _⟩
            · simp only [Value.slice.injEq] at e; rw [hx] at e; cases e.1
            · simp only [Value.slice.injEq] at e
              rw [hx] at e
              have e1 := Option.some.inj e.1
              rw [e1]
              have := t5 b' eg
              show b' ≠ ob
              omega
          · rcases t8.pm p hp with rfl | ⟨k, hk⟩
            · exact hq
            · exact Dn.of_lt (o7 _ hk) (by omega)
          · obtain ⟨k, hk1, hk2, rfl⟩ := xOut_mem hp
            exact hA k (by have := t8.fst.1; omega)
        have HZs : Hid (P.length = T' - T ∧ (xOut (updR A I q') T T').length = T' - T ∧ (∀ i : Nat, (P[i]?).map Pt.z = ((xOut (updR A I q') T T')[i]?).map Pt.z) ∧ T' ≤ N) := ⟨t8.len, xOut_len _ _ _, t8.zs q' (s1.trans t1.symm), t8.fst.1⟩
        have hTN : T' ≤ 300 := by have := t8.fst.1; omega
        obtain ⟨Q, hQ⟩ : ∃ Q, xOut (updR A I q') T T' = Q := ⟨_, rfl⟩
        obtain ⟨A2, hA2⟩ : ∃ A2, updR A I q' = A2 := ⟨_, rfl⟩
        obtain ⟨S2, hS2⟩ : ∃ S2, updR S I true = S2 := ⟨_, rfl⟩
        rw [hQ] at HW3 HDn HZs
        rw [hA2] at HP3 HDn
        rw [hS2] at HP3
        obtain ⟨n5, hn5⟩ : ∃ n5, T' - T = n5 := ⟨_, rfl⟩
        rw [hn5] at HZs
        have hn5b : n5 ≤ 300 := by omega
        try rw [hn5]
        clear t1 t2 t3 t4 t5 t6 t7 t8 s1 s2 s3 s4 s5 s6 o1 o2 o3 o4 o5 o6 o7 o8 hy1 hy2 nb1 nb2 HT5 HT6 HX2 HRx d4 d5 HP1 HP HB2 HO1 HS1 HOd HC3 HIb HWf hn5 hQ hA2 hS2 HI2
        go_upto_region 17 with fail
        go_wp2
        go_loopw [81] (fun jv wx => ∃ (j : Nat) (l : List Int), j ≤ n ∧ jv = .int .i64 j ∧ l.length = n ∧ Hid (PlI w b m c cb ib N W T' H' A2 S2 wx ∧ Sl wx 5 (.slice a1 n e1) g1 (vals l) ∧ PsM wx a5 P ∧ PsM wx a6 Q)) (fun jv _ => n - (intOf jv).toNat)
        case atStart => exact ⟨0, pz, Nat.zero_le _, rfl, HLz.out, HP3.out, HW3.out⟩
        case round =>
          clear HP3 HW3
          obtain ⟨j, l, hj, rfl, hll, HJ⟩ := hrel
          by_cases hjl : j < n
          · obtain ⟨og, oo, oc, rfl, rfl, hog, cc, fc⟩ := row_cellZ HJ.out.2.1 hll j hjl
            obtain ⟨n1, n2, n3, n4, n5, n6, n7⟩ := HDn.out og hog
            have HJ2 : Hid (∀ v : Int, PlI w b m c cb ib N W T' H' A2 S2 (wr.setCell ⟨og, oo + j, none⟩ (.int .u8 v)) ∧ Sl (wr.setCell ⟨og, oo + j, none⟩ (.int .u8 v)) 5 (.slice (some ⟨og, oo, none⟩) n oc) g1 (vals (l.set j v)) ∧ PsM (wr.setCell ⟨og, oo + j, none⟩ (.int .u8 v)) a5 P ∧ PsM (wr.setCell ⟨og, oo + j, none⟩ (.int .u8 v)) a6 Q) := fun v => ⟨HJ.out.1.own (grownBy_setZ wr og (oo + j) _) n1 n2 n3 n4, by rw [vals_setC]; exact HJ.out.2.1.setAt j _, HJ.out.2.2.1.own (grownBy_setZ wr og (oo + j) _) n5.1 n5.2, HJ.out.2.2.2.own (grownBy_setZ wr og (oo + j) _) n6 n7⟩
            have HLl : Hid (l.length = n) := hll
            clear n1 n2 n3 n4 n5 n6 n7 HJ hll
            go_wp2
            go_roundw
            case rel => exact ⟨j + 1, _, by omega, by go_num, by rw [List.length_set]; exact HLl.out, HJ2.out _⟩
            case measure => simp [intOf]; omega
          · obtain rfl : j = n := by omega
            have HP5 : Hid (PlI w b m c cb ib N W T' H' A2 S2 wr) := HJ.out.1
            have D1 : Hid _ := sameP_yes a5 a6 n5 c5 c6 P Q wr (by omega) HZs.out.1 HZs.out.2.1 HZs.out.2.2.1 HJ.out.2.2.1 HJ.out.2.2.2
            have hFs := HP5.out.fst
            have hKy := HP5.out.keys
            have hCn := cntX_held hKy
            have hTb : (T' : Int) ≤ 1000 ∧ H'.length ≤ 64 := ⟨by have := hFs.1; have := HP5.out.rx.nb.1; omega, HP5.out.rc.len⟩
            have HF6 : Hid (FstX N T' S2 ∧ H'.map (·.1) = keysX S2 N T' ∧ cntX S2 N T' = H'.length) := ⟨hFs, hKy, hCn⟩
            have HX6 : Hid (∀ u, PlI w b m c cb ib N W T' H' A2 S2 u → Calls Try.prog 17 #[.pointer (some ⟨c, 0, none⟩)] u fun e w' => e = .returned (.int .i64 (H'.length : Int)) ∧ w' = u) := fun u hu => by
              have := xheld_any hu.rx HF6.out.1
              rwa [HF6.out.2.2] at this
            have HR6 : Hid (∀ u, PlI w b m c cb ib N W T' H' A2 S2 u → Calls Try.prog 20 #[.pointer (some ⟨c, 0, none⟩)] u fun e w' => XrP u (rgN [] (H'.map (·.1))) e w') := fun u hu => by
              have := xranges_any hu.rx HF6.out.1
              rwa [← HF6.out.2.1] at this
            obtain ⟨dd, hdd⟩ : ∃ d, ((T' : Int) == (N : Int)) = d := ⟨_, rfl⟩
            have HD6 : Hid (∀ u, PlI w b m c cb ib N W T' H' A2 S2 u → Calls Try.prog 21 #[.pointer (some ⟨b, 0, none⟩)] u fun e w' => e = .returned (.bool dd) ∧ w' = u.drew) := fun u hu => by
              have := rdone_any hu.rc
              rwa [hdd] at this
            obtain ⟨G, hG⟩ : ∃ G, rgN [] (H'.map (·.1)) = G := ⟨_, rfl⟩
            have hG4 : G.length ≤ 4 := by rw [← hG, rgN_fold _ _ (by simp), List.length_take]; omega
            have HG6 : Hid (rgN [] (H'.map (·.1)) = G) := hG
            rw [hG] at HR6
            obtain ⟨ng, hng⟩ : ∃ k, G.length = k := ⟨_, rfl⟩
            have HGn : Hid (G.length = ng) := hng
            rw [hng] at hG4
            clear hFs hKy hCn hG hng HJ hll HDn HLz
            go_wp2_with (first
              | (go_at_call 13; refine Calls.mono D1.out ?_; rintro e x6 ⟨rfl, b6⟩; have HP6 : Hid (PlI w b m c cb ib N W T' H' A2 S2 x6) := HP5.out.old b6; clear b6)
              | (go_at_call 14; refine Calls.mono (rnext_any HP6.out.rc) ?_; rintro e x ⟨rfl, hx⟩; have hx2 := hx.symm; clear hx; subst hx2)
              | (go_at_call 15; (first | refine Calls.mono (xnext_any HP6.out.rx HF6.out.1) ?_ | refine Calls.mono (xnext_any HPd.out.rx HF6.out.1) ?_); rintro e x ⟨rfl, hx⟩; have hx2 := hx.symm; clear hx; subst hx2)
              | (go_at_call 16; refine Calls.mono (rheld_any HP6.out.rc) ?_; rintro e x ⟨rfl, hx⟩; have hx2 := hx.symm; clear hx; subst hx2)
              | (go_at_call 17; refine Calls.mono (HX6.out x6 HP6.out) ?_; rintro e x ⟨rfl, hx⟩; have hx2 := hx.symm; clear hx; subst hx2)
              | (go_at_call 19; refine Calls.mono (ranges_any HP6.out.rc) ?_; rintro e x7 ⟨v7, rfl, o7, b7⟩; obtain ⟨a7, c7, rfl, r7, -⟩ := owns_rgR o7; rw [HG6.out] at r7; rw [HG6.out, HGn.out]; have HP7 : Hid (PlI w b m c cb ib N W T' H' A2 S2 x7 ∧ RgR x7 a7 G) := ⟨HP6.out.old b7, r7⟩; clear o7 b7 r7)
              | (go_at_call 20; refine Calls.mono (HR6.out x7 HP7.out.1) ?_; rintro e x8 ⟨a8, n8, c8, rfl, h8, r8, b8⟩; rw [HGn.out] at h8; subst h8; have HP8 : Hid (PlI w b m c cb ib N W T' H' A2 S2 x8) := HP7.out.1.old b8; have CS8 : Hid _ := sameR_yes a7 a8 n8 c7 c8 G x8 HGn.out (by omega) (HP7.out.2.old b8) r8; clear b8 r8)
              | (go_at_call 18; refine Calls.mono CS8.out ?_; rintro e x9 ⟨rfl, b9⟩; have HP9 : Hid (PlI w b m c cb ib N W T' H' A2 S2 x9) := HP8.out.old b9; have HPd : Hid (PlI w b m c cb ib N W T' H' A2 S2 x9.drew) := HP9.out.old (below_drewR x9); clear b9)
              | (go_at_call 21; refine Calls.mono (HD6.out x9 HP9.out) ?_; rintro e x ⟨rfl, hx⟩; have hx2 := hx.symm; clear hx; subst hx2))
            go_roundw
            case rel => exact ⟨k + 1, T', H', A2, S2, by omega, by go_num, HPd.out⟩
            case measure => first | (show len - ((k : Int) + 1).toNat < len - ((k : Int)).toNat; omega) | (simp [intOf]; omega)
    · obtain rfl : k = len := by omega
      go_wp2
      go_ret
      exact ⟨rfl, HP.out.be⟩
theorem rpl_walk (n win : Int) (a : Option Addr) (len cap : Nat) (F : Nat → It) (w : World) (_hn : (Lit.int .i64 n).wf = true) (_hw : (Lit.int .i64 win).wf = true) (hF : ItArg w a len cap F) : Calls Try.prog 3 #[.int .i64 n, .int .i64 win, .slice a len cap] w fun e w' => e = .returned (.bool true) ∧ Below w.heap.size w w' := by
  by_cases h1 : 300 < n
  · exact rpl_big n win _ w h1
  · by_cases h2 : 0 ≤ n ∧ n ≤ 1048577 ∧ 1 ≤ win ∧ win ≤ 64
    · obtain ⟨N, rfl⟩ : ∃ N : Nat, n = (N : Int) := ⟨n.toNat, by omega⟩
      exact rpl_all N win a len cap F w (by omega) ⟨h2.2.2.1, h2.2.2.2⟩ hF
    · exact rpl_no n win _ w h1 h2
end Go.Proofs.Ytmfciheenemapaa
