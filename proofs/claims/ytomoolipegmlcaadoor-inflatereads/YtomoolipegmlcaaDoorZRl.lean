/- Bytes in pieces, and what the document says of them. -/
import Derived.Test.YtomoolipegmlcaaDoorZRk
namespace Go.Proofs.YtomoolipegmlcaaDoor
open Go.RowKit
theorem Row.takeN {w : World} {a : Option Addr} {l : List Int} (h : Row w a l) (k : Nat) : Row w a (l.take k) := by
  rcases h with rfl | ⟨b, off, rfl, hr⟩
  · exact .inl (by simp)
  · refine .inr ⟨b, off, rfl, fun i hi => ?_⟩
    rw [List.length_take] at hi
    rw [hr i (by omega), List.getElem?_take, if_pos (by omega)]
theorem Og.fail_of {r : Og} (h : r.err ≠ 0) : ∃ er out, r = .fail er out := by
  cases r with
  | stop s l => exact absurd rfl h
  | fail er out => exact ⟨er, out, rfl⟩
set_option maxHeartbeats 6400000 in
set_option maxRecDepth 20000 in
theorem ireads_walk (a1 : Option Addr) (len1 cap1 : Nat) (a2 : Option Addr) (len2 cap2 : Nat) (x : Int) (w : World) (hord : Ord w) (ha1 : BArg w a1 len1 cap1) (ha2 : BArg w a2 len2 cap2) (wx : (Lit.int .i64 x).wf = true) :
    Calls Tryd.prog 3 #[.slice a1 len1 cap1, .slice a2 len2 cap2, .int .i64 x] w fun e w' => e = .returned (.bool true) ∧ Below w.heap.size w w' := by
  have hx := bounds_i64 wx
  clear wx
  obtain ⟨bs, hbs, rfl, hn1, hc1, hc10, hr1⟩ := ha1
  obtain ⟨cs, hcs, rfl, hn2, hc2, hc20, hr2⟩ := ha2
  have HA : Hid (Bytes bs ∧ Row w a1 bs ∧ (a1 = none → cap1 = 0) ∧ Ord w ∧ Bytes cs ∧ Row w a2 cs) := ⟨hbs, hr1, hc10, hord, hcs, hr2⟩
  clear hbs hr1 hc10 hord hcs hr2 hc20
  by_cases hbig : 400 < (bs.length : Int)
  · go_enter Tryd.func3, Tryd.ntmps3
    go_wp2_with (go_at_call 9; refine (fixed_any _ HA.out.2.2.2.1).mono ?_; rintro e w1 ⟨rfl, hbel⟩)
    go_ret
    exact ⟨rfl, hbel⟩
  by_cases hbig2 : 6 < (cs.length : Int)
  · go_enter Tryd.func3, Tryd.ntmps3
    go_wp2_with (go_at_call 9; refine (fixed_any _ HA.out.2.2.2.1).mono ?_; rintro e w1 ⟨rfl, hbel⟩)
    go_ret
    exact ⟨rfl, hbel⟩
  go_enter Tryd.func3, Tryd.ntmps3
  go_wp2_with fail
  refine (fixed_any _ HA.out.2.2.2.1).mono ?_
  rintro e w1 ⟨rfl, b1⟩
  have HB1 : Hid (Below w.heap.size w w1) := b1
  clear b1
  go_upto_if 31 with fail
  go_cut [7] (fun v wx => w1 = wx ∧ ∃ y : Int, v = .int .i64 y ∧ y ≤ 20000 ∧ -9223372036854775808 ≤ y)
  case first =>
    by_cases hxx : 20000 < x
    · go_wp2
      go_meet
      exact ⟨rfl, 20000, rfl, by omega, by omega⟩
    · go_wp2
      go_meet
      exact ⟨rfl, x, rfl, by omega, by omega⟩
  case rest =>
    obtain ⟨rfl, y, rfl, hy, hy0⟩ := hcut
    have HNw := new_any y w1 (by omega)
    go_wp2_with fail
    refine HNw.mono ?_
    rintro e w2 ⟨rfl, hd, b2⟩
    obtain ⟨D, hD⟩ : ∃ D, w1.heap.size = D := ⟨_, rfl⟩
    rw [hD] at hd
    have HK : Hid (IrRel w D D y.toNat bs 0 0 false w2 ∧ w.heap.size ≤ D) := by
      refine ⟨⟨o0, _, Nat.zero_le _, hd, rfl, rfl, HB1.out.trans (b2.mono HB1.out.size), by rw [← hD]; exact b2.size⟩, by rw [← hD]; exact HB1.out.size⟩
    clear HNw hd b2 HB1
    go_wp2
    clear hD
    go_loopg [9, 10, 11, 12, 13, 14, 15, 16, 17, 18] (cs.length + 1) (fun fu told att bad i _ _ _ _ _ _ wr => ∃ (A T t : Nat) (bb : Bool), told = .int .i64 T ∧ att = .int .i64 A ∧ bad = .bool bb ∧ i = .int .i64 t ∧ t ≤ cs.length + 1 ∧ fu = cs.length + 1 - t ∧ Hid (IrRel w D D y.toNat bs A T bb wr))
    case atStart => exact ⟨0, 0, 0, false, rfl, rfl, rfl, rfl, Nat.zero_le _, rfl, HK.out.1⟩
    case round =>
      obtain ⟨A, T, t, bb, rfl, rfl, rfl, rfl, ht, hfu, HX⟩ := hrel
      have HDl : Hid (w.heap.size ≤ D) := HK.out.2
      clear HK
      by_cases htl : t ≤ cs.length
      · have htli : (t : Int) ≤ (cs.length : Int) := by omega
        have hA : A ≤ bs.length := by obtain ⟨o, r, h, _⟩ := HX.out; exact h
        obtain ⟨M, hM⟩ : ∃ M, bs.length - A = M := ⟨_, rfl⟩
        have hMi : (bs.length : Int) - (A : Int) = (M : Int) := by omega
        go_upto_if 47 with fail
        go_cut [13] (fun v wx => wr = wx ∧ ∃ N : Nat, v = .int .i64 N ∧ A + N ≤ bs.length)
        case first =>
          by_cases htc : t < cs.length
          · have htci : (t : Int) < (cs.length : Int) := by omega
            obtain ⟨b2, off2, ha2, hcell⟩ : ∃ b off, a2 = some ⟨b, off, none⟩ ∧ wr.cell? ⟨b, off + t, none⟩ = some (.int .u8 (cs[t]?.getD 0)) := by
              obtain ⟨o, r, _, _, _, _, hbel, _⟩ := HX.out
              rcases HA.out.2.2.2.2.2 with h | ⟨b, off, rfl, hc⟩
              · rw [h] at htc; simp at htc
              · refine ⟨b, off, rfl, ?_⟩
                rw [← hc t htc]
                exact hbel.cell (p := ⟨b, off + t, none⟩) (cell_lt (hc t htc))
            subst ha2
            have hcb := HA.out.2.2.2.2.1.at t
            obtain ⟨c, hcn⟩ : ∃ c : Nat, cs[t]?.getD 0 = (c : Int) := ⟨(cs[t]?.getD 0).toNat, by omega⟩
            rw [hcn] at hcell hcb
            clear HX hcn
            rcases Nat.lt_trichotomy M c with h | h | h
            · have hi : (M : Int) < (c : Int) := by omega
              have hi2 : ¬ (c : Int) < (M : Int) := by omega
              go_wp2
              go_meet
              exact ⟨rfl, M, rfl, by omega⟩
            · subst h
              go_wp2
              go_meet
              exact ⟨rfl, M, rfl, by omega⟩
            · have hi : (c : Int) < (M : Int) := by omega
              have hi2 : ¬ (M : Int) < (c : Int) := by omega
              go_wp2
              go_meet
              exact ⟨rfl, c, rfl, by omega⟩
          · have htci : ¬ (t : Int) < (cs.length : Int) := by omega
            clear HX
            go_wp2
            go_meet
            exact ⟨rfl, M, rfl, by omega⟩
        case rest =>
          obtain ⟨rfl, N, rfl, hAN⟩ := hcut
          obtain ⟨zs, hzs⟩ : ∃ zs, (bs.drop A).take N = zs := ⟨_, rfl⟩
          have hzl : zs.length = N := by rw [← hzs, List.length_take, List.length_drop]; omega
          have HZB : Hid (Bytes zs ∧ bitsL (bs.take A) ++ bitsL zs = bitsL (bs.take (A + N))) := by
            rw [← hzs]
            exact ⟨fun z hz => HA.out.1 z (List.mem_of_mem_drop (List.mem_of_mem_take hz)), by rw [← bitsL_append, ← List.take_add]⟩
          have HRz : Hid (Row wr (if cap1 = A then a1 else Option.map (fun x => x.add A) a1) zs) := by
            obtain ⟨o, r, _, _, _, _, hbel, _⟩ := HX.out
            have h := ((HA.out.2.1.old hbel).cut A cap1 hA hn1).takeN N
            rw [hzs] at h
            exact h
          clear hzs
          go_upto_region 17 with fail
          go_cut [0, 14] (fun v0 v wx => v0 = .slice a1 bs.length cap1 ∧ ∃ a' c', v = .slice a' N c' ∧ Hid (∃ g, Sl wx 5 (.slice a' N c') g (vals zs) ∧ (∀ k, g = some k → wr.heap.size ≤ k) ∧ Below wr.heap.size wr wx))
          case first =>
            have hANi : (A : Int) + (N : Int) ≤ (bs.length : Int) := by omega
            have hANc : (A : Int) + (N : Int) ≤ (cap1 : Int) := by omega
            have hNc : A + N ≤ cap1 := by omega
            by_cases hca : cap1 = A
            · rw [if_pos hca] at HRz
              obtain rfl : N = 0 := by omega
              have hA0 : cap1 - A = 0 := by omega
              clear HX
              go_wp2_with (at_builtin; refine wpList_copy rfl _ _ rfl a1 0 0 zs rfl rfl (fun _ => rfl) hzl HRz.out (by omega) ?_)
              intro a' c' w' g' h1 h2 h3
              have HP : Hid _ := (⟨g', h1, h2, h3⟩ : ∃ g, Sl w' 5 (.slice a' 0 c') g (vals zs) ∧ (∀ k, g = some k → wr.heap.size ≤ k) ∧ Below wr.heap.size wr w')
              clear h1 h2 h3
              go_wp2
              go_meet
              exact ⟨by rw [hca], a', c', rfl, HP.out⟩
            · rw [if_neg hca] at HRz
              have hmn : Option.map (fun x : Addr => x.add A) a1 = none → cap1 - A = 0 := by
                intro h
                cases a1 with
                | none => have := HA.out.2.2.1 rfl; omega
                | some q => cases h
              have HMN : Hid (Option.map (fun x : Addr => x.add A) a1 = none → cap1 - A = 0) := hmn
              clear HX hmn
              go_wp2_with (at_builtin; refine wpList_copy rfl _ _ rfl (Option.map (fun x => x.add A) a1) (A + N - A) (cap1 - A) zs rfl rfl HMN.out (by omega) HRz.out (by omega) ?_)
              intro a' c' w' g' h1 h2 h3
              have hANA : A + N - A = N := by omega
              try rw [hANA] at h1
              try rw [hANA]
              clear hANA
              have HP : Hid _ := (⟨g', h1, h2, h3⟩ : ∃ g, Sl w' 5 (.slice a' N c') g (vals zs) ∧ (∀ k, g = some k → wr.heap.size ≤ k) ∧ Below wr.heap.size wr w')
              clear h1 h2 h3
              go_wp2
              go_meet
              exact ⟨rfl, a', c', rfl, HP.out⟩
          case rest =>
            obtain ⟨rfl, ay, cy, rfl, HY⟩ := hcut
            obtain ⟨g, hsl, hgf, hbw⟩ := HY.out
            obtain ⟨o, r, _, hd, hT, hbad, hbel, hbase⟩ := HX.out
            have hdc := hd.old hbw
            have hordc : Ord wc := HA.out.2.2.2.1.below (hbel.trans (hbw.mono hbel.size)) HA.out.2.2.2.1.pos
            obtain ⟨ayy, cyy, hvv, hle1, hle2, hle3⟩ := hsl.shape
            rw [vals_len, hzl] at hvv
            simp only [Value.slice.injEq] at hvv
            obtain ⟨rfl, _, rfl⟩ := hvv
            have hD1 : 1 ≤ D := by have := HA.out.2.2.2.1.pos; have := HDl.out; omega
            have HPu := push_any hdc zs ay N cy hzl HZB.out.1 (fun e => by have h1 := hle3 e; rw [vals_len, hzl] at hle1; omega) (hsl.row rfl) (Nat.le_trans hbase hbw.size) hD1 hordc (by omega) (by rw [bitsL_len, List.length_take]; omega)
            rw [HZB.out.2] at HPu
            have HW : Hid (Sl wc 5 (.slice ay N cy) g (vals zs) ∧ (∀ k, g = some k → wr.heap.size ≤ k) ∧ Below w.heap.size w wc ∧ Dec D wr D y.toNat (bitsL (bs.take A)) o r ∧ T = r.out.length ∧ bb = (r.err != 0) ∧ D ≤ wr.heap.size ∧ w.heap.size ≤ wr.heap.size ∧ Below wr.heap.size wr wc) := ⟨hsl, hgf, hbel.trans (hbw.mono hbel.size), hd, hT, hbad, hbase, hbel.size, hbw⟩
            clear HY HX hsl hgf hbw hd hT hbad hbel hbase hdc hordc hle1 hle2 hle3 HRz
            go_wp2_with fail
            refine HPu.mono ?_
            rintro e w4 ⟨r', o', tv, tg, rfl, hd4, hpre, hsl4, htg, hst⟩
            obtain ⟨ax, cx, hv4, hq1, hq2, hq3⟩ := hsl4.shape
            obtain ⟨Q, hQ⟩ : ∃ Q, (vals (r'.out.drop r.out.length)).length = Q := ⟨_, rfl⟩
            rw [hQ] at hv4
            subst hv4
            obtain ⟨ER, hER⟩ : ∃ ER, r'.err = ER := ⟨_, rfl⟩
            have hne : ∀ k, g = some k → k ≠ D ∧ o.g ≠ some k ∧ o.q ≠ some k ∧ o.t ≠ some k := by
              intro k hk
              have h1 := HW.out.2.1 k hk
              obtain ⟨e1, e2, e3⟩ := HW.out.2.2.2.1.blocks
              refine ⟨by omega, fun e => ?_, fun e => ?_, fun e => ?_⟩
              · have := e2 k e; omega
              · have := e3 k e; omega
              · rw [HW.out.2.2.2.1.t] at e; cases e
            have hslo : Sl w4 5 (.slice ay N cy) g (vals zs) := HW.out.1.same fun k hk => by
              obtain ⟨e1, e2, e3, e4⟩ := hne k hk
              exact hst.block k (HW.out.1.lt hk) e1 (fun h => e2 h.symm) (fun h => e3 h.symm) (fun h => e4 h.symm)
            have hbel4 : Below w.heap.size w w4 := HW.out.2.2.1.trans ((hst.below HW.out.2.2.2.1.fr (Nat.le_trans HW.out.2.2.2.2.2.2.1 HW.out.2.2.2.2.2.2.2.2.size)).mono HDl.out)
            have HI0 : Hid (∃ zs', zs'.length = N ∧ Sl w4 5 (.slice ay N cy) g (vals zs') ∧ OnlyG g w4 w4) := ⟨zs, hzl, hslo, OnlyG.refl _ _⟩
            have htgg : ∀ k, tg = some k → g ≠ some k := fun k hk e => by
              have h1 := htg k hk
              have h2 := HW.out.1.lt e
              omega
            have HP4 : Hid (∀ w5, OnlyG g w4 w5 → Dec D w5 D y.toNat (bitsL (bs.take (A + N))) o' r' ∧ Row w5 ax (r'.out.drop r.out.length) ∧ Below w.heap.size w w5 ∧ w4.heap.size ≤ w5.heap.size) := by
              intro w5 h5
              refine ⟨Dec.only HW.out.1 hne hst hd4 h5, (hsl4.same fun k hk => h5.block k (htgg k hk)).row rfl, ⟨h5.os.trans hbel4.os, h5.tape.trans hbel4.tape, h5.output.trans hbel4.output, Nat.le_trans hbel4.size h5.size, fun k hk => (h5.block k fun e => ?_).trans (hbel4.block k hk)⟩, h5.size⟩
              have h1 := HW.out.2.1 k e
              have h2 := HW.out.2.2.2.2.2.2.2.1
              omega
            have HQ : Hid (Q = (r'.out.drop r.out.length).length ∧ r'.err = ER ∧ r.out <+: r'.out ∧ D ≤ w4.heap.size) := ⟨by rw [← hQ, vals_len], hER, hpre, Nat.le_trans HW.out.2.2.2.2.2.2.1 (Nat.le_trans HW.out.2.2.2.2.2.2.2.2.size hst.size)⟩
            rw [hER]
            have hQb : Q ≤ 20000 := by
              have h1 := hd4.le
              rw [← hQ, vals_len, List.length_drop]
              omega
            have HLE : Hid (r'.out.length ≤ 20000) := (by have h1 := hd4.le; omega : r'.out.length ≤ 20000)
            clear HPu hd4 hpre hsl4 htg hst hQ hER hne hslo hbel4 htgg hq1 hq2 hq3
            go_wp2
            go_loopg [17, 74] N (fun fu _ i wq => ∃ k : Nat, k ≤ N ∧ fu = N - k ∧ i = .int .i64 k ∧ Hid (∃ zs', zs'.length = N ∧ Sl wq 5 (.slice ay N cy) g (vals zs') ∧ OnlyG g w4 wq))
            case atStart => exact ⟨0, Nat.zero_le _, rfl, rfl, HI0.out⟩
            case round =>
              clear HI0
              obtain ⟨k, hk, hfk, rfl, HZ⟩ := hrel
              by_cases hkN : k < N
              · have hkNi : (k : Int) < (N : Int) := by omega
                obtain ⟨zs', hz1, hz2, hz3⟩ := HZ.out
                obtain ⟨bq, offq, rfl, hcq⟩ : ∃ b off, ay = some ⟨b, off, none⟩ ∧ wr.cell? ⟨b, off + k, none⟩ = some (.int .u8 (zs'[k]?.getD 0)) := by
                  rcases hz2.row rfl with h | ⟨b, off, rfl, hc⟩
                  · rw [h] at hz1; simp at hz1; omega
                  · exact ⟨b, off, rfl, hc k (by omega)⟩
                have hgq : g = some bq := by
                  rcases hz2 with ⟨h, _⟩ | ⟨b', off', cap', cur, h, hg, _⟩
                  · cases h
                  · simp only [Value.slice.injEq, Option.some.injEq, Addr.mk.injEq] at h
                    rw [hg, h.1.1]
                have hfq : wr.frozen? ⟨bq, offq + k, none⟩ = false := by
                  obtain ⟨c, e⟩ := hz2.tag bq hgq
                  simp [World.frozen?, e]
                obtain ⟨z, hz⟩ : ∃ z, zs'[k]?.getD 0 = z := ⟨_, rfl⟩
                rw [hz] at hcq
                have HN1 : Hid (∀ v : Int, ∃ zs', zs'.length = N ∧ Sl (wr.setCell ⟨bq, offq + k, none⟩ (.int .u8 v)) 5 (.slice (some ⟨bq, offq, none⟩) N cy) g (vals zs') ∧ OnlyG g w4 (wr.setCell ⟨bq, offq + k, none⟩ (.int .u8 v))) := by
                  intro v
                  refine ⟨zs'.set k v, by simpa using hz1, by rw [vals_set]; exact hz2.setAt k _, ?_⟩
                  rw [hgq] at hz3 ⊢
                  exact hz3.set _ _
                have hki : (0 : Int) ≤ (k : Int) := by omega
                clear HZ hz1 hz2 hz3 hgq hz
                go_wp2
                go_roundg (N - (k + 1))
                case rel => exact ⟨k + 1, by omega, rfl, by go_num, HN1.out _⟩
                case measure => omega
              · obtain rfl : N = k := by omega
                have hkNi : ¬ (N : Int) < (N : Int) := by omega
                obtain ⟨zs', -, -, hon⟩ := HZ.out
                obtain ⟨hd5, hrow5, hbel5, hsz5⟩ := HP4.out wr hon
                obtain ⟨AN, hANe⟩ : ∃ AN, A + N = AN := ⟨_, rfl⟩
                have hANi : (A : Int) + (N : Int) = (AN : Int) := by omega
                rw [hANe] at hd5
                have hANl : (AN : Int) ≤ (bs.length : Int) ∧ (AN : Int) ≤ (cap1 : Int) ∧ (0 : Int) ≤ (AN : Int) := by omega
                have HOf := rof_any a1 AN cap1 (bs.take AN) y wr (by rw [List.length_take]; omega) (by omega) (fun z hz => HA.out.1 z (List.mem_of_mem_take hz)) ((HA.out.2.1.old hbel5).takeN AN) (by omega)
                have H5 : Hid (Dec D wr D y.toNat (bitsL (bs.take AN)) o' r' ∧ Row wr ax (r'.out.drop r.out.length) ∧ Below w.heap.size w wr ∧ D ≤ wr.heap.size) := ⟨hd5, hrow5, hbel5, Nat.le_trans HQ.out.2.2.2 hsz5⟩
                have HAN : Hid (AN ≤ bs.length) := (by omega : AN ≤ bs.length)
                have HANe : Hid (A + N = AN) := hANe
                clear HZ hon hd5 hrow5 hbel5 hsz5 HP4 hANe
                go_wp2_with fail
                refine HOf.mono ?_
                rintro e w6 ⟨R, gb, go, gq, B, out, E, dn, rfl, hRs, ra, hol, hbB, hlB, hbe6, hofe, hdn⟩
                have hcmp := of_cmp H5.out.1.runs hofe hdn
                obtain ⟨vb, vo, vk, al, ks, r1, r2, r3, r4, r5⟩ := id ra
                obtain ⟨ao, co, hvo, hco1, hco2, hco3⟩ := r3.shape
                rw [vals_len] at hvo hco1
                subst hvo
                have k2 := r1.cells.2.1
                have k4 := r1.cells.2.2.2.1
                have k5 := r1.cells.2.2.2.2.1
                obtain ⟨C, hC⟩ : ∃ C, (if E = 2 then 0 else E) = C := ⟨_, rfl⟩
                have HCl := clear_any E w6
                rw [hC] at HCl
                obtain rfl : ER = C := by rw [← hC, ← hcmp.2.1]; exact HQ.out.2.1.symm
                have H6 : Hid (Dec D w6 D y.toNat (bitsL (bs.take AN)) o' r' ∧ Row w6 ax (r'.out.drop r.out.length) ∧ Row w6 ao out ∧ Below w.heap.size w w6 ∧ D ≤ w6.heap.size ∧ RunAt w6 R gb go gq B out y E dn ∧ Bit B ∧ B.length ≤ 1000000 ∧ (a1 = a1)) := ⟨H5.out.1.old hbe6, H5.out.2.1.old hbe6, r3.row rfl, H5.out.2.2.1.trans (hbe6.mono H5.out.2.2.1.size), Nat.le_trans H5.out.2.2.2 hbe6.size, ra, hbB, hlB, rfl⟩
                have HCM : Hid _ := hcmp
                have HE2 : Hid ((if E = 2 then 0 else E) = ER) := hC
                have hcc : (ER != ER) = false := by simp
                clear HOf H5 ra r1 r2 r3 r4 r5 hofe hcmp hC hbe6 hol hbB hlB hdn hco2 hco3
                cases bb with
                | true =>
                  have hrr : r = r' := by
                    have he : r.err ≠ 0 := by
                      have := HW.out.2.2.2.2.2.1
                      intro e
                      rw [e] at this
                      cases this
                    obtain ⟨er, ox, rfl⟩ := Og.fail_of he
                    have h1 := HW.out.2.2.2.1.runs.more_fail (bitsL_m8 zs) HW.out.2.2.2.1.bit inv_start
                    rw [HZB.out.2, HANe.out] at h1
                    exact h1.det H6.out.1.runs
                  obtain rfl : Q = 0 := by rw [HQ.out.1, hrr, List.drop_length]; rfl
                  have HF : Hid (IrRel w D D y.toNat bs AN T true w6) := ⟨o', r', HAN.out, H6.out.1, by rw [← hrr]; exact HW.out.2.2.2.2.1, by rw [← hrr]; exact HW.out.2.2.2.2.2.1, H6.out.2.2.2.1, H6.out.2.2.2.2.1⟩
                  clear hrr H6 HCM HE2 HW HQ HZB
                  go_wp2_with fail
                  refine HCl.mono ?_
                  rintro e w7 ⟨rfl, hw7⟩
                  rw [hw7]
                  clear hw7 HCl
                  go_wp2
                  go_roundg (cs.length + 1 - (t + 1))
                  case rel => exact ⟨AN, T, t + 1, true, rfl, rfl, rfl, by go_num, by omega, rfl, HF.out⟩
                  case measure => omega
                | false =>
                  obtain ⟨P, hP⟩ : ∃ P, out.length = P := ⟨_, rfl⟩
                  have hTr := HW.out.2.2.2.2.1
                  have hTP : T ≤ P := by
                    rw [hTr, ← hP, ← HCM.out.1]
                    exact HQ.out.2.2.1.length_le
                  obtain rfl : Q = P - T := by rw [HQ.out.1, List.length_drop, HCM.out.1, hP, ← hTr]
                  have hdr : r'.out.drop r.out.length = out.drop T := by rw [HCM.out.1, ← hTr]
                  have hTPi : (T : Int) ≤ (P : Int) := by omega
                  have hTP2 : decide (P < T) = false := by simp; omega
                  have hTP3 : ¬ (P : Int) < (T : Int) := by omega
                  have hPP : ((P : Int) != (P : Int)) = false := by simp
                  have hdd : (dn != dn) = false := by simp
                  rw [hP] at k2 hco1
                  have hPc : (P : Int) ≤ (co : Int) := by omega
                  have HF : Hid (∀ w9, Below w6.heap.size w6 w9 → IrRel w D D y.toNat bs AN P (ER != 0) w9) := by
                    intro w9 h9
                    exact ⟨o', r', HAN.out, H6.out.1.old h9, by rw [HCM.out.1, hP], by rw [HQ.out.2.1], H6.out.2.2.2.1.trans (h9.mono H6.out.2.2.2.1.size), Nat.le_trans H6.out.2.2.2.2.1 h9.size⟩
                  have HCr : Hid (∀ u, Calls Tryd.prog 13 #[.int .i64 E] u fun e w' => e = .returned (.int .i64 ER) ∧ w' = u) := fun u => by
                    have := clear_any E u
                    rw [HE2.out] at this
                    exact this
                  have HDn : Hid (Calls Tryd.prog 15 #[.pointer (some ⟨D, 0, none⟩)] w6.drew fun e w' => e = .returned (.bool dn) ∧ w' = w6.drew) := by
                    have := done_any (H6.out.1.old (w' := w6.drew) ⟨rfl, rfl, rfl, Nat.le_refl _, fun _ _ => rfl⟩)
                    rw [HCM.out.2.2.1] at this
                    exact this
                  have HRs : Hid (Calls Tryd.prog 16 #[.pointer (some ⟨D, 0, none⟩)] w6.drew fun e w7 => ∃ au cu rs, e = .returned (.slice au (List.length rs) cu) ∧ Hid (r'.rest rs ∧ Row w7 au rs ∧ Below w6.heap.size w6 w7) ∧ w7.cell? ⟨R, 2, none⟩ = some (.slice ao P co) ∧ w7.cell? ⟨R, 4, none⟩ = some (.int .i64 E) ∧ w7.cell? ⟨R, 5, none⟩ = some (.bool dn)) := by
                    refine (rest_row (H6.out.1.old (w' := w6.drew) ⟨rfl, rfl, rfl, Nat.le_refl _, fun _ _ => rfl⟩) (by rw [bitsL_len, List.length_take]; omega)).mono ?_
                    rintro e w7 ⟨au, cu, rs, rfl, h1, h2, _, _, h3⟩
                    have hb : Below w6.heap.size w6 w7 := ⟨h3.os, h3.tape, h3.output, h3.size, h3.block⟩
                    have hRl := H6.out.2.2.2.2.2.1.lt
                    exact ⟨au, cu, rs, rfl, ⟨h1, h2, hb⟩, (hb.cell (p := ⟨R, 2, none⟩) hRl).trans k2, (hb.cell (p := ⟨R, 4, none⟩) hRl).trans k4, (hb.cell (p := ⟨R, 5, none⟩) hRl).trans k5⟩
                  have HRr : Hid (∀ w7, Below w6.heap.size w6 w7 → ∀ rs, r'.rest rs → ∀ au, Row w7 au rs → Calls Tryd.prog 17 #[.pointer (some ⟨R, 0, none⟩)] w7 fun e w8 => ∃ av cv, e = .returned (.slice av rs.length cv) ∧ Hid (Row w8 av rs ∧ Row w8 au rs ∧ Below w6.heap.size w6 w8) ∧ w8.cell? ⟨R, 2, none⟩ = some (.slice ao P co) ∧ w8.cell? ⟨R, 4, none⟩ = some (.int .i64 E) ∧ w8.cell? ⟨R, 5, none⟩ = some (.bool dn)) := fun w7 h7 rs hrs au hau => by
                    refine (rrest_any (H6.out.2.2.2.2.2.1.old h7) H6.out.2.2.2.2.2.2.1 H6.out.2.2.2.2.2.2.2.1).mono ?_
                    rintro e w8 ⟨av, cv, zz, rfl, h1, h2, h3, h4⟩
                    obtain rfl := HCM.out.2.2.2 rs zz hrs h3 h4
                    have hb : Below w6.heap.size w6 w8 := h7.trans (h2.mono h7.size)
                    have hRl := H6.out.2.2.2.2.2.1.lt
                    exact ⟨av, cv, rfl, ⟨h1, hau.old h2, hb⟩, (hb.cell (p := ⟨R, 2, none⟩) hRl).trans k2, (hb.cell (p := ⟨R, 4, none⟩) hRl).trans k4, (hb.cell (p := ⟨R, 5, none⟩) hRl).trans k5⟩
                  have HTt : Hid (∀ w8, Below w6.heap.size w6 w8 → Calls Tryd.prog 18 #[.pointer (some ⟨D, 0, none⟩)] w8 fun e w' => e = .returned (.int .i64 P) ∧ w' = w8) := fun w8 h8 => by
                    have := total_any (H6.out.1.old h8)
                    rw [HCM.out.1, hP] at this
                    exact this
                  have HS1 : Hid (Calls Tryd.prog 14 #[.slice ax (P - T) cx, .slice (if co = T then ao else Option.map (fun x => x.add T) ao) (P - T) (co - T)] w6.drew fun e w' => e = .returned (.bool true) ∧ w' = w6.drew) := by
                    have h1 := H6.out.2.1
                    rw [hdr] at h1
                    exact same_any ax _ (P - T) cx (co - T) (out.drop T) w6.drew (by rw [List.length_drop, hP]) h1 (H6.out.2.2.1.cut T co (by rw [hP]; exact hTP) (by rw [hP]; exact hco1))
                  clear H6 HCM HE2 HW HQ HZB HCl hdr hTr hP
                  by_cases hcT : co = T
                  · obtain rfl : P = T := by omega
                    obtain rfl : co = P := hcT
                    rw [if_pos rfl] at HS1
                    simp only [Nat.sub_self] at HS1
                    go_wp2
                    go_region_held3 (fun u => u.cell? ⟨R, 2, none⟩ = some (.slice ao co co) ∧ u.cell? ⟨R, 4, none⟩ = some (.int .i64 E) ∧ u.cell? ⟨R, 5, none⟩ = some (.bool dn)) (first | go_keep | exact ⟨by assumption, by assumption, by assumption⟩) (first
                      | (go_at_call 13; refine Calls.mono (HCr.out _) ?_; rintro e w7 ⟨rfl, hw7⟩; subst hw7)
                      | (go_at_call 15; refine Calls.mono HDn.out ?_; rintro e w7 ⟨rfl, hw7⟩; subst hw7)
                      | (go_at_call 16; refine Calls.mono HRs.out ?_; rintro e w7 ⟨au, cu, rs, rfl, hq7, hc7a, hc7b, hc7c⟩)
                      | (go_at_call 17; refine Calls.mono (HRr.out _ hq7.out.2.2 _ hq7.out.1 _ hq7.out.2.1) ?_; rintro e w8 ⟨av, cv, rfl, hq8, hc8a, hc8b, hc8c⟩)
                      | (go_at_call 18; refine Calls.mono (HTt.out _ hq8.out.2.2) ?_; rintro e w9 ⟨rfl, hw9⟩; subst hw9)
                      | (go_at_call 14; refine Calls.mono (same_any au av (List.length rs) cu cv rs _ rfl hq8.out.2.1 hq8.out.1) ?_; rintro e w9 ⟨rfl, hw9⟩; subst hw9)
                      | (go_at_call 14; refine Calls.mono HS1.out ?_; rintro e w7 ⟨rfl, hw7⟩; subst hw7)
                      | fail)
                    have HFF : Hid _ := HF.out _ hq8.out.2.2
                    clear hq7 hc7a hc7b hc7c hq8 HF HCr HDn HRs HRr HTt HS1
                    go_wp2
                    go_roundg (cs.length + 1 - (t + 1))
                    case rel => exact ⟨AN, co, t + 1, (ER != 0), rfl, rfl, rfl, by go_num, by omega, rfl, HFF.out⟩
                    case measure => omega
                  · have hcTi : ¬ (co : Int) = (T : Int) := by omega
                    rw [if_neg hcT] at HS1
                    go_wp2
                    go_region_held3 (fun u => u.cell? ⟨R, 2, none⟩ = some (.slice ao P co) ∧ u.cell? ⟨R, 4, none⟩ = some (.int .i64 E) ∧ u.cell? ⟨R, 5, none⟩ = some (.bool dn)) (first | go_keep | exact ⟨by assumption, by assumption, by assumption⟩) (first
                      | (go_at_call 13; refine Calls.mono (HCr.out _) ?_; rintro e w7 ⟨rfl, hw7⟩; subst hw7)
                      | (go_at_call 15; refine Calls.mono HDn.out ?_; rintro e w7 ⟨rfl, hw7⟩; subst hw7)
                      | (go_at_call 16; refine Calls.mono HRs.out ?_; rintro e w7 ⟨au, cu, rs, rfl, hq7, hc7a, hc7b, hc7c⟩)
                      | (go_at_call 17; refine Calls.mono (HRr.out _ hq7.out.2.2 _ hq7.out.1 _ hq7.out.2.1) ?_; rintro e w8 ⟨av, cv, rfl, hq8, hc8a, hc8b, hc8c⟩)
                      | (go_at_call 18; refine Calls.mono (HTt.out _ hq8.out.2.2) ?_; rintro e w9 ⟨rfl, hw9⟩; subst hw9)
                      | (go_at_call 14; refine Calls.mono (same_any au av (List.length rs) cu cv rs _ rfl hq8.out.2.1 hq8.out.1) ?_; rintro e w9 ⟨rfl, hw9⟩; subst hw9)
                      | (go_at_call 14; refine Calls.mono HS1.out ?_; rintro e w7 ⟨rfl, hw7⟩; subst hw7)
                      | fail)
                    have HFF : Hid _ := HF.out _ hq8.out.2.2
                    clear hq7 hc7a hc7b hc7c hq8 HF HCr HDn HRs HRr HTt HS1
                    go_wp2
                    go_roundg (cs.length + 1 - (t + 1))
                    case rel => exact ⟨AN, P, t + 1, (ER != 0), rfl, rfl, rfl, by go_num, by omega, rfl, HFF.out⟩
                    case measure => omega
      · have htli : ¬ (t : Int) ≤ (cs.length : Int) := by omega
        have HP : Hid (Below w.heap.size w wr) := by obtain ⟨o, r, _, _, _, _, h, _⟩ := HX.out; exact h
        clear HX
        go_wp2
        go_ret
        exact ⟨rfl, HP.out⟩
end Go.Proofs.YtomoolipegmlcaaDoor
