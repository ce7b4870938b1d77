/- zlib: bytes in pieces, and what the document says of them. -/
import Derived.Test.YtloagniacjfkfaaGreatDoorTN
import Derived.Test.YtloagniacjfkfaaGreatDoorUA
namespace Go.Proofs.YtloagniacjfkfaaGreatDoor
open Go.RowKit
/-- Between two pieces. -/
def ZrRel (w : World) (base d : Nat) (lim : Int) (bs : List Int) (A T : Nat) (bad : Bool) (wr : World) : Prop :=
  ∃ z S, A ≤ bs.length ∧ ZMem base wr d lim (bs.take A) z S ∧ T = z.out.length ∧ bad = (z.er != 0) ∧ Below w.heap.size w wr ∧ base ≤ wr.heap.size
set_option maxHeartbeats 6400000 in
set_option maxRecDepth 20000 in
theorem zreads_walk (a1 : Option Addr) (len1 cap1 : Nat) (a2 : Option Addr) (len2 cap2 : Nat) (x : Int) (w : World) (hord : Ord w) (hsec : Sec w) (ha1 : BArg w a1 len1 cap1) (ha2 : BArg w a2 len2 cap2) (wx : (Lit.int .i64 x).wf = true) :
    Calls Tryz.prog 3 #[.slice a1 len1 cap1, .slice a2 len2 cap2, .int .i64 x] w fun e w' => e = .returned (.bool true) ∧ Below w.heap.size w w' := by
  have hx := bounds_i64 wx
  clear wx
  obtain ⟨bs, hbs, rfl, hn1, hc1, hc10, hr1⟩ := ha1
  obtain ⟨cs, hcs, rfl, hn2, hc2, hc20, hr2⟩ := ha2
  have HA : Hid (Bytes bs ∧ Row w a1 bs ∧ (a1 = none → cap1 = 0) ∧ Ord w ∧ Bytes cs ∧ Row w a2 cs ∧ Sec w) := ⟨hbs, hr1, hc10, hord, hcs, hr2, hsec⟩
  clear hbs hr1 hc10 hord hcs hr2 hc20 hsec
  by_cases hbig : 400 < (bs.length : Int)
  · go_enter Tryz.func3, Tryz.ntmps3
    go_wp2_with (go_at_call 9; refine (zfixed_any _ HA.out.2.2.2.1 HA.out.2.2.2.2.2.2).mono ?_; rintro e w1 ⟨rfl, hbel⟩)
    go_ret
    exact ⟨rfl, hbel⟩
  by_cases hbig2 : 6 < (cs.length : Int)
  · go_enter Tryz.func3, Tryz.ntmps3
    go_wp2_with (go_at_call 9; refine (zfixed_any _ HA.out.2.2.2.1 HA.out.2.2.2.2.2.2).mono ?_; rintro e w1 ⟨rfl, hbel⟩)
    go_ret
    exact ⟨rfl, hbel⟩
  go_enter Tryz.func3, Tryz.ntmps3
  go_wp2_with fail
  refine (zfixed_any _ HA.out.2.2.2.1 HA.out.2.2.2.2.2.2).mono ?_
  rintro e w1 ⟨rfl, b1⟩
  have HB1 : Hid (Below w.heap.size w w1) := b1
  clear b1
  go_upto_if 29 with fail
  go_cut [2] (fun v wx => w1 = wx ∧ ∃ y : Int, v = .int .i64 y ∧ y ≤ 20000 ∧ -9223372036854775808 ≤ y)
  case first =>
    by_cases hxx : 20000 < x
    · go_wp2
      go_meet
      exact ⟨rfl, 20000, rfl, by omega, by omega⟩
    · go_wp2
      go_meet
      exact ⟨rfl, x, rfl, by omega, by omega⟩
  case rest =>
    obtain ⟨rfl, y, rfl, hy, hy0⟩ := hcut
    have HNw := znew_any y w1
    go_wp2_with fail
    refine HNw.mono ?_
    rintro e w2 ⟨rfl, hd, b2⟩
    obtain ⟨D, hD⟩ : ∃ D, w1.heap.size = D := ⟨_, rfl⟩
    rw [hD] at hd
    have HK : Hid (ZrRel w D D y bs 0 0 false w2 ∧ w.heap.size ≤ D) := by
      refine ⟨⟨_, _, Nat.zero_le _, hd, rfl, rfl, HB1.out.trans (b2.mono HB1.out.size), by rw [← hD]; exact b2.size⟩, by rw [← hD]; exact HB1.out.size⟩
    clear HNw hd b2 HB1
    go_wp2
    clear hD
    go_loopg [8, 9, 10, 11, 12, 13, 14, 15, 16, 17] (cs.length + 1) (fun fu told att bad i _ _ _ _ _ _ wr => ∃ (A T t : Nat) (bb : Bool), told = .int .i64 T ∧ att = .int .i64 A ∧ bad = .bool bb ∧ i = .int .i64 t ∧ t ≤ cs.length + 1 ∧ fu = cs.length + 1 - t ∧ Hid (ZrRel w D D y bs A T bb wr))
    case atStart => exact ⟨0, 0, 0, false, rfl, rfl, rfl, rfl, Nat.zero_le _, rfl, HK.out.1⟩
    case round =>
      obtain ⟨A, T, t, bb, rfl, rfl, rfl, rfl, ht, hfu, HX⟩ := hrel
      have HDl : Hid (w.heap.size ≤ D) := HK.out.2
      clear HK
      by_cases htl : t ≤ cs.length
      · have htli : (t : Int) ≤ (cs.length : Int) := by omega
        have hA : A ≤ bs.length := by obtain ⟨o, r, h, _⟩ := HX.out; exact h
        obtain ⟨M, hM⟩ : ∃ M, bs.length - A = M := ⟨_, rfl⟩
        have hMi : (bs.length : Int) - (A : Int) = (M : Int) := by omega
        go_upto_if 45 with fail
        go_cut [12] (fun v wx => wr = wx ∧ ∃ N : Nat, v = .int .i64 N ∧ A + N ≤ bs.length)
        case first =>
          by_cases htc : t < cs.length
          · have htci : (t : Int) < (cs.length : Int) := by omega
            obtain ⟨b2, off2, ha2, hcell⟩ : ∃ b off, a2 = some ⟨b, off, none⟩ ∧ wr.cell? ⟨b, off + t, none⟩ = some (.int .u8 (cs[t]?.getD 0)) := by
              obtain ⟨o, r, _, _, _, _, hbel, _⟩ := HX.out
              rcases HA.out.2.2.2.2.2.1 with h | ⟨b, off, rfl, hc⟩
              · rw [h] at htc; simp at htc
              · refine ⟨b, off, rfl, ?_⟩
                rw [← hc t htc]
                exact hbel.cell (p := ⟨b, off + t, none⟩) (cell_lt (hc t htc))
            subst ha2
            have hcb := HA.out.2.2.2.2.1.at t
            obtain ⟨c, hcn⟩ : ∃ c : Nat, cs[t]?.getD 0 = (c : Int) := ⟨(cs[t]?.getD 0).toNat, by omega⟩
            rw [hcn] at hcell hcb
            clear HX hcn
            rcases Nat.lt_trichotomy M c with h | h | h
            · have hi : (M : Int) < (c : Int) := by omega
              have hi2 : ¬ (c : Int) < (M : Int) := by omega
              go_wp2
              go_meet
              exact ⟨rfl, M, rfl, by omega⟩
            · subst h
              go_wp2
              go_meet
              exact ⟨rfl, M, rfl, by omega⟩
            · have hi : (c : Int) < (M : Int) := by omega
              have hi2 : ¬ (M : Int) < (c : Int) := by omega
              go_wp2
              go_meet
              exact ⟨rfl, c, rfl, by omega⟩
          · have htci : ¬ (t : Int) < (cs.length : Int) := by omega
            clear HX
            go_wp2
            go_meet
            exact ⟨rfl, M, rfl, by omega⟩
        case rest =>
          obtain ⟨rfl, N, rfl, hAN⟩ := hcut
          obtain ⟨zs, hzs⟩ : ∃ zs, (bs.drop A).take N = zs := ⟨_, rfl⟩
          have hzl : zs.length = N := by rw [← hzs, List.length_take, List.length_drop]; omega
          have HZB : Hid (Bytes zs ∧ bs.take A ++ zs = bs.take (A + N)) := by
            rw [← hzs]
            exact ⟨fun z hz => HA.out.1 z (List.mem_of_mem_drop (List.mem_of_mem_take hz)), by rw [← List.take_add]⟩
          have HRz : Hid (Row wr (if cap1 = A then a1 else Option.map (fun x => x.add A) a1) zs) := by
            obtain ⟨o, r, _, _, _, _, hbel, _⟩ := HX.out
            have h := ((HA.out.2.1.old hbel).cut A cap1 hA hn1).takeN N
            rw [hzs] at h
            exact h
          clear hzs
          go_upto_region 16 with fail
          go_cut [0, 13] (fun v0 v wx => v0 = .slice a1 bs.length cap1 ∧ ∃ a' c', v = .slice a' N c' ∧ Hid (∃ g, Sl wx 5 (.slice a' N c') g (vals zs) ∧ (∀ k, g = some k → wr.heap.size ≤ k) ∧ Below wr.heap.size wr wx))
          case first =>
            have hANi : (A : Int) + (N : Int) ≤ (bs.length : Int) := by omega
            have hANc : (A : Int) + (N : Int) ≤ (cap1 : Int) := by omega
            have hNc : A + N ≤ cap1 := by omega
            by_cases hca : cap1 = A
            · rw [if_pos hca] at HRz
              obtain rfl : N = 0 := by omega
              have hA0 : cap1 - A = 0 := by omega
              clear HX
              go_wp2_with (at_builtin; refine wpList_copy rfl _ _ rfl a1 0 0 zs rfl rfl (fun _ => rfl) hzl HRz.out (by omega) ?_)
              intro a' c' w' g' h1 h2 h3
              have HP : Hid _ := (⟨g', h1, h2, h3⟩ : ∃ g, Sl w' 5 (.slice a' 0 c') g (vals zs) ∧ (∀ k, g = some k → wr.heap.size ≤ k) ∧ Below wr.heap.size wr w')
              clear h1 h2 h3
              go_wp2
              go_meet
              exact ⟨by rw [hca], a', c', rfl, HP.out⟩
            · rw [if_neg hca] at HRz
              have hmn : Option.map (fun x : Addr => x.add A) a1 = none → cap1 - A = 0 := by
                intro h
                cases a1 with
                | none => have := HA.out.2.2.1 rfl; omega
                | some q => cases h
              have HMN : Hid (Option.map (fun x : Addr => x.add A) a1 = none → cap1 - A = 0) := hmn
              clear HX hmn
              go_wp2_with (at_builtin; refine wpList_copy rfl _ _ rfl (Option.map (fun x => x.add A) a1) (A + N - A) (cap1 - A) zs rfl rfl HMN.out (by omega) HRz.out (by omega) ?_)
              intro a' c' w' g' h1 h2 h3
              have hANA : A + N - A = N := by omega
              try rw [hANA] at h1
              try rw [hANA]
              clear hANA
              have HP : Hid _ := (⟨g', h1, h2, h3⟩ : ∃ g, Sl w' 5 (.slice a' N c') g (vals zs) ∧ (∀ k, g = some k → wr.heap.size ≤ k) ∧ Below wr.heap.size wr w')
              clear h1 h2 h3
              go_wp2
              go_meet
              exact ⟨rfl, a', c', rfl, HP.out⟩
          case rest =>
            obtain ⟨rfl, ay, cy, rfl, HY⟩ := hcut
            obtain ⟨g, hsl, hgf, hbw⟩ := HY.out
            obtain ⟨o, r, _, hd, hT, hbad, hbel, hbase⟩ := HX.out
            have hdc := hd.old hbw
            have hordc : Ord wc := HA.out.2.2.2.1.below (hbel.trans (hbw.mono hbel.size)) HA.out.2.2.2.1.pos
            obtain ⟨ayy, cyy, hvv, hle1, hle2, hle3⟩ := hsl.shape
            rw [vals_len, hzl] at hvv
            simp only [Value.slice.injEq] at hvv
            obtain ⟨rfl, _, rfl⟩ := hvv
            have hD1 : 3 ≤ D := by have := HA.out.2.2.2.1.pos; have := HDl.out; omega
            have hSw : ∀ k, r k → D ≤ k ∧ k < wr.heap.size := hd.2.1
            have hgS : ∀ k, g = some k → ¬ r k := fun k hk hS => by have h1 := hgf k hk; have h2 := (hSw k hS).2; omega
            have HPu := zpush_any hdc zs ay N cy hzl (by rw [vals_len, hzl] at hle1; exact hle1) (by unfold maxLen at hle2; omega) (fun e => hle3 e) (hsl.row rfl) HZB.out.1 (fun z hz => HA.out.1 z (List.mem_of_mem_take hz)) (fun x hx hne hS => by
              rcases hsl with ⟨h, _⟩ | ⟨b', off', cap', cur, h, hg, _⟩
              · rw [hx] at h; cases h
              · rw [hx] at h
                simp only [Value.slice.injEq, Option.some.injEq] at h
                exact hgS b' hg (by rw [h.1] at hS; exact hS)) hordc (Nat.le_trans hbase hbw.size) hD1 (by omega) (by rw [List.length_take]; omega)
            rw [HZB.out.2] at HPu
            have HW : Hid (Sl wc 5 (.slice ay N cy) g (vals zs) ∧ (∀ k, g = some k → wr.heap.size ≤ k) ∧ Below w.heap.size w wc ∧ ZMem D wr D y (bs.take A) o r ∧ T = o.out.length ∧ bb = (o.er != 0) ∧ D ≤ wr.heap.size ∧ w.heap.size ≤ wr.heap.size ∧ Below wr.heap.size wr wc ∧ (∀ k, g = some k → ¬ r k)) := ⟨hsl, hgf, hbel.trans (hbw.mono hbel.size), hd, hT, hbad, hbase, hbel.size, hbw, hgS⟩
            clear HY HX hsl hgf hbw hd hT hbad hbel hbase hdc hordc hle1 hle2 hle3 HRz hSw hgS
            go_wp2_with fail
            refine HPu.mono ?_
            rintro e w4 ⟨r', S', tv, tg, rfl, hd4, hpre, hsl4, htg, hS4, hst⟩
            obtain ⟨ax, cx, hv4, hq1, hq2, hq3⟩ := hsl4.shape
            obtain ⟨Q, hQ⟩ : ∃ Q, (vals (r'.out.drop o.out.length)).length = Q := ⟨_, rfl⟩
            rw [hQ] at hv4
            subst hv4
            obtain ⟨ER, hER⟩ : ∃ ER, r'.er = ER := ⟨_, rfl⟩
            have hgw : ∀ k, g = some k → k < wc.heap.size := fun k hk => HW.out.1.lt hk
            have hslo : Sl w4 5 (.slice ay N cy) g (vals zs) := HW.out.1.same fun k hk => hst.block k (hgw k hk) (HW.out.2.2.2.2.2.2.2.2.2 k hk)
            have hSD : ∀ k, r k → D ≤ k := fun k hk => (HW.out.2.2.2.1.2.1 k hk).1
            have hbel4 : Below w.heap.size w w4 := by
              have hb := HW.out.2.2.1
              have hDl := HDl.out
              refine ⟨hst.os.trans hb.os, hst.tape.trans hb.tape, hst.output.trans hb.output, Nat.le_trans hb.size hst.size, fun k hk => (hst.block k (Nat.lt_of_lt_of_le hk hb.size) fun hS => ?_).trans (hb.block k hk)⟩
              have := hSD k hS
              omega
            have HI0 : Hid (∃ zs', zs'.length = N ∧ Sl w4 5 (.slice ay N cy) g (vals zs') ∧ OnlyG g w4 w4) := ⟨zs, hzl, hslo, OnlyG.refl _ _⟩
            have htgg : ∀ k, tg = some k → g ≠ some k := fun k hk e => by
              have h1 := htg k hk
              have h2 := HW.out.1.lt e
              omega
            have HP4 : Hid (∀ w5, OnlyG g w4 w5 → ZMem D w5 D y (bs.take (A + N)) r' S' ∧ Row w5 ax (r'.out.drop o.out.length) ∧ Below w.heap.size w w5 ∧ w4.heap.size ≤ w5.heap.size) := by
              intro w5 h5
              refine ⟨hd4.grow (g := g) ⟨h5.os, h5.tape, h5.output, h5.size, fun k _ hne => h5.block k fun e => hne e.symm⟩ (fun k hk => ⟨fun hS => ?_, hslo.tag k hk⟩), (hsl4.same fun k hk => h5.block k (htgg k hk)).row rfl, ⟨h5.os.trans hbel4.os, h5.tape.trans hbel4.tape, h5.output.trans hbel4.output, Nat.le_trans hbel4.size h5.size, fun k hk => (h5.block k fun e => ?_).trans (hbel4.block k hk)⟩, h5.size⟩
              · rcases hS4 k hS with h | h
                · exact HW.out.2.2.2.2.2.2.2.2.2 k hk h
                · have := hgw k hk; omega
              · have h1 := HW.out.2.1 k e
                have h2 := HW.out.2.2.2.2.2.2.2.1
                omega
            have HQ : Hid (Q = (r'.out.drop o.out.length).length ∧ r'.er = ER ∧ o.out <+: r'.out ∧ D ≤ w4.heap.size) := ⟨by rw [← hQ, vals_len], hER, hpre, Nat.le_trans HW.out.2.2.2.2.2.2.1 (Nat.le_trans HW.out.2.2.2.2.2.2.2.2.1.size hst.size)⟩
            rw [hER]
            have hol4 : r'.out.length ≤ y.toNat := hd4.2.2.1.le
            have hQb : Q ≤ 20000 := by
              rw [← hQ, vals_len, List.length_drop]
              omega
            have HLE : Hid (r'.out.length ≤ 20000) := (by omega : r'.out.length ≤ 20000)
            clear HPu hd4 hpre hsl4 htg hst hQ hER hslo hbel4 htgg hq1 hq2 hq3 hgw hSD hS4 hol4
            go_wp2
            go_loopg [16, 72] N (fun fu _ i wq => ∃ k : Nat, k ≤ N ∧ fu = N - k ∧ i = .int .i64 k ∧ Hid (∃ zs', zs'.length = N ∧ Sl wq 5 (.slice ay N cy) g (vals zs') ∧ OnlyG g w4 wq))
            case atStart => exact ⟨0, Nat.zero_le _, rfl, rfl, HI0.out⟩
            case round =>
              clear HI0
              obtain ⟨k, hk, hfk, rfl, HZ⟩ := hrel
              by_cases hkN : k < N
              · have hkNi : (k : Int) < (N : Int) := by omega
                obtain ⟨zs', hz1, hz2, hz3⟩ := HZ.out
                obtain ⟨bq, offq, rfl, hcq⟩ : ∃ b off, ay = some ⟨b, off, none⟩ ∧ wr.cell? ⟨b, off + k, none⟩ = some (.int .u8 (zs'[k]?.getD 0)) := by
                  rcases hz2.row rfl with h | ⟨b, off, rfl, hc⟩
                  · rw [h] at hz1; simp at hz1; omega
                  · exact ⟨b, off, rfl, hc k (by omega)⟩
                have hgq : g = some bq := by
                  rcases hz2 with ⟨h, _⟩ | ⟨b', off', cap', cur, h, hg, _⟩
                  · cases h
                  · simp only [Value.slice.injEq, Option.some.injEq, Addr.mk.injEq] at h
                    rw [hg, h.1.1]
                have hfq : wr.frozen? ⟨bq, offq + k, none⟩ = false := by
                  obtain ⟨c, e⟩ := hz2.tag bq hgq
                  simp [World.frozen?, e]
                obtain ⟨z, hz⟩ : ∃ z, zs'[k]?.getD 0 = z := ⟨_, rfl⟩
                rw [hz] at hcq
                have HN1 : Hid (∀ v : Int, ∃ zs', zs'.length = N ∧ Sl (wr.setCell ⟨bq, offq + k, none⟩ (.int .u8 v)) 5 (.slice (some ⟨bq, offq, none⟩) N cy) g (vals zs') ∧ OnlyG g w4 (wr.setCell ⟨bq, offq + k, none⟩ (.int .u8 v))) := by
                  intro v
                  refine ⟨zs'.set k v, by simpa using hz1, by rw [vals_setC]; exact hz2.setAt k _, ?_⟩
                  rw [hgq] at hz3 ⊢
                  exact hz3.set _ _
                have hki : (0 : Int) ≤ (k : Int) := by omega
                clear HZ hz1 hz2 hz3 hgq hz
                go_wp2
                go_roundg (N - (k + 1))
                case rel => exact ⟨k + 1, by omega, rfl, by go_num, HN1.out _⟩
                case measure => omega
              · obtain rfl : N = k := by omega
                have hkNi : ¬ (N : Int) < (N : Int) := by omega
                obtain ⟨zs', -, -, hon⟩ := HZ.out
                obtain ⟨hd5, hrow5, hbel5, hsz5⟩ := HP4.out wr hon
                obtain ⟨AN, hANe⟩ : ∃ AN, A + N = AN := ⟨_, rfl⟩
                have hANi : (A : Int) + (N : Int) = (AN : Int) := by omega
                rw [hANe] at hd5
                have hANl : (AN : Int) ≤ (bs.length : Int) ∧ (AN : Int) ≤ (cap1 : Int) ∧ (0 : Int) ≤ (AN : Int) := by omega
                have HOf := zof_any a1 AN cap1 (bs.take AN) y wr (by rw [List.length_take]; omega) (by omega) (by omega) (by omega) (fun z hz => HA.out.1 z (List.mem_of_mem_take hz)) ((HA.out.2.1.old hbel5).takeN AN) (by omega)
                have H5 : Hid (ZMem D wr D y (bs.take AN) r' S' ∧ Row wr ax (r'.out.drop o.out.length) ∧ Below w.heap.size w wr ∧ D ≤ wr.heap.size) := ⟨hd5, hrow5, hbel5, Nat.le_trans HQ.out.2.2.2 hsz5⟩
                have HAN : Hid (AN ≤ bs.length) := (by omega : AN ≤ bs.length)
                have HANe : Hid (A + N = AN) := hANe
                clear HZ hon hd5 hrow5 hbel5 hsz5 HP4 hANe
                go_upto_region 25 with (go_at_call 12; refine HOf.mono ?_; rintro e w6 hp6; obtain ⟨vo, go, ar, cr, out, rest, E, dn, rfl, hso, hrr, hbe6, hcm6⟩ := hp6; obtain ⟨ao, co, hvo, hco1, hco2, hco3⟩ := hso.shape; rw [vals_len] at hvo hco1; subst hvo; have H6' : Hid _ := (⟨hso.row rfl, hrr, hbe6, hcm6⟩ : Row w6 ao out ∧ Row w6 ar rest ∧ Below wr.heap.size wr w6 ∧ ZCmp y.toNat (bs.take AN) out rest E dn); clear hso hrr hbe6 hcm6 hco2 hco3)
                obtain ⟨OL, hOL⟩ : ∃ OL, out.length = OL := ⟨_, rfl⟩
                obtain ⟨RL, hRL⟩ : ∃ RL, rest.length = RL := ⟨_, rfl⟩
                rw [hOL] at hco1
                rw [hOL, hRL]
                obtain ⟨W7, hW7⟩ : ∃ W7, w6.alloc (.cells #[.slice ao OL co, .slice ar RL cr, .int .i64 E, .bool dn] 30) = W7 := ⟨_, rfl⟩
                have hz7 : RZ W7 w6.heap.size (.slice ao OL co) (.slice ar RL cr) E dn := by rw [← hW7]; exact heap_newZ w6 _
                have hb67 : Below w6.heap.size w6 W7 := by rw [← hW7]; exact (Below.refl _ w6).alloc (Nat.le_refl _) _
                rw [hW7]
                have hb57 : Below wr.heap.size wr W7 := H6'.out.2.2.1.trans (hb67.mono H6'.out.2.2.1.size)
                have hcmp := H6'.out.2.2.2.cmp r' H5.out.1.2.2.1
                obtain ⟨R, hR⟩ : ∃ R, w6.heap.size = R := ⟨_, rfl⟩
                rw [hR] at hz7
                rw [hR]
                obtain ⟨k0, k1, k2, k3, kf⟩ := hz7.cells
                obtain ⟨C, hC⟩ : ∃ C, (if E = 2 then 0 else E) = C := ⟨_, rfl⟩
                have HCl := zclear_any E W7
                rw [hC] at HCl
                obtain rfl : ER = C := by rw [← hC, ← hcmp.2.1]; exact HQ.out.2.1.symm
                have H6 : Hid (ZMem D W7 D y (bs.take AN) r' S' ∧ Row W7 ax (r'.out.drop o.out.length) ∧ Row W7 ao out ∧ Row W7 ar rest ∧ Below w.heap.size w W7 ∧ D ≤ W7.heap.size ∧ RZ W7 R (.slice ao OL co) (.slice ar RL cr) E dn ∧ out.length = OL ∧ rest.length = RL) := ⟨H5.out.1.old hb57, H5.out.2.1.old hb57, H6'.out.1.old hb67, H6'.out.2.1.old hb67, H5.out.2.2.1.trans (hb57.mono H5.out.2.2.1.size), Nat.le_trans H5.out.2.2.2 hb57.size, hz7, hOL, hRL⟩
                have HRL : Hid (rest.length = RL) := hRL
                have HCM : Hid _ := hcmp
                have HE2 : Hid ((if E = 2 then 0 else E) = ER) := hC
                have hcc : (ER != ER) = false := by simp
                clear HOf H5 H6' hcmp hC hz7 hb67 hb57 hW7 hR hOL hRL
                cases bb with
                | true =>
                  have hrr : o = r' := by
                    have he : o.er ≠ 0 := by
                      have := HW.out.2.2.2.2.2.1
                      intro e
                      rw [e] at this
                      cases this
                    have hk4 : o.k = 4 := by
                      obtain ⟨_, _, _, _, now, vp, vk, sum, vr, gr, _, _, _, _, _, _, _, _, c9⟩ := HW.out.2.2.2.1
                      exact c9.2 he
                    have h1 := HW.out.2.2.2.1.2.2.1.fail_more hk4 zs HZB.out.1
                    rw [HZB.out.2, HANe.out] at h1
                    exact h1.det H6.out.1.2.2.1
                  obtain rfl : Q = 0 := by rw [HQ.out.1, hrr, List.drop_length]; rfl
                  have HF : Hid (ZrRel w D D y bs AN T true W7) := ⟨r', S', HAN.out, H6.out.1, by rw [← hrr]; exact HW.out.2.2.2.2.1, by rw [← hrr]; exact HW.out.2.2.2.2.2.1, H6.out.2.2.2.2.1, H6.out.2.2.2.2.2.1⟩
                  clear hrr H6 HCM HE2 HW HQ HZB
                  go_wp2_with fail
                  refine HCl.mono ?_
                  rintro e w7 ⟨rfl, hw7⟩
                  rw [hw7]
                  clear hw7 HCl
                  go_wp2
                  go_roundg (cs.length + 1 - (t + 1))
                  case rel => exact ⟨AN, T, t + 1, true, rfl, rfl, rfl, by go_num, by omega, rfl, HF.out⟩
                  case measure => omega
                | false =>
                  obtain ⟨P, hP⟩ : ∃ P, OL = P := ⟨_, rfl⟩
                  subst hP
                  have hP := H6.out.2.2.2.2.2.2.2.1
                  have hTr := HW.out.2.2.2.2.1
                  have hTP : T ≤ OL := by
                    rw [hTr, ← hP, ← HCM.out.1]
                    exact HQ.out.2.2.1.length_le
                  obtain rfl : Q = OL - T := by rw [HQ.out.1, List.length_drop, HCM.out.1, hP, ← hTr]
                  have hdr : r'.out.drop o.out.length = out.drop T := by rw [HCM.out.1, ← hTr]
                  have hTPi : (T : Int) ≤ (OL : Int) := by omega
                  have hTP2 : decide (OL < T) = false := by simp; omega
                  have hTP3 : ¬ (OL : Int) < (T : Int) := by omega
                  have hPP : ((OL : Int) != (OL : Int)) = false := by simp
                  have hdd : (dn != dn) = false := by simp
                  have hPc : (OL : Int) ≤ (co : Int) := by omega
                  have HF : Hid (∀ w9, Below W7.heap.size W7 w9 → ZrRel w D D y bs AN OL (ER != 0) w9) := by
                    intro w9 h9
                    exact ⟨r', S', HAN.out, H6.out.1.old h9, by rw [HCM.out.1, hP], by rw [HQ.out.2.1], H6.out.2.2.2.2.1.trans (h9.mono H6.out.2.2.2.2.1.size), Nat.le_trans H6.out.2.2.2.2.2.1 h9.size⟩
                  have HCr : Hid (∀ u, Calls Tryz.prog 13 #[.int .i64 E] u fun e w' => e = .returned (.int .i64 ER) ∧ w' = u) := fun u => by
                    have := zclear_any E u
                    rw [HE2.out] at this
                    exact this
                  have HDn : Hid (Calls Tryz.prog 15 #[.pointer (some ⟨D, 0, none⟩)] W7.drew fun e w' => e = .returned (.bool dn) ∧ w' = W7.drew) := by
                    have := zdone_any (H6.out.1.old (w' := W7.drew) ⟨rfl, rfl, rfl, Nat.le_refl _, fun _ _ => rfl⟩)
                    rw [HCM.out.2.2.1] at this
                    exact this
                  have HRs : Hid (Calls Tryz.prog 16 #[.pointer (some ⟨D, 0, none⟩)] W7.drew fun e w7 => ∃ au cu, e = .returned (.slice au RL cu) ∧ Hid (Row w7 au rest ∧ Row w7 ar rest ∧ Below W7.heap.size W7 w7) ∧ w7.cell? ⟨R, 0, none⟩ = some (.slice ao OL co) ∧ w7.cell? ⟨R, 1, none⟩ = some (.slice ar RL cr) ∧ w7.cell? ⟨R, 2, none⟩ = some (.int .i64 E) ∧ w7.cell? ⟨R, 3, none⟩ = some (.bool dn)) := by
                    have hrl : r'.rest.length ≤ 140737488351232 := by have := H6.out.1.2.2.1.rest_le; rw [List.length_take] at this; omega
                    refine (zrest_row (H6.out.1.old (w' := W7.drew) ⟨rfl, rfl, rfl, Nat.le_refl _, fun _ _ => rfl⟩) hrl).mono ?_
                    rintro e w7 ⟨au, cu, rfl, h2, h3⟩
                    have hb : Below W7.heap.size W7 w7 := ⟨h3.os, h3.tape, h3.output, h3.size, h3.block⟩
                    rw [HCM.out.2.2.2] at h2 ⊢
                    rw [HRL.out]
                    obtain ⟨e0, e1, e2, e3, _⟩ := (H6.out.2.2.2.2.2.2.1.same (hb.block _ H6.out.2.2.2.2.2.2.1.lt)).cells
                    exact ⟨au, cu, rfl, ⟨h2, H6.out.2.2.2.1.old hb, hb⟩, e0, e1, e2, e3⟩
                  have HTt : Hid (∀ w8, Below W7.heap.size W7 w8 → Calls Tryz.prog 17 #[.pointer (some ⟨D, 0, none⟩)] w8 fun e w' => e = .returned (.int .i64 OL) ∧ w' = w8) := fun w8 h8 => by
                    have := ztotal_any (H6.out.1.old h8)
                    rw [HCM.out.1, hP] at this
                    exact this
                  have HS1 : Hid (Calls Tryz.prog 14 #[.slice ax (OL - T) cx, .slice (if co = T then ao else Option.map (fun x => x.add T) ao) (OL - T) (co - T)] W7.drew fun e w' => e = .returned (.bool true) ∧ w' = W7.drew) := by
                    have h1 := H6.out.2.1
                    rw [hdr] at h1
                    exact same_any ax _ (OL - T) cx (co - T) (out.drop T) W7.drew (by rw [List.length_drop, hP]) h1 (H6.out.2.2.1.cut T co (by rw [hP]; exact hTP) (by rw [hP]; exact hco1))
                  clear H6 HCM HE2 HW HQ HZB HCl hdr hTr hP
                  by_cases hcT : co = T
                  · obtain rfl : OL = T := by omega
                    obtain rfl : co = OL := hcT
                    rw [if_pos rfl] at HS1
                    simp only [Nat.sub_self] at HS1
                    go_wp2
                    go_region_held3 (fun u => u.cell? ⟨R, 0, none⟩ = some (.slice ao co co) ∧ u.cell? ⟨R, 1, none⟩ = some (.slice ar RL cr) ∧ u.cell? ⟨R, 2, none⟩ = some (.int .i64 E) ∧ u.cell? ⟨R, 3, none⟩ = some (.bool dn)) (first | go_keep | exact ⟨by assumption, by assumption, by assumption, by assumption⟩) (first
                      | (go_at_call 13; refine Calls.mono (HCr.out _) ?_; rintro e w7 ⟨rfl, hw7⟩; subst hw7)
                      | (go_at_call 15; refine Calls.mono HDn.out ?_; rintro e w7 ⟨rfl, hw7⟩; subst hw7)
                      | (go_at_call 16; refine Calls.mono HRs.out ?_; rintro e w7 ⟨au, cu, rfl, hq7, hc7a, hc7b, hc7c, hc7d⟩)
                      | (go_at_call 17; refine Calls.mono (HTt.out _ hq7.out.2.2) ?_; rintro e w9 ⟨rfl, hw9⟩; subst hw9)
                      | (go_at_call 14; refine Calls.mono (same_any au ar RL cu cr rest _ HRL.out hq7.out.1 hq7.out.2.1) ?_; rintro e w9 ⟨rfl, hw9⟩; subst hw9)
                      | (go_at_call 14; refine Calls.mono HS1.out ?_; rintro e w7 ⟨rfl, hw7⟩; subst hw7)
                      | fail)
                    have HFF : Hid _ := HF.out _ hq7.out.2.2
                    clear hq7 hc7a hc7b hc7c hc7d HF HCr HDn HRs HTt HS1
                    go_wp2
                    go_roundg (cs.length + 1 - (t + 1))
                    case rel => exact ⟨AN, co, t + 1, (ER != 0), rfl, rfl, rfl, by go_num, by omega, rfl, HFF.out⟩
                    case measure => omega
                  · have hcTi : ¬ (co : Int) = (T : Int) := by omega
                    rw [if_neg hcT] at HS1
                    go_wp2
                    go_region_held3 (fun u => u.cell? ⟨R, 0, none⟩ = some (.slice ao OL co) ∧ u.cell? ⟨R, 1, none⟩ = some (.slice ar RL cr) ∧ u.cell? ⟨R, 2, none⟩ = some (.int .i64 E) ∧ u.cell? ⟨R, 3, none⟩ = some (.bool dn)) (first | go_keep | exact ⟨by assumption, by assumption, by assumption, by assumption⟩) (first
                      | (go_at_call 13; refine Calls.mono (HCr.out _) ?_; rintro e w7 ⟨rfl, hw7⟩; subst hw7)
                      | (go_at_call 15; refine Calls.mono HDn.out ?_; rintro e w7 ⟨rfl, hw7⟩; subst hw7)
                      | (go_at_call 16; refine Calls.mono HRs.out ?_; rintro e w7 ⟨au, cu, rfl, hq7, hc7a, hc7b, hc7c, hc7d⟩)
                      | (go_at_call 17; refine Calls.mono (HTt.out _ hq7.out.2.2) ?_; rintro e w9 ⟨rfl, hw9⟩; subst hw9)
                      | (go_at_call 14; refine Calls.mono (same_any au ar RL cu cr rest _ HRL.out hq7.out.1 hq7.out.2.1) ?_; rintro e w9 ⟨rfl, hw9⟩; subst hw9)
                      | (go_at_call 14; refine Calls.mono HS1.out ?_; rintro e w7 ⟨rfl, hw7⟩; subst hw7)
                      | fail)
                    have HFF : Hid _ := HF.out _ hq7.out.2.2
                    clear hq7 hc7a hc7b hc7c hc7d HF HCr HDn HRs HTt HS1
                    go_wp2
                    go_roundg (cs.length + 1 - (t + 1))
                    case rel => exact ⟨AN, OL, t + 1, (ER != 0), rfl, rfl, rfl, by go_num, by omega, rfl, HFF.out⟩
                    case measure => omega
      · have htli : ¬ (t : Int) ≤ (cs.length : Int) := by omega
        have HP : Hid (Below w.heap.size w wr) := by obtain ⟨o, r, _, _, _, _, h, _⟩ := HX.out; exact h
        clear HX
        go_wp2
        go_ret
        exact ⟨rfl, HP.out⟩
end Go.Proofs.YtloagniacjfkfaaGreatDoor
