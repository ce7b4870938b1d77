/- The receiver: in whatever order items come, they are told in theirs. -/
import Derived.Test.YtmfciheenemapaaRqN
namespace Go.Proofs.Ytmfciheenemapaa
open Go.RowKit
theorem Try.infoB4 : (Try.prog.info? 4).map (fun i => (i.zero, i.size, i.bytes)) = some (some (.bool false), 1, 1) := by kernel_rfl
theorem madeR_at (v : Value) (N i : Nat) (hv : v.cells = #[v]) (hi : i < N) : (madeCells v.cells (N * 1))[i]? = some v := by
  have h : i < N * 1 := by omega
  simp only [madeCells, Array.getElem?_map, Array.getElem?_range, h, if_true, Option.map_some]
  rw [hv]
  have : i % (#[v] : Array Value).size = 0 := Nat.mod_one i
  rw [this]
  rfl
theorem madeR_len (v : Value) (N : Nat) : (madeCells v.cells (N * 1)).size = N := by simp [madeCells]
theorem made_cm {w : World} {cb ib N : Nat} {mp mk : Array Value} (h1 : w.heap[cb]? = some (.cells mp 32 (0, 0))) (h2 : w.heap[ib]? = some (.cells mk 4 (0, 0))) (e1 : madeCells (Value.slice none 0 0).cells (N * 1) = mp) (e2 : madeCells (Value.bool false).cells (N * 1) = mk) : CmM w cb ib N (fun _ => hPt0) (fun _ => false) := by
  refine ⟨⟨mp, h1, by rw [← e1]; exact madeR_len _ N, fun i hi => ?_⟩, ⟨mk, h2, by rw [← e2]; exact madeR_len _ N, fun i hi => ?_⟩, fun i hi => ⟨Bytes.nil, Nat.le_refl _, ⟨by show 0 ≤ _; omega, by show 0 ≤ _; omega⟩, fun _ => rfl, .inl rfl⟩⟩
  · rw [← e1]; exact madeR_at _ N i rfl hi
  · rw [← e2]; exact madeR_at _ N i rfl hi
set_option maxRecDepth 20000 in
set_option maxHeartbeats 64000000 in
theorem ord_walk (n win : Int) (a : Option Addr) (len cap : Nat) (F : Nat → It) (w : World) (hn : (Lit.int .u8 n).wf = true) (hw : (Lit.int .u8 win).wf = true) (hF : ItArg w a len cap F) : Calls Try.prog 4 #[.int .u8 n, .int .u8 win, .slice a len cap] w fun e w' => e = .returned (.bool true) ∧ Below w.heap.size w w' := by
  have hn2 : 0 ≤ n ∧ n ≤ 255 := by simpa [Lit.wf, IntKind.min, IntKind.max, IntKind.bits, IntKind.signed] using hn
  have hw2 : 0 ≤ win ∧ win ≤ 255 := by simpa [Lit.wf, IntKind.min, IntKind.max, IntKind.bits, IntKind.signed] using hw
  clear hn hw
  obtain ⟨N, rfl⟩ : ∃ N : Nat, n = (N : Int) := ⟨n.toNat, by omega⟩
  have hN : N ≤ 255 := by omega
  have ht : win.tmod 64 = win % 64 := Int.tmod_eq_emod_of_nonneg hw2.1
  obtain ⟨W, hW⟩ : ∃ W, 1 + win % 64 = W := ⟨_, rfl⟩
  have hWb : 1 ≤ W ∧ W ≤ 64 := by omega
  obtain ⟨i0, hi0, hz0, hz1, hz2⟩ := info_parts Try.infoBs
  obtain ⟨i1, hi1, hy0, hy1, hy2⟩ := info_parts Try.infoB4
  obtain ⟨mp, hmp⟩ : ∃ mp, madeCells (Value.slice none 0 0).cells (N * 1) = mp := ⟨_, rfl⟩
  obtain ⟨mk, hmk⟩ : ∃ mk, madeCells (Value.bool false).cells (N * 1) = mk := ⟨_, rfl⟩
  have RP : ∀ u : World, (Instr.makeSlice 35 (.int .i64 (N : Int)) (.int .i64 (N : Int))).run Try.prog u = .ok (.slice (some ⟨u.heap.size, 0, none⟩) N N) (u.alloc (.cells mp 32)) := fun u => by
    have := run_makeSlice (P := Try.prog) u 35 32 i0 _ Try.underlying35 hi0 hz0 .i64 .i64 N N (by omega) (Int.le_refl _) (by rw [hz1, Int.toNat_natCast]; omega) (by rw [hz2]; omega) (by omega)
    rw [hz1, Int.toNat_natCast, hmp] at this
    exact this
  have RK : ∀ u : World, (Instr.makeSlice 44 (.int .i64 (N : Int)) (.int .i64 (N : Int))).run Try.prog u = .ok (.slice (some ⟨u.heap.size, 0, none⟩) N N) (u.alloc (.cells mk 4)) := fun u => by
    have := run_makeSlice (P := Try.prog) u 44 4 i1 _ Try.underlying44 hi1 hy0 .i64 .i64 N N (by omega) (Int.le_refl _) (by rw [hy1, Int.toNat_natCast]; omega) (by rw [hy2]; omega) (by omega)
    rw [hy1, Int.toNat_natCast, hmk] at this
    exact this
  have HM : Hid (madeCells (Value.slice none 0 0).cells (N * 1) = mp ∧ madeCells (Value.bool false).cells (N * 1) = mk) := ⟨hmp, hmk⟩
  have HF : Hid (ItArg w a len cap F) := hF
  have C0 : Hid _ := rfixed_any w
  clear hmp hmk hi0 hi1 hz0 hz1 hz2 hy0 hy1 hy2 hF
  go_enter Try.func4, Try.ntmps4
  go_upto_region 4 with (go_at_call 7; refine Calls.mono C0.out ?_; rintro e w1 ⟨rfl, b1⟩)
  have HB1 : Hid (Below w.heap.size w w1) := b1
  have C1 : Hid _ := rnew_yes N W w1 ⟨by omega, by omega, hWb.1, hWb.2⟩
  clear b1 C0
  go_upto_region 7 with (go_at_call 8; refine Calls.mono C1.out ?_; rintro e w2 ⟨b, m, rfl, r2, b2, f1, f2⟩)
  have HR2 : Hid (Rc w2 b m N W 0 [] ∧ Below w.heap.size w w2 ∧ w.heap.size ≤ b ∧ w.heap.size ≤ m) := ⟨r2, HB1.out.trans (b2.mono HB1.out.size), Nat.le_trans HB1.out.size f1, Nat.le_trans HB1.out.size f2⟩
  clear r2 b2 f1 f2 C1 HB1
  have C2 : Hid _ := ifew_any (HF.out.old HR2.out.2.1)
  go_wp2_with fail
  refine Calls.mono C2.out ?_
  rintro e w3 ⟨b3, hfw⟩
  have HB3 : Hid (Below w.heap.size w w3 ∧ Below w2.heap.size w2 w3) := ⟨HR2.out.2.1.trans (b3.mono HR2.out.2.1.size), b3⟩
  clear b3 C2
  rcases hfw with rfl | ⟨rfl, hlen, hzs⟩
  · go_wp2
    go_ret
    exact ⟨rfl, HB3.out.1⟩
  have HZ : Hid (∀ j, j < len → (F j).p.z.length ≤ 3000) := hzs
  clear hzs
  go_upto_region 11 with fail
  obtain ⟨cb, hcb⟩ : ∃ cb, w3.heap.size = cb := ⟨_, rfl⟩
  have hib : ∃ ib, ib = cb + 1 := ⟨_, rfl⟩
  obtain ⟨ib, hib⟩ := hib
  have HO : Hid (OrI w b m cb ib N W ((0 : Nat) : Int) [] (fun _ => hPt0) (fun _ => false) ((w3.alloc (.cells mp 32)).alloc (.cells mk 4))) := by
    have a1 := below_allocR w3 (.cells mp 32)
    have a2 := below_allocR (w3.alloc (.cells mp 32)) (.cells mk 4)
    have s1 : (w3.alloc (.cells mp 32)).heap.size = cb + 1 := by simp [hcb]
    have h1 : ((w3.alloc (.cells mp 32)).alloc (.cells mk 4)).heap[cb]? = some (.cells mp 32 (0, 0)) := by
      rw [Below.heap_alloc _ _ _ (by omega), ← hcb]
      exact heap_alloc_new w3 _
    have h2 : ((w3.alloc (.cells mp 32)).alloc (.cells mk 4)).heap[ib]? = some (.cells mk 4 (0, 0)) := by
      rw [hib, ← s1]
      exact heap_alloc_new (w3.alloc (.cells mp 32)) _
    have rc3 := ((HR2.out.1.old HB3.out.2).old a1).old a2
    have hb3 := lt_of_block (HR2.out.1.old HB3.out.2).c
    have hm3 := (HR2.out.1.old HB3.out.2).m.lt
    have z3 := HB3.out.1.size
    refine ⟨rc3, trivial, made_cm h1 h2 HM.out.1 HM.out.2, fun k hk => ?_, (fun p hp => by cases hp), (HB3.out.1.trans (a1.mono z3)).trans (a2.mono (Nat.le_trans z3 a1.size)), ⟨HR2.out.2.2.1, HR2.out.2.2.2, by omega, by omega⟩, ⟨by omega, by omega⟩, by omega, by omega⟩
    unfold cameB hHas
    have : ¬ ((k : Int) < ((0 : Nat) : Int)) := by omega
    simp only [decide_eq_false this, List.any_nil, Bool.or_false]
  obtain ⟨w4, hw4⟩ : ∃ w4, (w3.alloc (.cells mp 32)).alloc (.cells mk 4) = w4 := ⟨_, rfl⟩
  rw [hw4] at HO ⊢
  rw [hcb]
  rw [← hib]
  clear hw4 HR2 HB3 HM RP RK hcb hib
  go_wp2
  go_loopw [12, 14, 15, 16, 18, 45] (fun tv _ _ _ _ iv wr => ∃ (k T : Nat) (H : List (Int × Pt)) (S : Nat → Bool) (A : Nat → Pt), k ≤ len ∧ iv = .int .i64 k ∧ tv = .int .i64 (T : Int) ∧ Hid (OrI w b m cb ib N W (T : Int) H A S wr)) (fun _ _ _ _ _ iv _ => len - (intOf iv).toNat)
  case atStart => exact ⟨0, 0, [], _, _, Nat.zero_le _, rfl, rfl, HO.out⟩
  case round =>
    clear HO
    obtain ⟨k, T0, H, S, A, hk, rfl, rfl, HO⟩ := hrel
    by_cases hlt : k < len
    · obtain ⟨ab, aoff, rfl, hc⟩ := (HF.out.old HO.out.be).2.2 (by omega)
      obtain ⟨c0, c1, c2, c3⟩ := hc k hlt
      have hz3 := HZ.out k hlt
      obtain ⟨it, hit⟩ : ∃ it, F k = it := ⟨_, rfl⟩
      rw [hit] at c0 c1 c2 c3 hz3
      clear hc hit
      obtain ⟨ii, pa, pc, pz⟩ := it
      simp only at c0 c1 c2 c3 hz3
      have HC3 : Hid (PtOk wr ⟨pa, pc, pz⟩) := c3
      obtain ⟨wb, hwb⟩ : ∃ wb, wr.alloc (.cells #[.int .i64 ii, .slice pa pz.length pc] 34) = wb := ⟨_, rfl⟩
      have hbb : Below wr.heap.size wr wb := by rw [← hwb]; exact below_allocR wr _
      have hbx : wb.heap[wr.heap.size]? = some (.cells #[.int .i64 ii, .slice pa pz.length pc] 34 (0, 0)) := by rw [← hwb]; exact heap_alloc_new wr _
      have HBB : Hid (Below wr.heap.size wr wb ∧ wb.heap[wr.heap.size]? = some (.cells #[.int .i64 ii, .slice pa pz.length pc] 34 (0, 0))) := ⟨hbb, hbx⟩
      have hOb := HO.out.old hbb
      have HOb : Hid _ := hOb
      clear c3
      go_upto_region 15 with fail
      try rw [hwb]
      obtain ⟨d0, d1⟩ := two_cells HBB.out.2
      clear hbb hbx hOb hwb c0 c1
      cases hmc : mcB N W (T0 : Int) H ii
      · have C3 : Hid _ := take_no HOb.out.rc ii c2 (.slice pa pz.length pc) hmc
        go_upto_region 16 with (go_at_call 11; refine Calls.mono C3.out ?_; rintro e w5 ⟨rfl, b5⟩)
        have HM5 : Hid (OrI w b m cb ib N W (T0 : Int) H A S w5) := HOb.out.old b5
        clear C3 b5 HOb HO HBB HC3 d0 d1
        go_upto_region 20 with fail
        go_wp2
        go_loopw [12, 18, 88] (fun tv _ iv wq => ∃ (j T : Nat), j ≤ 0 ∧ (T : Int) = T0 + j ∧ iv = .int .i64 j ∧ tv = .int .i64 (T : Int) ∧ Hid (OrI w b m cb ib N W (T0 : Int) H A S wq)) (fun _ _ iv _ => 0 - (intOf iv).toNat)
        case atStart => exact ⟨0, T0, Nat.zero_le _, by omega, rfl, rfl, HM5.out⟩
        case round =>
          clear HM5
          obtain ⟨j, T, hj, hT, rfl, rfl, HM⟩ := hrel
          by_cases hlt5 : j < 0
          · omega
          · have hjP : j = 0 := by omega
            have hTn : (T0 : Int) = (T : Int) := by omega
            have HO6 := HM.out
            rw [hTn] at HO6
            have HO6 : Hid _ := HO6
            obtain ⟨k1, k2⟩ := HO6.out.ask
            rw [Int.toNat_natCast] at k1
            have hTN : T ≤ N := by
              obtain ⟨-, -, -, -, -, e3⟩ := HO6.out.rc.nb
              omega
            have hWH : (W ≤ (H.length : Int)) = False := eq_false (by omega)
            have D1 : Hid _ := rnext_any HO6.out.rc
            have D2 : Hid _ := rheld_any HO6.out.rc
            have D3 : Hid _ := rdone_any HO6.out.rc
            have HOd : Hid (OrI w b m cb ib N W (T : Int) H A S wr.drew) := HO6.out.old (below_drewR wr)
            clear HM hjP hT
            try clear hTn
            by_cases hTl : T < N
            · obtain ⟨-, y2, -, -⟩ := HO6.out.cm.cells hTl
              rw [k1 (by omega)] at y2
              have hlt6 : ((T : Int) < (N : Int)) = True := eq_true (by omega)
              have heq6 : ((T : Int) == (N : Int)) = false := by simp; omega
              have D3' := D3.out
              rw [heq6] at D3'
              have D3 : Hid _ := D3'
              clear HO6 k1 k2 D3'
              go_wp2_with (first
                | (go_at_call 14; refine Calls.mono D1.out ?_; rintro e w7 ⟨rfl, rfl⟩)
                | (go_at_call 16; refine Calls.mono D2.out ?_; rintro e w7 ⟨rfl, rfl⟩)
                | (go_at_call 21; refine Calls.mono D3.out ?_; rintro e w7 ⟨rfl, rfl⟩))
              go_roundw
              case rel => exact ⟨k + 1, T, H, S, A, by omega, by go_num, rfl, HOd.out⟩
              case measure => first | (show len - ((k : Int) + 1).toNat < len - ((k : Int)).toNat; omega) | (simp [intOf]; omega)
            · obtain rfl : T = N := by omega
              have hlt6 : ((T : Int) < (T : Int)) = False := eq_false (by omega)
              have heq6 : ((T : Int) == (T : Int)) = true := by simp
              have D3' := D3.out
              rw [heq6] at D3'
              have D3 : Hid _ := D3'
              clear HO6 k1 k2 D3'
              go_wp2_with (first
                | (go_at_call 14; refine Calls.mono D1.out ?_; rintro e w7 ⟨rfl, rfl⟩)
                | (go_at_call 16; refine Calls.mono D2.out ?_; rintro e w7 ⟨rfl, rfl⟩)
                | (go_at_call 21; refine Calls.mono D3.out ?_; rintro e w7 ⟨rfl, rfl⟩))
              go_roundw
              case rel => exact ⟨k + 1, T, H, S, A, by omega, by go_num, rfl, HOd.out⟩
              case measure => first | (show len - ((k : Int) + 1).toNat < len - ((k : Int)).toNat; omega) | (simp [intOf]; omega)
      · have hmc' := mcB_ex hmc
        obtain ⟨I, rfl⟩ : ∃ I : Nat, ii = (I : Int) := ⟨ii.toNat, by omega⟩
        have hIN : I < N := by omega
        have hSI : S I = false := by
          rw [HOb.out.sv I hIN]
          unfold cameB
          rw [hmc'.1, decide_eq_false (by omega)]
          rfl
        have C3 : Hid _ := take_yes HOb.out.rc (I : Int) c2 (N := pz.length) (zs := pz) rfl HC3.out.2.2.2.1 (by omega) HC3.out.1 (pt_old HC3.out HBB.out.1).2.2.2.2 hmc
        go_upto_region 16 with (go_at_call 11; refine Calls.mono C3.out ?_; rintro e w5 hT; obtain ⟨v, hv⟩ : ∃ v, e = .returned (.tuple #[v, .bool true]) := (by obtain ⟨q, q1, q2, q3, v, g, e1, q4⟩ := hT; exact ⟨v, e1⟩); subst hv; have HT : Hid (TkY wb b m N W (T0 : Int) H (I : Int) pz (.returned (.tuple #[v, .bool true])) w5) := hT; clear hT)
        have hF5 : F2 b m wb w5 := by obtain ⟨q, q1, q2, q3, v, g, e1, q4, q5, q6, q7⟩ := HT.out; exact q6
        have hbw : b < wr.heap.size := lt_of_block HO.out.rc.c
        have hmw : m < wr.heap.size := HO.out.rc.m.lt
        have hx5 := (hF5.block wr.heap.size (lt_of_block HBB.out.2) (by omega) (by omega)).trans HBB.out.2
        obtain ⟨d5, d6, -, -⟩ := two_cells hx5
        have hcm5 := HOb.out.cm.f2 HOb.out.rc hF5 HOb.out.ne.1 HOb.out.ne.2
        obtain ⟨y1, y2, y3, y4⟩ := hcm5.cells hIN
        rw [hSI] at y2
        have hcb : cb ≠ wr.heap.size := by have := HO.out.cm.lt; omega
        have hcbi : cb ≠ ib := hcm5.ne
        have hibb : ib ≠ wr.heap.size := by have := HO.out.cm.lt; omega
        obtain ⟨P, nx', H', hMM⟩ := HOb.out.take (Below.refl _ _) hmc (pt_old HC3.out HBB.out.1) HT.out
        have HM5 : Hid _ := hMM
        have hI0 : ((I : Int) < 0) = False := eq_false (by omega)
        have hI1 : ((N : Int) ≤ (I : Int)) = False := eq_false (by omega)
        have hI2 : (I : Int) < (N : Int) := by omega
        clear C3 hmc' hSI d0 d1 hF5 hx5 hcm5 hMM HT HOb HO HBB HC3
        go_upto_region 19 with fail
        have e5 : ∀ u : Value, (w5.drew.setCell ⟨cb, I, none⟩ u).cell? ⟨wr.heap.size, 0, none⟩ = some (.int .i64 (I : Int)) ∧ (w5.drew.setCell ⟨cb, I, none⟩ u).cell? ⟨wr.heap.size, 1, none⟩ = some (.slice pa pz.length pc) ∧ (w5.drew.setCell ⟨cb, I, none⟩ u).cell? ⟨ib, I, none⟩ = some (.bool false) ∧ (w5.drew.setCell ⟨cb, I, none⟩ u).frozen? ⟨ib, I, none⟩ = false := fun u =>
          ⟨(World.cell?_of_block (a := ⟨wr.heap.size, 0, none⟩) (Below.heap_setCell w5.drew _ u _ (fun e => hcb e.symm))).trans d5, (World.cell?_of_block (a := ⟨wr.heap.size, 1, none⟩) (Below.heap_setCell w5.drew _ u _ (fun e => hcb e.symm))).trans d6, (World.cell?_of_block (a := ⟨ib, I, none⟩) (Below.heap_setCell w5.drew _ u _ (fun e => hcbi e.symm))).trans y2, (World.frozen?_of_block (a := ⟨ib, I, none⟩) (Below.heap_setCell w5.drew _ u _ (fun e => hcbi e.symm))).trans y4⟩
        obtain ⟨e50, e51, e52, e53⟩ := e5 (.slice pa pz.length pc)
        refine wp_region_held_drew (S := fun u => u.cell? ⟨wr.heap.size, 0, none⟩ = some (.int .i64 (I : Int)) ∧ u.cell? ⟨wr.heap.size, 1, none⟩ = some (.slice pa pz.length pc)) (by kernel_rfl) ⟨d5, d6⟩ (fun hHeld => ?_)
        refine wpAnyH_take (i := 0) (v := .slice (some ⟨cb, 0, none⟩) N N) rfl (by kernel_rfl) (by kernel_rfl) (by kernel_rfl) (fun _ _ _ h => h) (Or.inl ⟨by kernel_rfl, ?_⟩) hHeld ?_
        · intro wq hSw
          try dsimp only at hSw
          go_simp
        simp only [Act.put, List.getElem_toArray, List.getElem_cons_zero]
        try simp only [List.setIfInBounds_toArray]
        try simp only [List.set_cons_succ]
        try simp only [List.set_cons_zero]
        refine wpAnyH_take (i := 1) (v := .pointer (some ⟨wr.heap.size, 0, none⟩)) rfl (by kernel_rfl) (by kernel_rfl) (by kernel_rfl) (fun _ _ _ h => h) (Or.inl ⟨by kernel_rfl, ?_⟩) hHeld ?_
        · intro wq hSw
          try dsimp only at hSw
          go_simp
        simp only [Act.put, List.getElem_toArray, List.getElem_cons_succ, List.getElem_cons_zero]
        try simp only [List.setIfInBounds_toArray]
        try simp only [List.set_cons_succ]
        try simp only [List.set_cons_zero]
        refine wpAnyH_take (i := 2) (v := .int .i64 (I : Int)) rfl (by kernel_rfl) (by kernel_rfl) (by kernel_rfl) (fun _ _ _ h => h) (Or.inl ⟨by kernel_rfl, ?_⟩) hHeld ?_
        · intro wq hSw
          try dsimp only at hSw
          go_simp
        simp only [Act.put, List.getElem_toArray, List.getElem_cons_succ, List.getElem_cons_zero]
        try simp only [List.setIfInBounds_toArray]
        try simp only [List.set_cons_succ]
        try simp only [List.set_cons_zero]
        refine wpAnyH_take (i := 3) (v := .slice (some ⟨ib, 0, none⟩) N N) rfl (by kernel_rfl) (by kernel_rfl) (by kernel_rfl) (fun _ _ _ h => h) (Or.inl ⟨by kernel_rfl, ?_⟩) hHeld ?_
        · intro wq hSw
          try dsimp only at hSw
          go_simp
        simp only [Act.put, List.getElem_toArray, List.getElem_cons_succ, List.getElem_cons_zero]
        try simp only [List.setIfInBounds_toArray]
        try simp only [List.set_cons_succ]
        try simp only [List.set_cons_zero]
        refine wpAnyH_take (i := 4) (v := .pointer (some ⟨wr.heap.size, 0, none⟩)) rfl (by kernel_rfl) (by kernel_rfl) (by kernel_rfl) (fun _ _ _ h => h) (Or.inl ⟨by kernel_rfl, ?_⟩) hHeld ?_
        · intro wq hSw
          try dsimp only at hSw
          go_simp
        simp only [Act.put, List.getElem_toArray, List.getElem_cons_succ, List.getElem_cons_zero]
        try simp only [List.setIfInBounds_toArray]
        try simp only [List.set_cons_succ]
        try simp only [List.set_cons_zero]
        refine wpAnyH_take (i := 5) (v := .int .i64 (I : Int)) rfl (by kernel_rfl) (by kernel_rfl) (by kernel_rfl) (fun _ _ _ h => h) (Or.inl ⟨by kernel_rfl, ?_⟩) hHeld ?_
        · intro wq hSw
          try dsimp only at hSw
          go_simp
        simp only [Act.put, List.getElem_toArray, List.getElem_cons_succ, List.getElem_cons_zero]
        try simp only [List.setIfInBounds_toArray]
        try simp only [List.set_cons_succ]
        try simp only [List.set_cons_zero]
        refine wpAnyH_take (i := 6) (v := .pointer (some ⟨wr.heap.size, 1, none⟩)) rfl (by kernel_rfl) (by kernel_rfl) (by kernel_rfl) (fun _ _ _ h => h) (Or.inl ⟨by kernel_rfl, ?_⟩) hHeld ?_
        · intro wq hSw
          try dsimp only at hSw
          go_simp
        simp only [Act.put, List.getElem_toArray, List.getElem_cons_succ, List.getElem_cons_zero]
        try simp only [List.setIfInBounds_toArray]
        try simp only [List.set_cons_succ]
        try simp only [List.set_cons_zero]
        refine wpAnyH_take (i := 7) (v := .slice pa pz.length pc) rfl (by kernel_rfl) (by kernel_rfl) (by kernel_rfl) (fun _ _ _ h => h) (Or.inl ⟨by kernel_rfl, ?_⟩) hHeld ?_
        · intro wq hSw
          try dsimp only at hSw
          go_simp
        simp only [Act.put, List.getElem_toArray, List.getElem_cons_succ, List.getElem_cons_zero]
        try simp only [List.setIfInBounds_toArray]
        try simp only [List.set_cons_succ]
        try simp only [List.set_cons_zero]
        refine wpAnyH_take (i := 8) (v := .pointer (some ⟨cb, I, none⟩)) rfl (by kernel_rfl) (by kernel_rfl) (by kernel_rfl) (fun _ _ _ h => h) (Or.inl ⟨by kernel_rfl, ?_⟩) hHeld ?_
        · intro wq hSw
          try dsimp only at hSw
          go_simp
        simp only [Act.put, List.getElem_toArray, List.getElem_cons_succ, List.getElem_cons_zero]
        try simp only [List.setIfInBounds_toArray]
        try simp only [List.set_cons_succ]
        try simp only [List.set_cons_zero]
        refine wpAnyH_ready (rs := [9]) (by kernel_rfl) (by simp) (AllReadyH.cons (o := _) rfl (fun K hK => ?_) AllReadyH.nil)
        go_simp
        refine hK.out _ _ ⟨e50, e51⟩ (fun hHeld => ?_)
        clear hK K
        try simp only [Act.put, List.getElem_toArray, List.getElem_cons_succ, List.getElem_cons_zero]
        try simp only [List.setIfInBounds_toArray]
        try simp only [List.set_cons_succ]
        try simp only [List.set_cons_zero]
        refine wpAnyH_take (i := 10) (v := .pointer (some ⟨ib, I, none⟩)) rfl (by kernel_rfl) (by kernel_rfl) (by kernel_rfl) (fun _ _ _ h => h) (Or.inl ⟨by kernel_rfl, ?_⟩) hHeld ?_
        · intro wq hSw
          try dsimp only at hSw
          go_simp
        simp only [Act.put, List.getElem_toArray, List.getElem_cons_succ, List.getElem_cons_zero]
        try simp only [List.setIfInBounds_toArray]
        try simp only [List.set_cons_succ]
        try simp only [List.set_cons_zero]
        refine wpAnyH_ready (rs := [11]) (by kernel_rfl) (by simp) (AllReadyH.cons (o := _) rfl (fun K hK => ?_) AllReadyH.nil)
        go_simp
        have e6 : (((w5.drew.setCell ⟨cb, I, none⟩ (.slice pa pz.length pc))).setCell ⟨ib, I, none⟩ (.bool true)).cell? ⟨wr.heap.size, 0, none⟩ = some (.int .i64 (I : Int)) ∧ (((w5.drew.setCell ⟨cb, I, none⟩ (.slice pa pz.length pc))).setCell ⟨ib, I, none⟩ (.bool true)).cell? ⟨wr.heap.size, 1, none⟩ = some (.slice pa pz.length pc) :=
          ⟨(World.cell?_of_block (a := ⟨wr.heap.size, 0, none⟩) (Below.heap_setCell _ _ _ _ (fun e => hibb e.symm))).trans e50, (World.cell?_of_block (a := ⟨wr.heap.size, 1, none⟩) (Below.heap_setCell _ _ _ _ (fun e => hibb e.symm))).trans e51⟩
        refine hK.out _ _ e6 (fun hHeld => ?_)
        clear hK K
        try simp only [Act.put]
        refine wpAnyH_done (by kernel_rfl) ?_ _
        obtain ⟨g5, hsl5⟩ := HM5.out.sl
        obtain ⟨va, vc, hv5, -⟩ := hsl5.shape
        have hpl5 : (pvl P).length = P.length := by unfold pvl; rw [List.length_map]
        rw [hpl5] at hv5
        subst hv5
        have hPn : P.length ≤ 255 := by
          have e1 := HM5.out.eq
          have e2 := HM5.out.n0
          obtain ⟨-, -, -, -, -, e3⟩ := HM5.out.oi.rc.nb
          omega
        have hn05 := HM5.out.n0
        have hnN5 : (T0 : Int) ≤ N := by
          have e1 := HM5.out.eq
          obtain ⟨-, -, -, -, -, e3⟩ := HM5.out.oi.rc.nb
          omega
        clear hsl5 hpl5
        go_upto_region 20 with fail
        go_wp2
        go_loopw [12, 18, 88] (fun tv _ iv wq => ∃ (j T : Nat), j ≤ P.length ∧ (T : Int) = (T0 : Int) + j ∧ iv = .int .i64 j ∧ tv = .int .i64 (T : Int) ∧ Hid (OrM w b m cb ib N W (T0 : Int) nx' H' (updR A I ⟨pa, pc, pz⟩) (updR S I true) P (.slice va P.length vc) wq)) (fun _ _ iv _ => P.length - (intOf iv).toNat)
        case atStart => exact ⟨0, T0, Nat.zero_le _, by omega, rfl, rfl, HM5.out⟩
        case round =>
          clear HM5
          obtain ⟨j, T, hj, hT, rfl, rfl, HM⟩ := hrel
          by_cases hlt5 : j < P.length
          · obtain ⟨q, hq⟩ : ∃ q, P[j]? = some q := ⟨_, List.getElem?_eq_getElem hlt5⟩
            obtain ⟨x1, x2, x3⟩ := HM.out.tl j q hq
            rw [show ((T0 : Int) + (j : Int)).toNat = T by omega] at x2 x3
            have hTN : T < N := by omega
            obtain ⟨y1, y2, -, -⟩ := HM.out.oi.cm.cells hTN
            rw [x2] at y2
            have hAok := HM.out.oi.cm.ok T hTN
            obtain ⟨Ap, hAp⟩ : ∃ p, (updR A I ⟨pa, pc, pz⟩) T = p := ⟨_, rfl⟩
            rw [hAp] at x3 y1 hAok
            have hqok := HM.out.pk q (List.mem_of_getElem? hq)
            obtain ⟨ob, ooff, rfl, z1⟩ : ∃ ob off, va = some ⟨ob, off, none⟩ ∧ wr.cell? ⟨ob, off + j, none⟩ = some (ptV q) := by
              obtain ⟨g6, hs6⟩ := HM.out.sl
              rcases hs6 with ⟨e, _, _⟩ | ⟨ob, off, cap', cur, e, eg, hh, q1, q2, q3, q4⟩
              · simp only [Value.slice.injEq] at e; omega
              · simp only [Value.slice.injEq] at e
                refine ⟨ob, off, e.1, ?_⟩
                have := q4 j (by unfold pvl; rw [List.length_map]; exact hlt5)
                simp only [World.cell?, hh]
                rw [this]
                unfold pvl
                rw [List.getElem?_map, hq]
                rfl
            have cx := conv_row (w := wr.drew) (c := q.c) rfl hqok.2.2.2.2
            have cy := conv_row (w := wr.drew) (c := Ap.c) rfl hAok.2.2.2.2
            have HMd : Hid (OrM w b m cb ib N W (T0 : Int) nx' H' (updR A I ⟨pa, pc, pz⟩) (updR S I true) P (.slice (some ⟨ob, ooff, none⟩) P.length vc) wr.drew) := HM.out.old (below_drewR wr)
            have hge : ((N : Int) ≤ (T : Int)) = False := eq_false (by omega)
            have hwN : IntKind.i64.wrap (N : Int) = (N : Int) := IntWalk.i64_in _ (by omega)
            have hT9 : (T : Int) < (N : Int) := by omega
            have HTj : Hid ((T : Int) = (T0 : Int) + j) := hT
            clear hT
            clear HM hqok hAok hq x1 x2
            obtain ⟨qa, qc, qz⟩ := q
            obtain ⟨Aa, Ac, Az⟩ := Ap
            unfold ptV at z1
            simp only at x3 z1 y1 cx cy
            subst x3
            generalize strOfNums Az = s at *
            go_upto_region 23 with fail
            refine wp_region_held_drew (S := fun u => u = wr.drew) (by kernel_rfl) rfl (fun hHeld => ?_)
            refine wpAnyH_take (i := 0) (v := .int .i64 (T : Int)) rfl (by kernel_rfl) (by kernel_rfl) (by kernel_rfl) (fun _ _ _ h => h) (Or.inl ⟨by kernel_rfl, ?_⟩) hHeld ?_
            · intro wq hSw
              subst hSw
              go_simp
            simp only [Act.put, List.getElem_toArray, List.getElem_cons_zero]
            try simp only [List.setIfInBounds_toArray]
            try simp only [List.set_cons_succ]
            try simp only [List.set_cons_zero]
            refine wpAnyH_take (i := 1) (v := .int .u8 (N : Int)) rfl (by kernel_rfl) (by kernel_rfl) (by kernel_rfl) (fun _ _ _ h => h) (Or.inl ⟨by kernel_rfl, ?_⟩) hHeld ?_
            · intro wq hSw
              subst hSw
              go_simp
            simp only [Act.put, List.getElem_toArray, List.getElem_cons_succ, List.getElem_cons_zero]
            try simp only [List.setIfInBounds_toArray]
            try simp only [List.set_cons_succ]
            try simp only [List.set_cons_zero]
            refine wpAnyH_take (i := 2) (v := .int .i64 (N : Int)) rfl (by kernel_rfl) (by kernel_rfl) (by kernel_rfl) (fun _ _ _ h => h) (Or.inl ⟨by kernel_rfl, ?_⟩) hHeld ?_
            · intro wq hSw
              subst hSw
              go_simp
            simp only [Act.put, List.getElem_toArray, List.getElem_cons_succ, List.getElem_cons_zero]
            try simp only [List.setIfInBounds_toArray]
            try simp only [List.set_cons_succ]
            try simp only [List.set_cons_zero]
            refine wpAnyH_take (i := 3) (v := .bool false) rfl (by kernel_rfl) (by kernel_rfl) (by kernel_rfl) (fun _ _ _ h => h) (Or.inl ⟨by kernel_rfl, ?_⟩) hHeld ?_
            · intro wq hSw
              subst hSw
              go_simp
            simp only [Act.put, List.getElem_toArray, List.getElem_cons_succ, List.getElem_cons_zero]
            try simp only [List.setIfInBounds_toArray]
            try simp only [List.set_cons_succ]
            try simp only [List.set_cons_zero]
            refine wpAnyH_take (i := 4) (v := .bool false) rfl (by kernel_rfl) (by kernel_rfl) (by kernel_rfl) (fun _ _ _ h => h) (Or.inl ⟨by kernel_rfl, ?_⟩) hHeld ?_
            · intro wq hSw
              subst hSw
              go_simp
            simp only [Act.put, List.getElem_toArray, List.getElem_cons_succ, List.getElem_cons_zero]
            try simp only [List.setIfInBounds_toArray]
            try simp only [List.set_cons_succ]
            try simp only [List.set_cons_zero]
            refine wpAnyH_take (i := 5) (v := .slice (some ⟨ib, 0, none⟩) N N) rfl (by kernel_rfl) (by kernel_rfl) (by kernel_rfl) (fun _ _ _ h => h) (Or.inl ⟨by kernel_rfl, ?_⟩) hHeld ?_
            · intro wq hSw
              subst hSw
              go_simp
            simp only [Act.put, List.getElem_toArray, List.getElem_cons_succ, List.getElem_cons_zero]
            try simp only [List.setIfInBounds_toArray]
            try simp only [List.set_cons_succ]
            try simp only [List.set_cons_zero]
            refine wpAnyH_take (i := 6) (v := .int .i64 (T : Int)) rfl (by kernel_rfl) (by kernel_rfl) (by kernel_rfl) (fun _ _ _ h => h) (Or.inl ⟨by kernel_rfl, ?_⟩) hHeld ?_
            · intro wq hSw
              subst hSw
              go_simp
            simp only [Act.put, List.getElem_toArray, List.getElem_cons_succ, List.getElem_cons_zero]
            try simp only [List.setIfInBounds_toArray]
            try simp only [List.set_cons_succ]
            try simp only [List.set_cons_zero]
            refine wpAnyH_take (i := 7) (v := .pointer (some ⟨ib, T, none⟩)) rfl (by kernel_rfl) (by kernel_rfl) (by kernel_rfl) (fun _ _ _ h => h) (Or.inl ⟨by kernel_rfl, ?_⟩) hHeld ?_
            · intro wq hSw
              subst hSw
              go_simp
            simp only [Act.put, List.getElem_toArray, List.getElem_cons_succ, List.getElem_cons_zero]
            try simp only [List.setIfInBounds_toArray]
            try simp only [List.set_cons_succ]
            try simp only [List.set_cons_zero]
            refine wpAnyH_take (i := 8) (v := .bool true) rfl (by kernel_rfl) (by kernel_rfl) (by kernel_rfl) (fun _ _ _ h => h) (Or.inl ⟨by kernel_rfl, ?_⟩) hHeld ?_
            · intro wq hSw
              subst hSw
              go_simp
            simp only [Act.put, List.getElem_toArray, List.getElem_cons_succ, List.getElem_cons_zero]
            try simp only [List.setIfInBounds_toArray]
            try simp only [List.set_cons_succ]
            try simp only [List.set_cons_zero]
            refine wpAnyH_take (i := 9) (v := .bool false) rfl (by kernel_rfl) (by kernel_rfl) (by kernel_rfl) (fun _ _ _ h => h) (Or.inl ⟨by kernel_rfl, ?_⟩) hHeld ?_
            · intro wq hSw
              subst hSw
              go_simp
            simp only [Act.put, List.getElem_toArray, List.getElem_cons_succ, List.getElem_cons_zero]
            try simp only [List.setIfInBounds_toArray]
            try simp only [List.set_cons_succ]
            try simp only [List.set_cons_zero]
            refine wpAnyH_take (i := 10) (v := .bool false) rfl (by kernel_rfl) (by kernel_rfl) (by kernel_rfl) (fun _ _ _ h => h) (Or.inl ⟨by kernel_rfl, ?_⟩) hHeld ?_
            · intro wq hSw
              subst hSw
              go_simp
            simp only [Act.put, List.getElem_toArray, List.getElem_cons_succ, List.getElem_cons_zero]
            try simp only [List.setIfInBounds_toArray]
            try simp only [List.set_cons_succ]
            try simp only [List.set_cons_zero]
            refine wpAnyH_take (i := 11) (v := .bool false) rfl (by kernel_rfl) (by kernel_rfl) (by kernel_rfl) (fun _ _ _ h => h) (Or.inl ⟨by kernel_rfl, ?_⟩) hHeld ?_
            · intro wq hSw
              subst hSw
              go_simp
            simp only [Act.put, List.getElem_toArray, List.getElem_cons_succ, List.getElem_cons_zero]
            try simp only [List.setIfInBounds_toArray]
            try simp only [List.set_cons_succ]
            try simp only [List.set_cons_zero]
            refine wpAnyH_take (i := 12) (v := .slice qa Az.length qc) rfl (by kernel_rfl) (by kernel_rfl) (by kernel_rfl) (fun _ _ _ h => h) (Or.inl ⟨by kernel_rfl, ?_⟩) hHeld ?_
            · intro wq hSw
              subst hSw
              go_simp
            simp only [Act.put, List.getElem_toArray, List.getElem_cons_succ, List.getElem_cons_zero]
            try simp only [List.setIfInBounds_toArray]
            try simp only [List.set_cons_succ]
            try simp only [List.set_cons_zero]
            refine wpAnyH_take (i := 13) (v := .string s) rfl (by kernel_rfl) (by kernel_rfl) (by kernel_rfl) (fun _ _ _ h => h) (Or.inl ⟨by kernel_rfl, ?_⟩) hHeld ?_
            · intro wq hSw
              subst hSw
              go_simp
            simp only [Act.put, List.getElem_toArray, List.getElem_cons_succ, List.getElem_cons_zero]
            try simp only [List.setIfInBounds_toArray]
            try simp only [List.set_cons_succ]
            try simp only [List.set_cons_zero]
            refine wpAnyH_take (i := 14) (v := .slice (some ⟨cb, 0, none⟩) N N) rfl (by kernel_rfl) (by kernel_rfl) (by kernel_rfl) (fun _ _ _ h => h) (Or.inl ⟨by kernel_rfl, ?_⟩) hHeld ?_
            · intro wq hSw
              subst hSw
              go_simp
            simp only [Act.put, List.getElem_toArray, List.getElem_cons_succ, List.getElem_cons_zero]
            try simp only [List.setIfInBounds_toArray]
            try simp only [List.set_cons_succ]
            try simp only [List.set_cons_zero]
            refine wpAnyH_take (i := 15) (v := .int .i64 (T : Int)) rfl (by kernel_rfl) (by kernel_rfl) (by kernel_rfl) (fun _ _ _ h => h) (Or.inl ⟨by kernel_rfl, ?_⟩) hHeld ?_
            · intro wq hSw
              subst hSw
              go_simp
            simp only [Act.put, List.getElem_toArray, List.getElem_cons_succ, List.getElem_cons_zero]
            try simp only [List.setIfInBounds_toArray]
            try simp only [List.set_cons_succ]
            try simp only [List.set_cons_zero]
            refine wpAnyH_take (i := 16) (v := .pointer (some ⟨cb, T, none⟩)) rfl (by kernel_rfl) (by kernel_rfl) (by kernel_rfl) (fun _ _ _ h => h) (Or.inl ⟨by kernel_rfl, ?_⟩) hHeld ?_
            · intro wq hSw
              subst hSw
              go_simp
            simp only [Act.put, List.getElem_toArray, List.getElem_cons_succ, List.getElem_cons_zero]
            try simp only [List.setIfInBounds_toArray]
            try simp only [List.set_cons_succ]
            try simp only [List.set_cons_zero]
            refine wpAnyH_take (i := 17) (v := .slice Aa Az.length Ac) rfl (by kernel_rfl) (by kernel_rfl) (by kernel_rfl) (fun _ _ _ h => h) (Or.inl ⟨by kernel_rfl, ?_⟩) hHeld ?_
            · intro wq hSw
              subst hSw
              go_simp
            simp only [Act.put, List.getElem_toArray, List.getElem_cons_succ, List.getElem_cons_zero]
            try simp only [List.setIfInBounds_toArray]
            try simp only [List.set_cons_succ]
            try simp only [List.set_cons_zero]
            refine wpAnyH_take (i := 18) (v := .string s) rfl (by kernel_rfl) (by kernel_rfl) (by kernel_rfl) (fun _ _ _ h => h) (Or.inl ⟨by kernel_rfl, ?_⟩) hHeld ?_
            · intro wq hSw
              subst hSw
              go_simp
            simp only [Act.put, List.getElem_toArray, List.getElem_cons_succ, List.getElem_cons_zero]
            try simp only [List.setIfInBounds_toArray]
            try simp only [List.set_cons_succ]
            try simp only [List.set_cons_zero]
            refine wpAnyH_take (i := 19) (v := .bool false) rfl (by kernel_rfl) (by kernel_rfl) (by kernel_rfl) (fun _ _ _ h => h) (Or.inl ⟨by kernel_rfl, ?_⟩) hHeld ?_
            · intro wq hSw
              subst hSw
              go_simp
            simp only [Act.put, List.getElem_toArray, List.getElem_cons_succ, List.getElem_cons_zero]
            try simp only [List.setIfInBounds_toArray]
            try simp only [List.set_cons_succ]
            try simp only [List.set_cons_zero]
            refine wpAnyH_take (i := 20) (v := .bool false) rfl (by kernel_rfl) (by kernel_rfl) (by kernel_rfl) (fun _ _ _ h => h) (Or.inl ⟨by kernel_rfl, ?_⟩) hHeld ?_
            · intro wq hSw
              subst hSw
              go_simp
            simp only [Act.put, List.getElem_toArray, List.getElem_cons_succ, List.getElem_cons_zero]
            try simp only [List.setIfInBounds_toArray]
            try simp only [List.set_cons_succ]
            try simp only [List.set_cons_zero]
            refine wpAnyH_done (by kernel_rfl) ?_ _
            go_wp2
            go_roundw
            case rel => exact ⟨j + 1, T + 1, by omega, by have := HTj.out; omega, by go_num, by go_num, HMd.out⟩
            case measure => simp [intOf]; omega
          · have hjP : j = P.length := by omega
            have hTn : nx' = (T : Int) := by rw [HM.out.eq, hT, hjP]
            have HO6 := HM.out.oi
            rw [hTn] at HO6
            have HO6 : Hid _ := HO6
            obtain ⟨k1, k2⟩ := HO6.out.ask
            rw [Int.toNat_natCast] at k1
            have hTN : T ≤ N := by
              obtain ⟨-, -, -, -, -, e3⟩ := HO6.out.rc.nb
              omega
            have hWH : (W ≤ (H'.length : Int)) = False := eq_false (by omega)
            have D1 : Hid _ := rnext_any HO6.out.rc
            have D2 : Hid _ := rheld_any HO6.out.rc
            have D3 : Hid _ := rdone_any HO6.out.rc
            have HOd : Hid (OrI w b m cb ib N W (T : Int) H' (updR A I ⟨pa, pc, pz⟩) (updR S I true) wr.drew) := HO6.out.old (below_drewR wr)
            clear HM hjP hT
            try clear hTn
            by_cases hTl : T < N
            · obtain ⟨-, y2, -, -⟩ := HO6.out.cm.cells hTl
              rw [k1 (by omega)] at y2
              have hlt6 : ((T : Int) < (N : Int)) = True := eq_true (by omega)
              have heq6 : ((T : Int) == (N : Int)) = false := by simp; omega
              have D3' := D3.out
              rw [heq6] at D3'
              have D3 : Hid _ := D3'
              clear HO6 k1 k2 D3'
              go_wp2_with (first
                | (go_at_call 14; refine Calls.mono D1.out ?_; rintro e w7 ⟨rfl, rfl⟩)
                | (go_at_call 16; refine Calls.mono D2.out ?_; rintro e w7 ⟨rfl, rfl⟩)
                | (go_at_call 21; refine Calls.mono D3.out ?_; rintro e w7 ⟨rfl, rfl⟩))
              go_roundw
              case rel => exact ⟨k + 1, T, H', (updR S I true), (updR A I ⟨pa, pc, pz⟩), by omega, by go_num, rfl, HOd.out⟩
              case measure => first | (show len - ((k : Int) + 1).toNat < len - ((k : Int)).toNat; omega) | (simp [intOf]; omega)
            · obtain rfl : T = N := by omega
              have hlt6 : ((T : Int) < (T : Int)) = False := eq_false (by omega)
              have heq6 : ((T : Int) == (T : Int)) = true := by simp
              have D3' := D3.out
              rw [heq6] at D3'
              have D3 : Hid _ := D3'
              clear HO6 k1 k2 D3'
              go_wp2_with (first
                | (go_at_call 14; refine Calls.mono D1.out ?_; rintro e w7 ⟨rfl, rfl⟩)
                | (go_at_call 16; refine Calls.mono D2.out ?_; rintro e w7 ⟨rfl, rfl⟩)
                | (go_at_call 21; refine Calls.mono D3.out ?_; rintro e w7 ⟨rfl, rfl⟩))
              go_roundw
              case rel => exact ⟨k + 1, T, H', (updR S I true), (updR A I ⟨pa, pc, pz⟩), by omega, by go_num, rfl, HOd.out⟩
              case measure => first | (show len - ((k : Int) + 1).toNat < len - ((k : Int)).toNat; omega) | (simp [intOf]; omega)
    · go_wp2
      go_ret
      exact ⟨rfl, HO.out.be⟩
end Go.Proofs.Ytmfciheenemapaa
