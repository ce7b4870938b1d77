/- The law's gather: what pieces come to, behind what is there. -/
import Derived.Test.YtoofpkcgiodfcaaAp2
namespace Go.Proofs.Ytoofpkcgiodfcaa
open Go.RowKit
theorem setCell_off (w : World) (g i j : Nat) (u : Value) (h : i ≠ j) : (w.setCell ⟨g, i, none⟩ u).cell? ⟨g, j, none⟩ = w.cell? ⟨g, j, none⟩ := by
  apply World.cell?_setCell_other
  intro e
  simp only [Addr.mk.injEq] at e
  exact h e.2.1
/-- The pieces that are gathered, in memory. -/
structure PcI (BT : Nat) (w : World) (vt : Value) (T : List Pm) (S0 : List Sm) : Prop where
  row : PmRow w BT vt T
  dat : ∀ x ∈ T, Sl w 5 (.slice x.a x.q.data.length x.c) (dblk x.a) (vals x.q.data)
  dis : ∀ x ∈ T, ∀ y ∈ S0, ∀ k, dblk x.a = some k → dblk y.a ≠ some k
theorem PcI.now {BT B : Nat} {w wr : World} {o0 : Option Nat} {vt v : Value} {T : List Pm} {S0 S : List Sm} (h : PcI BT w vt T S0) (hm : SmMem B w S0) (ho : ∀ k, o0 = some k → ∃ c, w.heap[k]? = some (.cells c 46 (0, 0))) (hg : GaI B w o0 S0 S v wr) : PmRow wr BT vt T ∧ ∀ x ∈ T, Sl wr 5 (.slice x.a x.q.data.length x.c) (dblk x.a) (vals x.q.data) := by
  refine ⟨h.row.same fun k hk => ?_, fun x hx => (h.dat x hx).same fun k hk => ?_⟩
  · obtain ⟨_, h2, c, h3⟩ := h.row.blk k hk
    refine hg.fr.block k h2 (by intro h9; obtain ⟨c2, h4⟩ := ho k h9; rw [h3] at h4; simp at h4) fun y hy e => ?_
    obtain ⟨c2, h4⟩ := (hm.1 y hy).1.tagB k e
    rw [h3] at h4
    simp at h4
  · obtain ⟨c, h3⟩ := (h.dat x hx).tagB k hk
    exact hg.fr.block k ((h.dat x hx).lt hk) (by intro h9; obtain ⟨c2, h4⟩ := ho k h9; rw [h3] at h4; simp at h4) fun y hy e => h.dis x hx y hy k hk e
def GtP (B : Nat) (w : World) (o0 : Option Nat) (S0 : List Sm) (G : List Sn) (e : Ending) (w' : World) : Prop := ∃ v' S', e = .returned (.tuple #[v', .bool true]) ∧ S'.map Sm.s = G ∧ GaI B w o0 S0 S' v' w'
set_option maxHeartbeats 6400000 in
set_option maxRecDepth 20000 in
theorem lgather_any (B BT : Nat) (al at' : Option Addr) (cl ct : Nat) (S0 : List Sm) (T : List Pm) (G : List Sn) (w : World) (hrow : SmRow w B (.slice al S0.length cl) S0) (hmem : SmMem B w S0) (hB : B ≤ w.heap.size) (hp : PcI BT w (.slice at' T.length ct) T S0) (hn : S0.length + T.length ≤ 1000000) (hdl : ∀ x ∈ S0, x.s.data.length ≤ 1000000000) (htl : ∀ x ∈ T, x.q.data.length ≤ 1000000) (hg : gath (S0.map Sm.s) (T.map Pm.q) = some G) (o0 : Option Nat) (ho0 : (Value.slice al S0.length cl).ownBlock = o0) :
    Calls Try.prog 13 #[.slice al S0.length cl, .slice at' T.length ct] w fun e w' => GtP B w o0 S0 G e w' := by
  have HH : Hid (SmRow w B (.slice al S0.length cl) S0 ∧ SmMem B w S0 ∧ B ≤ w.heap.size ∧ PcI BT w (.slice at' T.length ct) T S0 ∧ S0.length + T.length ≤ 1000000 ∧ (∀ x ∈ T, x.q.data.length ≤ 1000000) ∧ gath (S0.map Sm.s) (T.map Pm.q) = some G) := ⟨hrow, hmem, hB, hp, hn, htl, hg⟩
  have HS : Hid (GaI B w o0 S0 S0 (.slice al S0.length cl) w ∧ ∀ x ∈ S0, x.s.data.length ≤ 1000000000) := ⟨⟨hrow, hmem, Below.refl _ _, ⟨rfl, rfl, rfl, Nat.le_refl _, fun _ _ _ _ => rfl⟩, fun x hx k hk => .inl ⟨x, hx, hk⟩, fun k hk => .inl (by rw [← ho0]; exact hk)⟩, hdl⟩
  have HO0 : Hid (∀ k, o0 = some k → ∃ c, w.heap[k]? = some (.cells c 46 (0, 0))) := by rw [← ho0]; exact fun k hk => (hrow.blk k hk).2.2
  obtain ⟨M, hM⟩ : ∃ M, T.length = M := ⟨_, rfl⟩
  have HM : Hid (T.length = M ∧ M ≤ 1000000) := ⟨hM, by omega⟩
  rw [hM]
  have hMb : M ≤ 1000000 := HM.out.2
  clear hrow hmem hB hp hdl htl hg hM hn ho0
  go_enter Try.func13, Try.ntmps13
  go_wp2
  go_loopw [0, 7, 8, 11] (fun v0 _ _ t wr => ∃ j : Nat, j ≤ M ∧ t = .int .i64 j ∧ ∃ (a0 : Option Addr) (n0 c0 : Nat), v0 = .slice a0 n0 c0 ∧ Hid (∃ S, S.length = n0 ∧ n0 ≤ c0 ∧ c0 ≤ maxLen ∧ gath (S0.map Sm.s) ((T.take j).map Pm.q) = some (S.map Sm.s) ∧ GaI B w o0 S0 S (.slice a0 n0 c0) wr ∧ S.length ≤ S0.length + j ∧ ∀ x ∈ S, x.s.data.length ≤ 1000000000 + j * 1000000)) (fun _ _ _ t _ => M - (intOf t).toNat)
  case atStart =>
    obtain ⟨a', c', hv, h1, h2, _⟩ := HS.out.1.row.shape
    simp only [Value.slice.injEq] at hv
    refine ⟨0, Nat.zero_le _, rfl, al, S0.length, cl, rfl, S0, rfl, by rw [hv.2.2]; exact h1, by rw [hv.2.2]; exact h2, rfl, HS.out.1, Nat.le_refl _, fun x hx => by have := HS.out.2 x hx; omega⟩
  case round =>
    clear HS
    obtain ⟨j, hj, rfl, a0, n0, c0, rfl, HI⟩ := hrel
    obtain ⟨S, hSl, hn0, hc0, hgS, hga, hSn, hSd⟩ := HI.out
    clear HI
    by_cases hlt : j < M
    · have hjT : j < T.length := by have := HM.out; omega
      obtain ⟨x, hx⟩ : ∃ x, T[j]? = some x := ⟨_, List.getElem?_eq_getElem hjT⟩
      have hxm : x ∈ T := List.mem_of_getElem? hx
      obtain ⟨hpr, hpd⟩ := HH.out.2.2.2.1.now HH.out.2.1 HO0.out hga
      obtain ⟨bt, rfl, hbt, hcell⟩ := hpr.cell j x hx
      have hpx := hpd x hxm
      have htk : T.take (j + 1) = T.take j ++ [x] := by rw [List.take_add_one, hx]; rfl
      obtain ⟨l', hl', hrest⟩ : ∃ l', gath1 (S.map Sm.s) x.q = some l' ∧ gath (S0.map Sm.s) ((T.take (j + 1)).map Pm.q) = some l' := by
        have e1 : T.map Pm.q = (T.take (j + 1)).map Pm.q ++ (T.drop (j + 1)).map Pm.q := by rw [← List.map_append, List.take_append_drop]
        have h1 := HH.out.2.2.2.2.2.2
        rw [e1] at h1
        obtain ⟨m, hm1, _⟩ := gath_split _ _ h1
        have h2 := hm1
        rw [htk, List.map_append] at h2
        simp only [List.map_cons, List.map_nil] at h2
        rw [gath_snoc _ _ _ _ hgS] at h2
        exact ⟨m, h2, hm1⟩
      obtain ⟨l2, y0, he1, hf1, hk1, hs1, hno, hl2⟩ := gath1_cases hl'
      obtain ⟨kd, hkd⟩ : ∃ kd, strOfNums x.q.kind = kd := ⟨_, rfl⟩
      obtain ⟨sz, hsz⟩ : ∃ sz, x.q.size = sz := ⟨_, rfl⟩
      obtain ⟨PN, hPN⟩ : ∃ PN, x.q.data.length = PN := ⟨_, rfl⟩
      obtain ⟨en, hen⟩ : ∃ en, x.q.en = en := ⟨_, rfl⟩
      obtain ⟨pa, hpa⟩ : ∃ pa, x.a = pa := ⟨_, rfl⟩
      obtain ⟨pc, hpc⟩ : ∃ pc, x.c = pc := ⟨_, rfl⟩
      have p0 : wr.cell? ⟨bt, j * 5, none⟩ = some (.string kd) := by rw [← hkd]; exact hcell 0 (by omega)
      have p1 : wr.cell? ⟨bt, j * 5 + 1, none⟩ = some (.int .i64 sz) := by rw [← hsz]; exact hcell 1 (by omega)
      have p2 : wr.cell? ⟨bt, j * 5 + 2, none⟩ = some (.slice pa PN pc) := by rw [← hpa, ← hPN, ← hpc]; exact hcell 2 (by omega)
      have p4 : wr.cell? ⟨bt, j * 5 + 4, none⟩ = some (.bool en) := by rw [← hen]; exact hcell 4 (by omega)
      have p3 : wr.cell? ⟨bt, j * 5 + 3, none⟩ = some (.bool x.q.bg) := hcell 3 (by omega)
      have hPN6 : PN ≤ 1000000 := by rw [← hPN]; exact HH.out.2.2.2.2.2.1 x hxm
      cases hbg : x.q.bg with
      | false =>
        obtain ⟨wv, hwv⟩ : ∃ wv, wr.alloc (.cells #[.string kd, .int .i64 sz, .slice pa PN pc, .bool false, .bool en] 53) = wv := ⟨_, rfl⟩
        have hbv : Below wr.heap.size wr wv := by rw [← hwv]; exact (Below.refl _ _).alloc (Nat.le_refl _) _
        have hVV : wv.heap[wr.heap.size]? = some (.cells #[.string kd, .int .i64 sz, .slice pa PN pc, .bool false, .bool en] 53 (0, 0)) := by rw [← hwv]; exact heap_alloc_new _ _
        have hgv := hga.quiet hbv HH.out.2.2.1
        have hpv : Sl wv 5 (.slice pa PN pc) (dblk pa) (vals x.q.data) := by rw [← hpa, ← hPN, ← hpc]; exact hpx.same fun k hk => hbv.block k (hpx.lt hk)
        rw [hbg] at p3 he1 hno
        obtain ⟨S2, y, rfl⟩ : ∃ S2 y, S = S2 ++ [y] := by
          simp only [Bool.false_eq_true, if_false] at he1
          have : S ≠ [] := by rintro rfl; simp at he1
          exact ⟨S.dropLast, S.getLast this, (List.dropLast_concat_getLast this).symm⟩
        simp only [Bool.false_eq_true, if_false, List.map_append, List.map_cons, List.map_nil] at he1
        obtain ⟨hmapS, hy0⟩ := List.append_inj' he1 rfl
        simp only [List.cons.injEq, and_true] at hy0
        obtain ⟨N1, hN1⟩ : ∃ N1, S2.length = N1 := ⟨_, rfl⟩
        have hn1 : n0 = N1 + 1 := by rw [← hSl, List.length_append, hN1]; rfl
        have hyk : y.s.kind = x.q.kind := by rw [hy0]; exact hk1
        have hys : y.s.size = x.q.size := by rw [hy0]; exact hs1
        have hyd : y.s.data = y0.data := by rw [hy0]
        have hyfin : y.s.fin = false := by rw [hy0]; exact hf1
        have hYd : y.s.data.length ≤ 1000000000 + j * 1000000 := hSd y (by simp)
        have hgz := hgv
        have hVz := hVV
        have hpz := hpv
        have hSlen : n0 ≤ S0.length + (j + 1) := by omega
        have hSdz := hSd
        have hcz : n0 ≤ c0 ∧ c0 ≤ maxLen := ⟨hn0, hc0⟩
        rw [← hSl] at hgz
        clear hgv hVV hpv hy0
        obtain ⟨g, rfl, hyc, hyf⟩ : ∃ g, a0 = some ⟨g, 0, none⟩ ∧ (∀ q, q < 4 → wv.cell? ⟨g, S2.length * 4 + q, none⟩ = y.enc[q]?) ∧ (∀ q, wv.frozen? ⟨g, q, none⟩ = false) := by
          obtain ⟨g, e, _, h1, h2⟩ := hgz.row.cell S2.length y (by simp)
          exact ⟨g, e, h1, h2⟩
        obtain ⟨hy1, hy2⟩ := hgz.mem.1 y (by simp)
        obtain ⟨YN, hYN⟩ : ∃ YN, y.s.data.length = YN := ⟨_, rfl⟩
        obtain ⟨ya, hya⟩ : ∃ ya, y.a = ya := ⟨_, rfl⟩
        obtain ⟨yc, hyc'⟩ : ∃ yc, y.c = yc := ⟨_, rfl⟩
        rw [hN1] at hyc
        have q0 : wv.cell? ⟨g, N1 * 4, none⟩ = some (.string kd) := by rw [← hkd, ← hyk]; exact hyc 0 (by omega)
        have q1 : wv.cell? ⟨g, N1 * 4 + 1, none⟩ = some (.int .i64 sz) := by rw [← hsz, ← hys]; exact hyc 1 (by omega)
        have q2 : wv.cell? ⟨g, N1 * 4 + 2, none⟩ = some (.slice ya YN yc) := by rw [← hya, ← hYN, ← hyc']; exact hyc 2 (by omega)
        have q3 : wv.cell? ⟨g, N1 * 4 + 3, none⟩ = some (.bool false) := by
          have := hyc 3 (by omega)
          rw [this]
          show some (Value.bool y.s.fin) = _
          rw [hyfin]
        have v0 : wv.cell? ⟨wr.heap.size, 0, none⟩ = some (.string kd) := by simp [World.cell?, hVz]
        have v1 : wv.cell? ⟨wr.heap.size, 1, none⟩ = some (.int .i64 sz) := by simp [World.cell?, hVz]
        have v2 : wv.cell? ⟨wr.heap.size, 2, none⟩ = some (.slice pa PN pc) := by simp [World.cell?, hVz]
        have v3 : wv.cell? ⟨wr.heap.size, 3, none⟩ = some (.bool false) := by simp [World.cell?, hVz]
        have v4 : wv.cell? ⟨wr.heap.size, 4, none⟩ = some (.bool en) := by simp [World.cell?, hVz]
        have HSl : Hid (Sl wv 5 (.slice ya YN yc) (dblk y.a) (vals y.s.data) ∧ Row wv pa x.q.data ∧ (pa = none → pc = 0) ∧ x.q.data.length = PN ∧ y.s.data.length = YN) := by
          obtain ⟨a9, c9, hv9, _, _, hn9⟩ := hpz.shape
          simp only [Value.slice.injEq] at hv9
          refine ⟨by rw [← hya, ← hYN, ← hyc']; exact hy1, hpz.row rfl, by rw [hv9.1, hv9.2.2]; exact hn9, hPN, hYN⟩
        have hYb : YN ≤ 1000000000 + j * 1000000 := by rw [← hYN]; exact hYd
        have HFin : Hid (∀ w7 a7 c7 g7, Sl w7 5 (.slice a7 (YN + PN) c7) g7 (vals (y.s.data ++ x.q.data)) → (g7 = dblk y.a ∨ ∃ k, g7 = some k ∧ wv.heap.size ≤ k) → wv.grownBy w7 (dblk y.a) → (w7.cell? ⟨g, N1 * 4 + 2, none⟩ = some (.slice ya YN yc) ∧ w7.cell? ⟨g, N1 * 4 + 3, none⟩ = some (.bool false) ∧ (∀ q, w7.frozen? ⟨g, q, none⟩ = false) ∧ w7.cell? ⟨wr.heap.size, 4, none⟩ = some (.bool en) ∧ w7.cell? ⟨wr.heap.size, 2, none⟩ = some (.slice pa PN pc) ∧ (∀ u, (w7.setCell ⟨g, N1 * 4 + 2, none⟩ u).cell? ⟨wr.heap.size, 4, none⟩ = some (.bool en)) ∧ (∀ u, (w7.setCell ⟨g, N1 * 4 + 2, none⟩ u).cell? ⟨g, N1 * 4 + 3, none⟩ = some (.bool false)) ∧ (∀ u q, (w7.setCell ⟨g, N1 * 4 + 2, none⟩ u).frozen? ⟨g, q, none⟩ = false)) ∧ ∀ w8, w8 = (w7.setCell ⟨g, N1 * 4 + 2, none⟩ (.slice a7 (YN + PN) c7)).setCell ⟨g, N1 * 4 + 3, none⟩ (.bool en) → ∃ S', S'.length = n0 ∧ gath (S0.map Sm.s) ((T.take (j + 1)).map Pm.q) = some (S'.map Sm.s) ∧ GaI B w o0 S0 S' (.slice (some ⟨g, 0, none⟩) n0 c0) w8 ∧ S'.length ≤ S0.length + (j + 1) ∧ ∀ x ∈ S', x.s.data.length ≤ 1000000000 + (j + 1) * 1000000) := by
          intro w7 a7 c7 g7 hs7 hg7 hgr7
          have hlen7 : (y.s.data ++ x.q.data).length = YN + PN := by rw [List.length_append, hYN, hPN]
          rw [← hlen7] at hs7 ⊢
          obtain ⟨_, hr2, cc0, hr3⟩ := hgz.row.blk g rfl
          have ngy : some g ≠ dblk y.a := by
            intro e
            obtain ⟨c, hc⟩ := hy1.tagB g e.symm
            rw [hr3] at hc
            simp at hc
          have nVy : some wr.heap.size ≠ dblk y.a := by
            intro e
            obtain ⟨c, hc⟩ := hy1.tagB _ e.symm
            rw [hVz] at hc
            simp at hc
          have nVg : wr.heap.size ≠ g := by
            intro e
            rw [e] at hVz
            rw [hVz] at hr3
            simp at hr3
          have eg := hgr7.block g hr2 ngy
          have eV := hgr7.block wr.heap.size (lt_of_block hVz) nVy
          refine ⟨⟨(World.cell?_of_block (a := ⟨g, N1 * 4 + 2, none⟩) eg).trans q2, (World.cell?_of_block (a := ⟨g, N1 * 4 + 3, none⟩) eg).trans q3, fun q => by rw [World.frozen?_of_block (a := ⟨g, q, none⟩) eg]; exact hyf q, (World.cell?_of_block (a := ⟨wr.heap.size, 4, none⟩) eV).trans v4, (World.cell?_of_block (a := ⟨wr.heap.size, 2, none⟩) eV).trans v2, fun u => (World.cell?_of_block (a := ⟨wr.heap.size, 4, none⟩) (Below.heap_setCell _ _ _ _ nVg)).trans ((World.cell?_of_block (a := ⟨wr.heap.size, 4, none⟩) eV).trans v4), fun u => (setCell_off w7 g (N1 * 4 + 2) (N1 * 4 + 3) u (by omega)).trans ((World.cell?_of_block (a := ⟨g, N1 * 4 + 3, none⟩) eg).trans q3), fun u q => by rw [World.frozen?_setCell]; rw [World.frozen?_of_block (a := ⟨g, q, none⟩) eg]; exact hyf q⟩, ?_⟩
          rintro w8 rfl
          have hmore := hgz.more (y := y) (S2 := S2) HH.out.2.2.1 (fin := en) (s' := ⟨y.s.kind, y.s.size, y.s.data ++ x.q.data, en⟩) hs7 hg7 hgr7 rfl
          have hl9 : ∀ z : Sm, (S2 ++ [z]).length = n0 := by intro z; rw [List.length_append, hN1, hn1]; rfl
          rw [hN1, hl9] at hmore
          refine ⟨_, hl9 _, ?_, hmore, ?_, ?_⟩
          · rw [hrest, hl2, ← hmapS]
            simp [hyk, hys, hyd, hen]
          · rw [hl9]; exact hSlen
          · intro z hz
            rcases List.mem_append.1 hz with hz | hz
            · exact Nat.le_trans (hSdz z (List.mem_append_left _ hz)) (Nat.add_le_add_left (Nat.mul_le_mul_right _ (Nat.le_succ j)) _)
            · obtain rfl := List.mem_singleton.1 hz
              show (y.s.data ++ x.q.data).length ≤ _
              rw [hlen7, Nat.succ_mul]; omega
        have hYi : (0 : Int) < ((n0 : Nat) : Int) := by omega
        have hNi : ((n0 : Nat) : Int) - 1 = (N1 : Int) := by omega
        have hNl : (N1 : Int) < ((n0 : Nat) : Int) := by omega
        have hnb : ((n0 : Nat) : Int) ≤ 3000000 := by have := HH.out.2.2.2.2.1; have := HM.out; omega
        have hN0 : (0 : Int) ≤ (N1 : Int) := by omega
        have hYb2 : YN ≤ 2000000000000 := by have := HM.out; omega
        have HNo : Hid (false = false → en = false → ¬ (PN : Int) = 0) := by
          intro h1 h2 h3
          apply hno
          refine ⟨h1, by rw [hen]; exact h2, List.length_eq_zero_iff.1 (by rw [hPN]; omega)⟩
        have HC : Hid (n0 ≤ c0 ∧ c0 ≤ maxLen) := hcz
        have HN9 : Hid (n0 = N1 + 1) := hn1
        have HLT : Hid (j < M) := hlt
        clear hyc hy1 hy2 hgz hVz hpz hcell hpx hpd hpr hgS hga hSd hl' hrest he1 hl2 hno hyfin hyk hys hyd hmapS hSlen hSdz hYd hkd hsz hen hpa hpc hPN hYN hya hyc' hN1 hcz hxm hx htk hf1 hk1 hs1 hSl
        go_wp2
        cases en with
        | true =>
          go_region
          go_wp2
          go_region_law (first
            | (refine step_more rfl _ _ rfl (.slice ya YN yc) (dblk y.a) y.s.data rfl (HSl.out.1.same fun _ _ => rfl) pa PN pc x.q.data rfl HSl.out.2.2.1 HSl.out.2.2.2.1 (HSl.out.2.1.same fun _ _ _ => rfl) (by rw [HSl.out.2.2.2.2]; omega) ?_; intro v7 w7 g7 hs7 hg7 hgr7; obtain ⟨a7, c7, hv7, -⟩ := hs7.shape; rw [vals_len, List.length_append, HSl.out.2.2.2.2, HSl.out.2.2.2.1] at hv7; subst hv7; obtain ⟨⟨z2, z3, zf, zv4, zv2, zs4, zs3, zsf⟩, hfin⟩ := HFin.out w7 a7 c7 g7 hs7 hg7 ⟨hgr7.os, hgr7.tape, hgr7.output, hgr7.size, hgr7.block⟩; have HFF : Hid _ := hfin _ rfl; clear hs7 hg7 hgr7 hfin)
            | fail)
          all_goals
            go_wp2
            go_roundw
            case rel =>
              obtain ⟨S', e1, e2, e3, e4, e5⟩ := HFF.out
              have e6 := HC.out
              rw [HN9.out] at e1 e3 e6
              exact ⟨j + 1, HLT.out, by go_num, _, _, _, rfl, S', e1, e6.1, e6.2, e2, e3, e4, e5⟩
            case measure => have := HLT.out; simp [intOf]; omega
        | false =>
          have hPN0 : ¬ (PN : Int) = 0 := by have := HNo.out; simp at this; simpa using this
          go_region
          go_wp2
          go_region_law (first
            | (refine step_more rfl _ _ rfl (.slice ya YN yc) (dblk y.a) y.s.data rfl (HSl.out.1.same fun _ _ => rfl) pa PN pc x.q.data rfl HSl.out.2.2.1 HSl.out.2.2.2.1 (HSl.out.2.1.same fun _ _ _ => rfl) (by rw [HSl.out.2.2.2.2]; omega) ?_; intro v7 w7 g7 hs7 hg7 hgr7; obtain ⟨a7, c7, hv7, -⟩ := hs7.shape; rw [vals_len, List.length_append, HSl.out.2.2.2.2, HSl.out.2.2.2.1] at hv7; subst hv7; obtain ⟨⟨z2, z3, zf, zv4, zv2, zs4, zs3, zsf⟩, hfin⟩ := HFin.out w7 a7 c7 g7 hs7 hg7 ⟨hgr7.os, hgr7.tape, hgr7.output, hgr7.size, hgr7.block⟩; have HFF : Hid _ := hfin _ rfl; clear hs7 hg7 hgr7 hfin)
            | fail)
          all_goals
            go_wp2
            go_roundw
            case rel =>
              obtain ⟨S', e1, e2, e3, e4, e5⟩ := HFF.out
              have e6 := HC.out
              rw [HN9.out] at e1 e3 e6
              exact ⟨j + 1, HLT.out, by go_num, _, _, _, rfl, S', e1, e6.1, e6.2, e2, e3, e4, e5⟩
            case measure => have := HLT.out; simp [intOf]; omega
      | true =>
        obtain ⟨wv, hwv⟩ : ∃ wv, wr.alloc (.cells #[.string kd, .int .i64 sz, .slice pa PN pc, .bool true, .bool en] 53) = wv := ⟨_, rfl⟩
        have hbv : Below wr.heap.size wr wv := by rw [← hwv]; exact (Below.refl _ _).alloc (Nat.le_refl _) _
        have hVV : wv.heap[wr.heap.size]? = some (.cells #[.string kd, .int .i64 sz, .slice pa PN pc, .bool true, .bool en] 53 (0, 0)) := by rw [← hwv]; exact heap_alloc_new _ _
        have hgv := hga.quiet hbv HH.out.2.2.1
        have hpv : Sl wv 5 (.slice pa PN pc) (dblk pa) (vals x.q.data) := by rw [← hpa, ← hPN, ← hpc]; exact hpx.same fun k hk => hbv.block k (hpx.lt hk)
        rw [hbg] at p3 he1 hno
        have t0 : wv.cell? ⟨wr.heap.size, 0, none⟩ = some (.string kd) := by simp [World.cell?, hVV]
        have t1 : wv.cell? ⟨wr.heap.size, 1, none⟩ = some (.int .i64 sz) := by simp [World.cell?, hVV]
        have t3 : wv.cell? ⟨wr.heap.size, 3, none⟩ = some (.bool true) := by simp [World.cell?, hVV]
        have HT : Hid (GaI B w o0 S0 S (.slice a0 n0 c0) wv ∧ wv.heap[wr.heap.size]? = some (.cells #[.string kd, .int .i64 sz, .slice pa PN pc, .bool true, .bool en] 53 (0, 0)) ∧ Sl wv 5 (.slice pa PN pc) (dblk pa) (vals x.q.data) ∧ S.length = n0 ∧ B ≤ wv.heap.size) := ⟨hgv, hVV, hpv, hSl, Nat.le_trans HH.out.2.2.1 hgv.be.size⟩
        have HEn : Hid ((⟨⟨x.q.kind, x.q.size, [], false⟩, none, 0⟩ : Sm).enc = [.string kd, .int .i64 sz, .slice none 0 0, .bool false]) := by
          show _ = _
          rw [← hkd, ← hsz]
          rfl
        have HZZ : Hid (gath1 (S.map Sm.s) x.q = some l' ∧ gath (S0.map Sm.s) ((T.take (j + 1)).map Pm.q) = some l' ∧ (∀ x ∈ S, x.s.data.length ≤ 1000000000 + j * 1000000) ∧ S.length ≤ S0.length + j ∧ strOfNums x.q.kind = kd ∧ x.q.size = sz ∧ x.q.data.length = PN ∧ x.q.en = en ∧ x.q.bg = true) := ⟨hl', hrest, hSd, hSn, hkd, hsz, hPN, hen, hbg⟩
        have hn0b : n0 ≤ 2000000 := by have := HH.out.2.2.2.2.1; omega
        clear hgv hVV hpv hcell hpx hpd hpr hgS hga hSd hl' hrest he1 hl2 hno hkd hsz hen hpa hpc hPN hxm hx htk hf1 hk1 hs1 hSl hbg hSn hn0 hc0 hbv
        go_wp2_with (at_builtin; refine wpList_push_seen2 rfl _ _ rfl B (.slice a0 n0 c0) S ⟨⟨x.q.kind, x.q.size, [], false⟩, none, 0⟩ rfl (HT.out.1.row.same fun q hq => ((Below.refl wv.heap.size wv).alloc (Nat.le_refl _) _).block q (HT.out.1.row.blk q hq).2.1) ⟨wv.heap.size, 0, none⟩ 1 rfl (by intro q u hq; rw [Addr.add_lit, World.cell?_alloc_mark, Nat.zero_add]; rw [HEn.out] at hq; simpa using hq) (by rw [HT.out.2.2.2.1]; omega) (by have := HT.out.2.2.2.2; simp; omega) ?_; intro v1 w2 hrow2 hg2 hv2; obtain ⟨a1, c1, hv1, hl1, hm1, -⟩ := hrow2.shape; rw [List.length_append, HT.out.2.2.2.1] at hv1 hl1; subst hv1; obtain ⟨g, hga1, -, -, -⟩ := hrow2.cell S.length ⟨⟨x.q.kind, x.q.size, [], false⟩, none, 0⟩ (by simp); subst hga1)
        have hsz2 : (wv.alloc (.cells #[.string kd, .int .i64 sz, .slice none 0 0, .bool false] 46)).heap.size = wv.heap.size + 1 := by simp
        have hbA : Below wv.heap.size wv (wv.alloc (.cells #[.string kd, .int .i64 sz, .slice none 0 0, .bool false] 46)) := (Below.refl _ _).alloc (Nat.le_refl _) _
        obtain ⟨y, hydef⟩ : ∃ y : Sm, y = ⟨⟨x.q.kind, x.q.size, [], false⟩, none, 0⟩ := ⟨_, rfl⟩
        have hgz : GaI B w o0 S0 (S ++ [y]) (.slice (some ⟨g, 0, none⟩) (S ++ [y]).length c1) w2 := by
          rw [hydef]
          have h1 := (HT.out.1.quiet hbA HH.out.2.2.1).push HH.out.2.2.1 (s := ⟨x.q.kind, x.q.size, [], false⟩) rfl hrow2 hg2 hv2
          rw [List.length_append, HT.out.2.2.2.1]
          exact h1
        have nown : ∀ (k : Nat) (c : Array Value) (t : TypeId), t ≠ 46 → wv.heap[k]? = some (.cells c t (0, 0)) → (Value.slice a0 n0 c0).ownBlock ≠ some k := by
          intro k c t ht hc e
          obtain ⟨_, _, c2, h2⟩ := HT.out.1.row.blk k e
          rw [hc] at h2
          simp only [Option.some.injEq, Obj.cells.injEq] at h2
          exact ht h2.2.1
        have keep2 : ∀ (k : Nat) (c : Array Value) (t : TypeId), t ≠ 46 → wv.heap[k]? = some (.cells c t (0, 0)) → w2.heap[k]? = wv.heap[k]? := by
          intro k c t ht hc
          have hk := lt_of_block hc
          exact (hg2.block k (by omega) (fun e => nown k c t ht hc e.symm)).trans (hbA.block k hk)
        have hVz : w2.heap[wr.heap.size]? = some (.cells #[.string kd, .int .i64 sz, .slice pa PN pc, .bool true, .bool en] 53 (0, 0)) := (keep2 _ _ _ (by decide) HT.out.2.1).trans HT.out.2.1
        have hpz : Sl w2 5 (.slice pa PN pc) (dblk pa) (vals x.q.data) := HT.out.2.2.1.same fun k hk => by
          obtain ⟨c, hc⟩ := HT.out.2.2.1.tagB k hk
          exact keep2 k c 5 (by decide) hc
        obtain ⟨hl', hrest, hSd, hSn, hkd, hsz, hPN, hen, hbg⟩ := HZZ.out
        obtain ⟨l2, y0, he1, hf1, hk1, hs1, hno, hl2⟩ := gath1_cases hl'
        rw [hbg] at he1
        simp only [if_true] at he1
        obtain ⟨hmapS, hy0⟩ := List.append_inj' he1 rfl
        simp only [List.cons.injEq, and_true] at hy0
        have hyk : y.s.kind = x.q.kind := by rw [hydef]
        have hys : y.s.size = x.q.size := by rw [hydef]
        have hyd : y.s.data = y0.data := by rw [hydef, ← hy0]
        have hyfin : y.s.fin = false := by rw [hydef]
        have hYd : y.s.data.length ≤ 1000000000 + j * 1000000 := by rw [hydef]; show 0 ≤ _; omega
        have hSl := HT.out.2.2.2.1
        have hn0 := hSl
        have hn1 : n0 + 1 = n0 + 1 := rfl
        have hSlen : n0 + 1 ≤ S0.length + (j + 1) := by omega
        have hSdz : ∀ z ∈ S ++ [y], z.s.data.length ≤ 1000000000 + j * 1000000 := by
          intro z hz
          rcases List.mem_append.1 hz with hz | hz
          · exact hSd z hz
          · obtain rfl := List.mem_singleton.1 hz
            exact hYd
        have hcz : n0 + 1 ≤ c1 ∧ c1 ≤ maxLen := ⟨hl1, hm1⟩
        obtain ⟨g', eg', _, hyc, hyf⟩ := hgz.row.cell S.length y (by simp)
        simp only [Option.some.injEq, Addr.mk.injEq, and_true] at eg'
        subst eg'
        clear hbA hy0 hydef hrow2 hg2 nown keep2 hsz2
        obtain ⟨hy1, hy2⟩ := hgz.mem.1 y (by simp)
        obtain ⟨YN, hYN⟩ : ∃ YN, y.s.data.length = YN := ⟨_, rfl⟩
        obtain ⟨ya, hya⟩ : ∃ ya, y.a = ya := ⟨_, rfl⟩
        obtain ⟨yc, hyc'⟩ : ∃ yc, y.c = yc := ⟨_, rfl⟩
        rw [hn0] at hyc
        have q0 : w2.cell? ⟨g, n0 * 4, none⟩ = some (.string kd) := by rw [← hkd, ← hyk]; exact hyc 0 (by omega)
        have q1 : w2.cell? ⟨g, n0 * 4 + 1, none⟩ = some (.int .i64 sz) := by rw [← hsz, ← hys]; exact hyc 1 (by omega)
        have q2 : w2.cell? ⟨g, n0 * 4 + 2, none⟩ = some (.slice ya YN yc) := by rw [← hya, ← hYN, ← hyc']; exact hyc 2 (by omega)
        have q3 : w2.cell? ⟨g, n0 * 4 + 3, none⟩ = some (.bool false) := by
          have := hyc 3 (by omega)
          rw [this]
          show some (Value.bool y.s.fin) = _
          rw [hyfin]
        have v0 : w2.cell? ⟨wr.heap.size, 0, none⟩ = some (.string kd) := by simp [World.cell?, hVz]
        have v1 : w2.cell? ⟨wr.heap.size, 1, none⟩ = some (.int .i64 sz) := by simp [World.cell?, hVz]
        have v2 : w2.cell? ⟨wr.heap.size, 2, none⟩ = some (.slice pa PN pc) := by simp [World.cell?, hVz]
        have v3 : w2.cell? ⟨wr.heap.size, 3, none⟩ = some (.bool true) := by simp [World.cell?, hVz]
        have v4 : w2.cell? ⟨wr.heap.size, 4, none⟩ = some (.bool en) := by simp [World.cell?, hVz]
        have HSl : Hid (Sl w2 5 (.slice ya YN yc) (dblk y.a) (vals y.s.data) ∧ Row w2 pa x.q.data ∧ (pa = none → pc = 0) ∧ x.q.data.length = PN ∧ y.s.data.length = YN) := by
          obtain ⟨a9, c9, hv9, _, _, hn9⟩ := hpz.shape
          simp only [Value.slice.injEq] at hv9
          refine ⟨by rw [← hya, ← hYN, ← hyc']; exact hy1, hpz.row rfl, by rw [hv9.1, hv9.2.2]; exact hn9, hPN, hYN⟩
        have hYb : YN ≤ 1000000000 + j * 1000000 := by rw [← hYN]; exact hYd
        have HFin : Hid (∀ w7 a7 c7 g7, Sl w7 5 (.slice a7 (YN + PN) c7) g7 (vals (y.s.data ++ x.q.data)) → (g7 = dblk y.a ∨ ∃ k, g7 = some k ∧ w2.heap.size ≤ k) → w2.grownBy w7 (dblk y.a) → (w7.cell? ⟨g, n0 * 4 + 2, none⟩ = some (.slice ya YN yc) ∧ w7.cell? ⟨g, n0 * 4 + 3, none⟩ = some (.bool false) ∧ (∀ q, w7.frozen? ⟨g, q, none⟩ = false) ∧ w7.cell? ⟨wr.heap.size, 4, none⟩ = some (.bool en) ∧ w7.cell? ⟨wr.heap.size, 2, none⟩ = some (.slice pa PN pc) ∧ (∀ u, (w7.setCell ⟨g, n0 * 4 + 2, none⟩ u).cell? ⟨wr.heap.size, 4, none⟩ = some (.bool en)) ∧ (∀ u, (w7.setCell ⟨g, n0 * 4 + 2, none⟩ u).cell? ⟨g, n0 * 4 + 3, none⟩ = some (.bool false)) ∧ (∀ u q, (w7.setCell ⟨g, n0 * 4 + 2, none⟩ u).frozen? ⟨g, q, none⟩ = false)) ∧ ∀ w8, w8 = (w7.setCell ⟨g, n0 * 4 + 2, none⟩ (.slice a7 (YN + PN) c7)).setCell ⟨g, n0 * 4 + 3, none⟩ (.bool en) → ∃ S', S'.length = (n0 + 1) ∧ gath (S0.map Sm.s) ((T.take (j + 1)).map Pm.q) = some (S'.map Sm.s) ∧ GaI B w o0 S0 S' (.slice (some ⟨g, 0, none⟩) (n0 + 1) c1) w8 ∧ S'.length ≤ S0.length + (j + 1) ∧ ∀ x ∈ S', x.s.data.length ≤ 1000000000 + (j + 1) * 1000000) := by
          intro w7 a7 c7 g7 hs7 hg7 hgr7
          have hlen7 : (y.s.data ++ x.q.data).length = YN + PN := by rw [List.length_append, hYN, hPN]
          rw [← hlen7] at hs7 ⊢
          obtain ⟨_, hr2, cc0, hr3⟩ := hgz.row.blk g rfl
          have ngy : some g ≠ dblk y.a := by
            intro e
            obtain ⟨c, hc⟩ := hy1.tagB g e.symm
            rw [hr3] at hc
            simp at hc
          have nVy : some wr.heap.size ≠ dblk y.a := by
            intro e
            obtain ⟨c, hc⟩ := hy1.tagB _ e.symm
            rw [hVz] at hc
            simp at hc
          have nVg : wr.heap.size ≠ g := by
            intro e
            rw [e] at hVz
            rw [hVz] at hr3
            simp at hr3
          have eg := hgr7.block g hr2 ngy
          have eV := hgr7.block wr.heap.size (lt_of_block hVz) nVy
          refine ⟨⟨(World.cell?_of_block (a := ⟨g, n0 * 4 + 2, none⟩) eg).trans q2, (World.cell?_of_block (a := ⟨g, n0 * 4 + 3, none⟩) eg).trans q3, fun q => by rw [World.frozen?_of_block (a := ⟨g, q, none⟩) eg]; exact hyf q, (World.cell?_of_block (a := ⟨wr.heap.size, 4, none⟩) eV).trans v4, (World.cell?_of_block (a := ⟨wr.heap.size, 2, none⟩) eV).trans v2, fun u => (World.cell?_of_block (a := ⟨wr.heap.size, 4, none⟩) (Below.heap_setCell _ _ _ _ nVg)).trans ((World.cell?_of_block (a := ⟨wr.heap.size, 4, none⟩) eV).trans v4), fun u => (setCell_off w7 g (n0 * 4 + 2) (n0 * 4 + 3) u (by omega)).trans ((World.cell?_of_block (a := ⟨g, n0 * 4 + 3, none⟩) eg).trans q3), fun u q => by rw [World.frozen?_setCell]; rw [World.frozen?_of_block (a := ⟨g, q, none⟩) eg]; exact hyf q⟩, ?_⟩
          rintro w8 rfl
          have hmore := hgz.more (y := y) (S2 := S) HH.out.2.2.1 (fin := en) (s' := ⟨y.s.kind, y.s.size, y.s.data ++ x.q.data, en⟩) hs7 hg7 hgr7 rfl
          have hl9 : ∀ z : Sm, (S ++ [z]).length = (n0 + 1) := by intro z; rw [List.length_append, hn0, hn1]; rfl
          rw [hn0, hl9] at hmore
          refine ⟨_, hl9 _, ?_, hmore, ?_, ?_⟩
          · rw [hrest, hl2, ← hmapS]
            simp [hyk, hys, hyd, hen]
          · rw [hl9]; exact hSlen
          · intro z hz
            rcases List.mem_append.1 hz with hz | hz
            · exact Nat.le_trans (hSdz z (List.mem_append_left _ hz)) (Nat.add_le_add_left (Nat.mul_le_mul_right _ (Nat.le_succ j)) _)
            · obtain rfl := List.mem_singleton.1 hz
              show (y.s.data ++ x.q.data).length ≤ _
              rw [hlen7, Nat.succ_mul]; omega
        have hYi : (0 : Int) < (((n0 + 1) : Nat) : Int) := by omega
        have hNi : (((n0 + 1) : Nat) : Int) - 1 = (n0 : Int) := by omega
        have hNl : (n0 : Int) < (((n0 + 1) : Nat) : Int) := by omega
        have hnb : (((n0 + 1) : Nat) : Int) ≤ 3000000 := by have := HH.out.2.2.2.2.1; have := HM.out; omega
        have hN0 : (0 : Int) ≤ (n0 : Int) := by omega
        have hYb2 : YN ≤ 2000000000000 := by have := HM.out; omega
        have HC : Hid ((n0 + 1) ≤ c1 ∧ c1 ≤ maxLen) := hcz
        have HLT : Hid (j < M) := hlt
        clear hyc hy1 hy2 hgz hVz hpz hSd hl' hrest he1 hl2 hno hyfin hyk hys hyd hmapS hSlen hSdz hYd hkd hsz hen hPN hYN hya hyc' hn0 hcz hf1 hk1 hs1 hSl hbg hSn hn1 hl1 hm1 HZZ HT HEn t0 t1 t3
        cases en with
        | true =>
          go_region
          go_wp2
          go_region_law (first
            | (refine step_more rfl _ _ rfl (.slice ya YN yc) (dblk y.a) y.s.data rfl (HSl.out.1.same fun _ _ => rfl) pa PN pc x.q.data rfl HSl.out.2.2.1 HSl.out.2.2.2.1 (HSl.out.2.1.same fun _ _ _ => rfl) (by rw [HSl.out.2.2.2.2]; omega) ?_; intro v7 w7 g7 hs7 hg7 hgr7; obtain ⟨a7, c7, hv7, -⟩ := hs7.shape; rw [vals_len, List.length_append, HSl.out.2.2.2.2, HSl.out.2.2.2.1] at hv7; subst hv7; obtain ⟨⟨z2, z3, zf, zv4, zv2, zs4, zs3, zsf⟩, hfin⟩ := HFin.out w7 a7 c7 g7 hs7 hg7 ⟨hgr7.os, hgr7.tape, hgr7.output, hgr7.size, hgr7.block⟩; have HFF : Hid _ := hfin _ rfl; clear hs7 hg7 hgr7 hfin)
            | fail)
          all_goals
            go_wp2
            go_roundw
            case rel =>
              obtain ⟨S', e1, e2, e3, e4, e5⟩ := HFF.out
              have e6 := HC.out
              exact ⟨j + 1, HLT.out, by go_num, _, _, _, rfl, S', e1, e6.1, e6.2, e2, e3, e4, e5⟩
            case measure => have := HLT.out; simp [intOf]; omega
        | false =>
          go_region
          go_wp2
          go_region_law (first
            | (refine step_more rfl _ _ rfl (.slice ya YN yc) (dblk y.a) y.s.data rfl (HSl.out.1.same fun _ _ => rfl) pa PN pc x.q.data rfl HSl.out.2.2.1 HSl.out.2.2.2.1 (HSl.out.2.1.same fun _ _ _ => rfl) (by rw [HSl.out.2.2.2.2]; omega) ?_; intro v7 w7 g7 hs7 hg7 hgr7; obtain ⟨a7, c7, hv7, -⟩ := hs7.shape; rw [vals_len, List.length_append, HSl.out.2.2.2.2, HSl.out.2.2.2.1] at hv7; subst hv7; obtain ⟨⟨z2, z3, zf, zv4, zv2, zs4, zs3, zsf⟩, hfin⟩ := HFin.out w7 a7 c7 g7 hs7 hg7 ⟨hgr7.os, hgr7.tape, hgr7.output, hgr7.size, hgr7.block⟩; have HFF : Hid _ := hfin _ rfl; clear hs7 hg7 hgr7 hfin)
            | fail)
          all_goals
            go_wp2
            go_roundw
            case rel =>
              obtain ⟨S', e1, e2, e3, e4, e5⟩ := HFF.out
              have e6 := HC.out
              exact ⟨j + 1, HLT.out, by go_num, _, _, _, rfl, S', e1, e6.1, e6.2, e2, e3, e4, e5⟩
            case measure => have := HLT.out; simp [intOf]; omega
    · obtain rfl : j = M := by omega
      have HPF : Hid (GtP B w o0 S0 G (.returned (.tuple #[.slice a0 n0 c0, .bool true])) wr) := by
        rw [List.take_of_length_le (by have := HM.out; omega)] at hgS
        have e := hgS.symm.trans HH.out.2.2.2.2.2.2
        simp only [Option.some.injEq] at e
        exact ⟨_, S, rfl, e, hga⟩
      clear hga hgS hSd
      go_wp2
      go_ret2
      exact HPF.out
end Go.Proofs.Ytoofpkcgiodfcaa
