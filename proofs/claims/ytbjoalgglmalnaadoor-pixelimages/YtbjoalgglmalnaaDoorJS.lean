/- All colours: the program's Image, walked. -/
import Derived.Test.YtbjoalgglmalnaaDoorJR
namespace Go.Proofs.YtbjoalgglmalnaaDoor
open Go.RowKit
attribute [local go_sem] Oper.semAt_some
def ImPost (u : World) (W H : Int) (N : Nat) (F : Nat → Int × Int × Int × Int) (e : Ending) (w' : World) : Prop :=
  ∃ a c, e = .returned (.tuple #[.agg #[.int .i64 W, .int .i64 H, .slice a N c], .int .i64 0]) ∧ w'.ownsRow u.heap.size 45 4 (.slice a N c) N (colL F N) ∧ Below u.heap.size u w'
theorem callFnX {f : FuncId} {fn : Func} (hf : Tryd.prog.funcs[f]? = some fn) (hn : (fn.name == "runtime.NumGoroutine") = false) (hb : fn.body.isNone = false) (args : Array Value) (w : World) : (callFunc f args).run Tryd.prog w = .ok (.enter f args) w := by
  have h1 : fn.name ≠ "runtime.NumGoroutine" := by simpa using hn
  have h2 : fn.body ≠ none := by intro e; rw [e] at hb; cases hb
  simp [callFunc, hf, h1, h2]
theorem new4 (w : World) (a b c d : Int) : ∀ (j : Nat) u, ([.int .u16 a, .int .u16 b, .int .u16 c, .int .u16 d] : List Value)[j]? = some u → (w.alloc (.cells #[.int .u16 a, .int .u16 b, .int .u16 c, .int .u16 d] 45)).cell? ((⟨w.heap.size, 0, none⟩ : Addr).add j) = some u := by
  intro j u hj
  match j, hj with
  | 0, hj => simp at hj; subst hj; exact World.cell?_alloc_mark ..
  | 1, hj => simp at hj; subst hj; exact World.cell?_alloc_mark ..
  | 2, hj => simp at hj; subst hj; exact World.cell?_alloc_mark ..
  | 3, hj => simp at hj; subst hj; exact World.cell?_alloc_mark ..
theorem one4 (F : Nat → Int × Int × Int × Int) (i : Nat) : ∀ u ∈ c4 F i, u.oneCell' = true := by
  intro u hu
  simp [c4] at hu
  rcases hu with rfl | rfl | rfl | rfl <;> rfl
/-- The image is begun. -/
def Im0 (w w2 : World) (W H : Int) (mb : Nat) (wx : World) : Prop := w.heap.size + 1 < mb ∧ (∃ v, wx.heap[mb]? = some (.cells #[.int .i64 W, .int .i64 H, v] 51 (0, 0)) ∧ wx.ownsRow w.heap.size 45 4 v 0 []) ∧ Below w2.heap.size w2 wx
theorem im0_a {w w2 : World} {W H : Int} {N : Nat} {mz : Array Value} (h : w.heap.size + 1 < w2.heap.size) (hz : mz.size = N * 4) (hN : N ≤ 65536) : Im0 w w2 W H (w2.heap.size + 1) ((w2.alloc (.cells mz 45)).alloc (.cells #[.int .i64 W, .int .i64 H, .slice (some ⟨w2.heap.size, 0, none⟩) 0 N] 51)).drew := by
  refine ⟨by omega, ⟨.slice (some ⟨w2.heap.size, 0, none⟩) 0 N, ?_, ?_⟩, (((Below.refl _ w2).alloc (Nat.le_refl _) _).alloc (by simp) _).trans ⟨rfl, rfl, rfl, Nat.le_refl _, fun _ _ => rfl⟩⟩
  · have := heap_alloc_newX (w2.alloc (.cells mz 45)) (.cells #[.int .i64 W, .int .i64 H, .slice (some ⟨w2.heap.size, 0, none⟩) 0 N] 51)
    rw [World.size_alloc] at this
    exact this
  · exact (World.ownsRow_made w2 mz N (by omega) (by unfold maxLen; omega) hz).alloc _
theorem im0_b {w w2 : World} {W H : Int} {N : Nat} {mz : Array Value} (h : w.heap.size + 1 < w2.heap.size) (hz : mz.size = N * 4) (hN : N ≤ 65536) : Im0 w w2 W H w2.heap.size ((w2.alloc (.cells #[.int .i64 W, .int .i64 H, .slice (some ⟨w2.heap.size + 1, 0, none⟩) 0 N] 51)).alloc (.cells mz 45)).drew := by
  refine ⟨h, ⟨.slice (some ⟨w2.heap.size + 1, 0, none⟩) 0 N, ?_, ?_⟩, (((Below.refl _ w2).alloc (Nat.le_refl _) _).alloc (by simp) _).trans ⟨rfl, rfl, rfl, Nat.le_refl _, fun _ _ => rfl⟩⟩
  · show ((w2.alloc (.cells #[.int .i64 W, .int .i64 H, .slice (some ⟨w2.heap.size + 1, 0, none⟩) 0 N] 51)).alloc (.cells mz 45)).heap[w2.heap.size]? = _
    rw [Below.heap_alloc _ _ _ (by simp)]; exact heap_alloc_newX w2 _
  · have := World.ownsRow_made (base := w.heap.size) (e := 45) (size := 4) (w2.alloc (.cells #[.int .i64 W, .int .i64 H, .slice (some ⟨w2.heap.size + 1, 0, none⟩) 0 N] 51)) mz N (by simp; omega) (by unfold maxLen; omega) hz
    rw [World.size_alloc] at this
    exact this
set_option maxHeartbeats 6400000 in
set_option maxRecDepth 20000 in
theorem image_yes (r : Rs) (A K S : List Int) (w0 w : World) (b off n N : Nat) (F : Nat → Int × Int × Int × Int) (hsa : r.sa = some ⟨b, off, none⟩) (ht : Tab w) (hm : RsM w r A K S) (hch : chE r.W r.H r.C r.D r.tn A K S = 0) (hsp : spN r.C = n) (hn : 1 ≤ n ∧ n ≤ 4) (hWH : r.W * r.H = N) (hN : 1 ≤ N ∧ N ≤ 65536) (hT : N * n = r.sn) (hTb : r.sn ≤ 5000) (hcap : r.sn ≤ r.sc ∧ r.sc ≤ maxLen)
    (hb0 : Below w0.heap.size w0 w) (HC : ∀ i, i < N → ColC w0 r (some ⟨b, off + i * n, none⟩) n (F i).1 (F i).2.1 (F i).2.2.1 (F i).2.2.2) :
    Calls Tryd.prog 21 #[r.V] w fun e w' => ImPost w r.W r.H N F e w' := by
  obtain ⟨w1, hw1⟩ : ∃ w1, (w.alloc (.cells r.c9 40)).alloc (.cells #[.int .i64 0, .int .i64 0, .slice none 0 0] 51) = w1 := ⟨_, rfl⟩
  have hb1 : Below w.heap.size w w1 := by rw [← hw1]; exact ((Below.refl _ w).alloc (Nat.le_refl _) _).alloc (by simp) _
  have hq1 : QR w r.c9 w1 := ⟨hb1, by rw [← hw1, Below.heap_alloc _ _ _ (by simp)]; exact heap_alloc_newX w _⟩
  have hr1 : w1.heap[w.heap.size + 1]? = some (.cells #[.int .i64 0, .int .i64 0, .slice none 0 0] 51 (0, 0)) := by
    rw [← hw1]
    have := heap_alloc_newX (w.alloc (.cells r.c9 40)) (.cells #[.int .i64 0, .int .i64 0, .slice none 0 0] 51); rwa [World.size_alloc] at this
  have CK := check_any r A K S w1 (ht.old hb1) (hm.old hb1)
  rw [hch] at CK
  obtain ⟨i0, hi0, hz0, hz1, hz2⟩ := info_parts Tryd.infoCo
  obtain ⟨mz, hmz⟩ : ∃ mz, madeCells (Value.agg #[.int .u16 0, .int .u16 0, .int .u16 0, .int .u16 0]).cells (N * 4) = mz := ⟨_, rfl⟩
  have HMZ : Hid (mz.size = N * 4) := by show _ = _; rw [← hmz]; exact size_madeCells _ _
  have hmk : ∀ u : World, (Instr.makeSlice 49 (.int .i64 0) (.int .i64 (N : Int))).run Tryd.prog u = .ok (.slice (some ⟨u.heap.size, 0, none⟩) 0 N) (u.alloc (.cells mz 45)) := fun u => by
    have := run_makeSlice (P := Tryd.prog) u 49 45 i0 _ Tryd.underlying49 hi0 hz0 .i64 .i64 0 N (Int.le_refl _) (by omega) (by rw [hz1, Int.toNat_natCast]; omega) (by rw [hz2]; omega) (by omega)
    rw [hz1, Int.toNat_natCast, hmz] at this
    exact this
  have HSp : Hid (∀ u, Below w.heap.size w u → Calls Tryd.prog 37 #[.int .i64 r.C] u fun e w' => e = .returned (.int .i64 n) ∧ w' = u) := fun u hu => by
    have := samples_any r.C u (ht.old hu); rwa [hsp] at this
  have HCk : Hid (∀ u, Calls Tryd.prog 36 #[.slice (some ⟨b, off, none⟩) r.sn r.sc, .int .i64 n] u fun e w' => e = .returned (.func (.func 45) #[] #[.pointer (some ⟨u.heap.size, 0, none⟩), .pointer (some ⟨u.heap.size + 1, 0, none⟩)]) ∧ CkB w' u.heap.size (u.heap.size + 1) b off r.sn r.sc n ∧ Below u.heap.size u w') := fun u => chunk_any b off r.sn r.sc n u hn.1
  have HIt : Hid (∀ sb nb, IxIter Tryd.prog 45 #[.pointer (some ⟨sb, 0, none⟩), .pointer (some ⟨nb, 0, none⟩)] (fun i => #[.slice (some ⟨b, off + i * n, none⟩) n n]) (fun w => CkB w sb nb b off r.sn r.sc n) N) := fun sb nb => chunk_iter sb nb b off r.sn r.sc n N hn hT (by omega) hcap.1 hcap.2
  have HCol : Hid (∀ i, i < N → ∀ u, Below w.heap.size w u → Calls Tryd.prog 34 #[r.V, .slice (some ⟨b, off + i * n, none⟩) n n] u fun en w' => en = .returned (.agg #[.int .u16 (F i).1, .int .u16 (F i).2.1, .int .u16 (F i).2.2.1, .int .u16 (F i).2.2.2]) ∧ Below u.heap.size u w') := fun i hi u hu => HC i hi n u (hb0.trans (hu.mono hb0.size))
  have hw1N : IntKind.i64.wrap (r.W * r.H) = (N : Int) := by rw [hWH, IntKind.wrap_i64]; omega
  have hw2N : IntKind.i64.wrap (N : Int) = (N : Int) := by rw [IntKind.wrap_i64]; omega
  have HQ : Hid (QR w r.c9 w1 ∧ w1.heap[w.heap.size + 1]? = some (.cells #[.int .i64 0, .int .i64 0, .slice none 0 0] 51 (0, 0))) := ⟨hq1, hr1⟩
  clear hb1 hq1 hr1 ht hm hch HC hb0 hT hsp hmz hi0 hz0 hz1 hz2
  obtain ⟨W, H, C, D, L, ta, tn, tc, aa, an, ac, ca, cn, cc, sa, sn, sc⟩ := r
  unfold Rs.V at *
  unfold Rs.c9 at *
  simp only at *
  subst hsa
  obtain ⟨x0, x1, x2, x3, x4, x5, x6, x7, x8⟩ := nine_cells HQ.out.1.2
  refine calls_of_wp_marks Tryd.func21 rfl ?_
  simp only [Tryd.ntmps21, List.size_toArray, List.length_cons, List.length_nil, Nat.reduceAdd, Nat.reduceSub, Array.replicate_succ, Array.replicate_zero, List.push_toArray, List.append_toArray, List.nil_append, List.cons_append]
  go_wp2_with fail
  refine CK.mono ?_
  clear CK hw1 x0 x1 x2 x3 x4 x5 x6 x7 x8
  rintro e w2 ⟨rfl, hb2⟩
  have HQ2 : Hid (QR w #[.int .i64 W, .int .i64 H, .int .i64 C, .int .i64 D, .bool L, .slice ta tn tc, .slice aa an ac, .slice ca cn cc, .slice (some ⟨b, off, none⟩) sn sc] w2 ∧ w2.heap[w.heap.size + 1]? = some (.cells #[.int .i64 0, .int .i64 0, .slice none 0 0] 51 (0, 0))) := ⟨HQ.out.1.old hb2, (hb2.block _ (lt_of_block HQ.out.2)).trans HQ.out.2⟩
  obtain ⟨c0, c1, c2, c3, c4, c5, c6, c7, c8⟩ := nine_cells HQ2.out.1.2
  have d0 : w2.drew.cell? ⟨w.heap.size, 0, none⟩ = _ := c0
  have d1 : w2.drew.cell? ⟨w.heap.size, 1, none⟩ = _ := c1
  clear hb2 HQ
  have hsz2 : w.heap.size + 1 < w2.heap.size := lt_of_block HQ2.out.2
  go_upto_region 4 with fail
  go_cut [5] from 13 to 27 (fun v wx => ∃ mb, v = .pointer (some ⟨mb, 0, none⟩) ∧ Im0 w w2 W H mb wx)
  case first =>
    go_wp2
    go_region_held3 (fun u => u.cell? ⟨w.heap.size, 0, none⟩ = some (.int .i64 W) ∧ u.cell? ⟨w.heap.size, 1, none⟩ = some (.int .i64 H))
      (first | (with_reducible exact ⟨by with_reducible assumption, by with_reducible assumption⟩) | go_keep) (fail)
    · go_wp2
      go_meet
      exact ⟨_, rfl, im0_a hsz2 HMZ.out (by omega)⟩
    · go_wp2
      go_meet
      exact ⟨_, rfl, im0_b hsz2 HMZ.out (by omega)⟩
  case rest =>
    obtain ⟨mb, rfl, hm0⟩ := hcut
    obtain ⟨w3, hw3⟩ : ∃ w3, w3 = wc := ⟨_, rfl⟩
    subst hw3
    have HM0 : Hid (Im0 w w2 W H mb w3) := hm0
    have HQ3 : Hid (QR w #[.int .i64 W, .int .i64 H, .int .i64 C, .int .i64 D, .bool L, .slice ta tn tc, .slice aa an ac, .slice ca cn cc, .slice (some ⟨b, off, none⟩) sn sc] w3 ∧ w3.heap[w.heap.size + 1]? = some (.cells #[.int .i64 0, .int .i64 0, .slice none 0 0] 51 (0, 0))) := ⟨HQ2.out.1.old hm0.2.2, (hm0.2.2.block _ hsz2).trans HQ2.out.2⟩
    clear hm0 c0 c1 c2 c3 c4 c5 c6 c7 c8 d0 d1 HQ2
    obtain ⟨c0, c1, c2, c3, c4, c5, c6, c7, c8⟩ := nine_cells HQ3.out.1.2
    have d2 : w3.drew.cell? ⟨w.heap.size, 2, none⟩ = _ := c2
    have d8 : w3.drew.cell? ⟨w.heap.size, 8, none⟩ = _ := c8
    have HB3 : Hid (Below w.heap.size w w3.drew) := HQ3.out.1.1.trans ⟨rfl, rfl, rfl, Nat.le_refl _, fun _ _ => rfl⟩
    go_upto_region 5 with fail
    go_region_held3 (fun u => u.cell? ⟨w.heap.size, 2, none⟩ = some (.int .i64 C) ∧ u.cell? ⟨w.heap.size, 8, none⟩ = some (.slice (some ⟨b, off, none⟩) sn sc))
      (first | (with_reducible exact ⟨by with_reducible assumption, by with_reducible assumption⟩) | go_keep) (first
      | (go_at_call 37; refine Calls.mono (HSp.out _ HB3.out) ?_; rintro e w4 ⟨rfl, rfl⟩)
      | (go_at_call 36; refine Calls.mono (HCk.out _) ?_; rintro e w5 ⟨rfl, hck, hb5⟩; have HCB : Hid (CkB w5 w3.heap.size (w3.heap.size + 1) b off sn sc n ∧ Below w3.heap.size w3 w5)   := ⟨hck, ⟨hb5.os, hb5.tape, hb5.output, hb5.size, hb5.block⟩⟩; have y2 := (World.cell?_of_block (a := ⟨w.heap.size, 2, none⟩) (hb5.block w.heap.size (lt_of_block HQ3.out.1.2))).trans c2; have y8 := (World.cell?_of_block (a := ⟨w.heap.size, 8, none⟩) (hb5.block w.heap.size (lt_of_block HQ3.out.1.2))).trans c8; clear hck hb5)
      | fail)
    have HI0 : Hid (ImI w ⟨W, H, C, D, L, ta, tn, tc, aa, an, ac, ca, cn, cc, some ⟨b, off, none⟩, sn, sc⟩ mb w3.heap.size (w3.heap.size + 1) b off sn sc n F 0 w5) := by
      obtain ⟨q1, ⟨v, q2, q3⟩, _⟩ := HM0.out
      have hb5 := HCB.out.2
      exact ⟨HQ3.out.1.old hb5, (hb5.block _ (lt_of_block HQ3.out.2)).trans HQ3.out.2, ⟨v, (hb5.block _ (lt_of_block q2)).trans q2, owns_cells q3 fun k c _ hk => (hb5.block k (lt_of_block hk)).trans hk⟩, HCB.out.1, q1⟩
    have hsz5 : w.heap.size < w5.heap.size := by have := HI0.out.mbl; have := lt_of_block HI0.out.rs; omega
    have HSZ : Hid (w.heap.size < w5.heap.size) := hsz5
    have HITER := HIt.out w3.heap.size (w3.heap.size + 1)
    clear hsz5 c0 c1 c2 c3 c4 c5 c6 c7 c8 d2 d8 y2 y8 HB3 HQ3 HM0 HCB
    generalize w3.heap.size = sb at *
    go_wp2
    refine wp_range_ix (gf := 45) rfl (callFnX Tryd.func45 (by kernel_rfl) (by kernel_rfl)) HITER (fun _ => rfl)
      (ImI w ⟨W, H, C, D, L, ta, tn, tc, aa, an, ac, ca, cn, cc, some ⟨b, off, none⟩, sn, sc⟩ mb sb (sb + 1) b off sn sc n F) (fun _ _ => False) (fun i Wa Wb h hk => h.ig hk (by have := HSZ.out; omega) (by have := HSZ.out; omega)) (fun _ _ _ h _ => h) (fun i Wa h => h.ck) HI0.out ?body ?done (fun _ _ h _ _ => h.elim)
    case body =>
      rintro i Wa hi HI hlp hdf
      simp only [List.zip_toArray, List.zip_cons_cons, List.zip_nil_right, List.foldl_toArray, List.foldl_cons, List.foldl_nil, List.setIfInBounds_toArray, List.set_cons_succ, List.set_cons_zero]
      gi_wp2
      refine ⟨trivial, trivial, ?_⟩
      intro o hig ho hdf2 ho2
      obtain ⟨rb, rfl⟩ := ho2
      obtain ⟨rd, hrd⟩ := hdf2
      have HI2 : Hid (ImI w ⟨W, H, C, D, L, ta, tn, tc, aa, an, ac, ca, cn, cc, some ⟨b, off, none⟩, sn, sc⟩ mb sb (sb + 1) b off sn sc n F i (Wa.putObj (w5.heap.size + 1) (.loop rb))) := HI.ig hig (by have := HSZ.out; omega) (by have := HSZ.out; omega)
      clear hig HI hlp hdf
      generalize Wa.putObj (w5.heap.size + 1) (.loop rb) = Wc at *
      obtain ⟨v, h1, h2⟩ := HI2.out.ob
      obtain ⟨av, cv, hv⟩ : ∃ av cv, v = .slice av i cv := by
        rcases h2.2 with ⟨rfl, h0⟩ | ⟨g, cap, cur, rfl, _⟩
        · exact ⟨none, 0, by rw [h0]⟩
        · exact ⟨_, _, rfl⟩
      subst hv
      have HO : Hid (Wc.heap[w5.heap.size + 1]? = some (.loop rb) ∧ Wc.heap[w5.heap.size]? = some (.deferred rd) ∧ Wc.heap[mb]? = some (.cells #[.int .i64 W, .int .i64 H, .slice av i cv] 51 (0, 0)) ∧ Wc.ownsRow w.heap.size 45 4 (.slice av i cv) i (colL F i)) := ⟨ho, hrd, h1, h2⟩
      have k2 : Wc.drew.cell? ⟨mb, 2, none⟩ = some (.slice av i cv) := by show Wc.cell? _ = _; simp [World.cell?, h1]
      obtain ⟨z0, z1, z2, z3, z4, z5, z6, z7, z8⟩ := nine_cells (w := Wc.drew) HI2.out.qr.2
      have CCol := HCol.out i hi Wc.drew (HI2.out.qr.1.trans ⟨rfl, rfl, rfl, Nat.le_refl _, fun _ _ => rfl⟩)
      clear ho hrd h1 h2
      gi_wp2
      refine wpIn_region_held (fun u => u.cell? ⟨w.heap.size, 0, none⟩ = some (.int .i64 W) ∧ u.cell? ⟨w.heap.size, 1, none⟩ = some (.int .i64 H) ∧ u.cell? ⟨w.heap.size, 2, none⟩ = some (.int .i64 C) ∧ u.cell? ⟨w.heap.size, 3, none⟩ = some (.int .i64 D) ∧ u.cell? ⟨w.heap.size, 4, none⟩ = some (.bool L) ∧ u.cell? ⟨w.heap.size, 5, none⟩ = some (.slice ta tn tc) ∧ u.cell? ⟨w.heap.size, 6, none⟩ = some (.slice aa an ac) ∧ u.cell? ⟨w.heap.size, 7, none⟩ = some (.slice ca cn cc) ∧ u.cell? ⟨w.heap.size, 8, none⟩ = some (.slice (some ⟨b, off, none⟩) sn sc)) (by kernel_rfl) ?hq (by kernel_rfl) ⟨z0, z1, z2, z3, z4, z5, z6, z7, z8⟩ ?_
      case hq => rintro ⟨a, w, h⟩; exact h
      intro hHeld
      refine wpAnyH_take (i := 0) (v := .pointer (some ⟨mb, 2, none⟩)) rfl (by kernel_rfl) (by kernel_rfl) (by kernel_rfl) (fun _ _ _ h => h) (Or.inl ⟨by rfl, ?_⟩) hHeld ?_
      · intro wq hSw
        try dsimp only at hSw
        go_simp
      try simp only [Act.put]
      try simp only [List.setIfInBounds_toArray]
      try simp only [List.set_cons_succ]
      try simp only [List.set_cons_zero]
      refine wpAnyH_take (i := 2) (v := .agg #[.int .i64 W, .int .i64 H, .int .i64 C, .int .i64 D, .bool L, .slice ta tn tc, .slice aa an ac, .slice ca cn cc, .slice (some ⟨b, off, none⟩) sn sc]) rfl (by kernel_rfl) (by kernel_rfl) (by kernel_rfl) (fun _ _ _ h => h) (Or.inl ⟨by rfl, ?_⟩) hHeld ?_
      · intro wq hSw
        try dsimp only at hSw
        go_simp
      try simp only [Act.put]
      try simp only [List.setIfInBounds_toArray]
      try simp only [List.set_cons_succ]
      try simp only [List.set_cons_zero]
      refine wpAnyH_take (i := 3) (v := .slice (some ⟨b, off + i * n, none⟩) n n) rfl (by kernel_rfl) (by kernel_rfl) (by kernel_rfl) (fun _ _ _ h => h) (Or.inl ⟨by rfl, ?_⟩) hHeld ?_
      · intro wq hSw
        try dsimp only at hSw
        go_simp
      try simp only [Act.put]
      try simp only [List.setIfInBounds_toArray]
      try simp only [List.set_cons_succ]
      try simp only [List.set_cons_zero]
      refine wpAnyH_ready (rs := [1, 4]) (by kernel_rfl) (by simp) (AllReadyH.cons (o := _) rfl (fun K hK => ?_) (AllReadyH.cons (o := _) rfl (fun K hK => ?_) AllReadyH.nil))
      · go_simp
        refine hK.out _ _ hHeld (fun hHeld => ?_)
        clear hK K
        try simp only [Act.put]
        try simp only [List.setIfInBounds_toArray]
        try simp only [List.set_cons_succ]
        try simp only [List.set_cons_zero]
        refine wpAnyH_ready (rs := [4]) (by kernel_rfl) (by simp) (AllReadyH.cons (o := _) rfl (fun K hK => ?_) AllReadyH.nil)
        go_simp
        go_at_call 34
        refine Calls.mono CCol ?_
        rintro e w4 ⟨rfl, hb4⟩
        have HI4 : Hid (ImI w ⟨W, H, C, D, L, ta, tn, tc, aa, an, ac, ca, cn, cc, some ⟨b, off, none⟩, sn, sc⟩ mb sb (sb + 1) b off sn sc n F i w4 ∧ w4.heap[w5.heap.size + 1]? = some (.loop rb) ∧ w4.heap[w5.heap.size]? = some (.deferred rd) ∧ w4.heap[mb]? = some (.cells #[.int .i64 W, .int .i64 H, .slice av i cv] 51 (0, 0)) ∧ w4.ownsRow w.heap.size 45 4 (.slice av i cv) i (colL F i) ∧ Wc.heap[w5.heap.size + 1]? = some (.loop rb) ∧ Wc.heap[w5.heap.size]? = some (.deferred rd)) := by
          have hbb : Below Wc.heap.size Wc w4 := ⟨hb4.os, hb4.tape, hb4.output, hb4.size, hb4.block⟩
          obtain ⟨p1, p2, p3, p4⟩ := HO.out
          exact ⟨HI2.out.old hbb, (hbb.block _ (lt_of_block p1)).trans p1, (hbb.block _ (lt_of_block p2)).trans p2, (hbb.block _ (lt_of_block p3)).trans p3, owns_cells p4 fun k c _ hk => (hbb.block k (lt_of_block hk)).trans hk, p1, p2⟩
        have k4 : w4.cell? ⟨mb, 2, none⟩ = some (.slice av i cv) := by have := HI4.out.2.2.2.1; simp [World.cell?, this]
        obtain ⟨m0, m1, m2, m3, m4, m5, m6, m7, m8⟩ := nine_cells HI4.out.1.qr.2
        clear hb4 k2 z0 z1 z2 z3 z4 z5 z6 z7 z8 hHeld
        first | (refine hK.out _ _ ⟨m0, m1, m2, m3, m4, m5, m6, m7, m8⟩ (fun hHeld => ?_)) | (go_wp2_with fail; refine hK.out _ _ ⟨m0, m1, m2, m3, m4, m5, m6, m7, m8⟩ (fun hHeld => ?_))
        clear hK K
        try simp only [Act.put]
        try simp only [List.setIfInBounds_toArray]
        try simp only [List.set_cons_succ]
        try simp only [List.set_cons_zero]
        refine wpAnyH_ready (rs := [5]) (by kernel_rfl) (by simp) (AllReadyH.cons (o := _) rfl (fun K hK => ?_) AllReadyH.nil)
        go_simp
        have HN : Hid ((w4.alloc (.cells #[.int .u16 (F i).1, .int .u16 (F i).2.1, .int .u16 (F i).2.2.1, .int .u16 (F i).2.2.2] 45)).ownsRow w.heap.size 45 4 (.slice av i cv) i (colL F i)) := HI4.out.2.2.2.2.1.alloc _
        have hnb : Below w4.heap.size w4 (w4.alloc (.cells #[.int .u16 (F i).1, .int .u16 (F i).2.1, .int .u16 (F i).2.2.1, .int .u16 (F i).2.2.2] 45)) := (Below.refl _ _).alloc (Nat.le_refl _) _
        have hq5 := HI4.out.1.qr.old hnb
        have k5 : (w4.alloc (.cells #[.int .u16 (F i).1, .int .u16 (F i).2.1, .int .u16 (F i).2.2.1, .int .u16 (F i).2.2.2] 45)).cell? ⟨mb, 2, none⟩ = some (.slice av i cv) := (World.cell?_of_block (a := ⟨mb, 2, none⟩) (hnb.block mb (lt_of_block HI4.out.2.2.2.1))).trans k4
        obtain ⟨n0, n1, n2, n3, n4, n5, n6, n7, n8⟩ := nine_cells hq5.2
        clear m0 m1 m2 m3 m4 m5 m6 m7 m8 hHeld hq5 hnb
        refine hK.out _ _ ⟨n0, n1, n2, n3, n4, n5, n6, n7, n8⟩ (fun hHeld => ?_)
        clear hK K
        try simp only [Act.put]
        try simp only [List.setIfInBounds_toArray]
        try simp only [List.set_cons_succ]
        try simp only [List.set_cons_zero]
        refine wpAnyH_ready (rs := [6]) (by kernel_rfl) (by simp) (AllReadyH.cons (o := _) rfl (fun K hK => ?_) AllReadyH.nil)
        obtain ⟨i1, hj0, hy0, hy1, hy2⟩ := info_parts Tryd.infoCo
        refine step_of_list rfl (wpList_append_own _ rfl _ _ 49 rfl w.heap.size 45 i1 _ 4 8 Tryd.underlying49 hj0 hy0 hy1 hy2 rfl (by decide) (.slice av i cv) i (colL F i) rfl HN.out ⟨w4.heap.size, 0, none⟩ 1 1 (c4 F i) rfl rfl (new4 w4 _ _ _ _) (one4 F i) (by unfold maxLen; omega) (by omega) (by have := HI4.out.1.qr.1.size; simp; omega) (fun v7 w7 g1 g2 _ => ⟨rfl, ?_⟩))
        obtain ⟨y1, y2, y3, y4, y5, y6, y7⟩ := HI4.out.1.push HI4.out.2.2.2.1 HI4.out.2.2.2.2.1 g1 g2 HI4.out.2.1 HI4.out.2.2.1
        obtain ⟨a7, c7, hv7⟩ : ∃ a7 c7, v7 = .slice a7 (i + 1) c7 := by
          rcases g1.2 with ⟨rfl, hn⟩ | ⟨g, cap, cur, rfl, _⟩
          · omega
          · exact ⟨_, _, rfl⟩
        subst hv7
        have HF : Hid ((w7.setCell ⟨mb, 2, none⟩ (.slice a7 (i + 1) c7)).heap[w5.heap.size + 1]? = Wc.heap[w5.heap.size + 1]? ∧ (w7.setCell ⟨mb, 2, none⟩ (.slice a7 (i + 1) c7)).heap[w5.heap.size]? = Wc.heap[w5.heap.size]? ∧ ImI w ⟨W, H, C, D, L, ta, tn, tc, aa, an, ac, ca, cn, cc, some ⟨b, off, none⟩, sn, sc⟩ mb sb (sb + 1) b off sn sc n F (i + 1) (w7.setCell ⟨mb, 2, none⟩ (.slice a7 (i + 1) c7))) := ⟨y6.trans (HI4.out.2.1.trans HI4.out.2.2.2.2.2.1.symm), y7.trans (HI4.out.2.2.1.trans HI4.out.2.2.2.2.2.2.symm), y5⟩
        obtain ⟨q0, q1, q2, q3, q4, q5, q6, q7, q8⟩ := nine_cells y3.2
        obtain ⟨s0, s1, s2, s3, s4, s5, s6, s7, s8⟩ := nine_cells y4.2
        clear g1 g2 y3 y4 y5 y6 y7 hHeld
        refine hK.out _ _ ⟨q0, q1, q2, q3, q4, q5, q6, q7, q8⟩ (fun hHeld => ?_)
        clear hK K
        try simp only [Act.put]
        try simp only [List.setIfInBounds_toArray]
        try simp only [List.set_cons_succ]
        try simp only [List.set_cons_zero]
        refine wpAnyH_take (i := 7) (v := .pointer (some ⟨mb, 2, none⟩)) rfl (by kernel_rfl) (by kernel_rfl) (by kernel_rfl) (fun _ _ _ h => h) (Or.inl ⟨by rfl, ?_⟩) hHeld ?_
        · intro wq hSw
          try dsimp only at hSw
          go_simp
        try simp only [Act.put]
        try simp only [List.setIfInBounds_toArray]
        try simp only [List.set_cons_succ]
        try simp only [List.set_cons_zero]
        refine wpAnyH_ready (rs := [8]) (by kernel_rfl) (by simp) (AllReadyH.cons (o := _) rfl (fun K hK => ?_) AllReadyH.nil)
        go_simp
        refine hK.out _ _ ⟨s0, s1, s2, s3, s4, s5, s6, s7, s8⟩ (fun hHeld => ?_)
        clear hK K
        try simp only [Act.put]
        try simp only [List.setIfInBounds_toArray]
        try simp only [List.set_cons_succ]
        try simp only [List.set_cons_zero]
        refine wpAnyH_done (by kernel_rfl) ?_ _
        exact HF.out
      · go_simp
        go_at_call 34
        refine Calls.mono CCol ?_
        rintro e w4 ⟨rfl, hb4⟩
        have HI4 : Hid (ImI w ⟨W, H, C, D, L, ta, tn, tc, aa, an, ac, ca, cn, cc, some ⟨b, off, none⟩, sn, sc⟩ mb sb (sb + 1) b off sn sc n F i w4 ∧ w4.heap[w5.heap.size + 1]? = some (.loop rb) ∧ w4.heap[w5.heap.size]? = some (.deferred rd) ∧ w4.heap[mb]? = some (.cells #[.int .i64 W, .int .i64 H, .slice av i cv] 51 (0, 0)) ∧ w4.ownsRow w.heap.size 45 4 (.slice av i cv) i (colL F i) ∧ Wc.heap[w5.heap.size + 1]? = some (.loop rb) ∧ Wc.heap[w5.heap.size]? = some (.deferred rd)) := by
          have hbb : Below Wc.heap.size Wc w4 := ⟨hb4.os, hb4.tape, hb4.output, hb4.size, hb4.block⟩
          obtain ⟨p1, p2, p3, p4⟩ := HO.out
          exact ⟨HI2.out.old hbb, (hbb.block _ (lt_of_block p1)).trans p1, (hbb.block _ (lt_of_block p2)).trans p2, (hbb.block _ (lt_of_block p3)).trans p3, owns_cells p4 fun k c _ hk => (hbb.block k (lt_of_block hk)).trans hk, p1, p2⟩
        have k4 : w4.cell? ⟨mb, 2, none⟩ = some (.slice av i cv) := by have := HI4.out.2.2.2.1; simp [World.cell?, this]
        obtain ⟨m0, m1, m2, m3, m4, m5, m6, m7, m8⟩ := nine_cells HI4.out.1.qr.2
        clear hb4 k2 z0 z1 z2 z3 z4 z5 z6 z7 z8 hHeld
        first | (refine hK.out _ _ ⟨m0, m1, m2, m3, m4, m5, m6, m7, m8⟩ (fun hHeld => ?_)) | (go_wp2_with fail; refine hK.out _ _ ⟨m0, m1, m2, m3, m4, m5, m6, m7, m8⟩ (fun hHeld => ?_))
        clear hK K
        try simp only [Act.put]
        try simp only [List.setIfInBounds_toArray]
        try simp only [List.set_cons_succ]
        try simp only [List.set_cons_zero]
        refine wpAnyH_ready (rs := [1, 5]) (by kernel_rfl) (by simp) (AllReadyH.cons (o := _) rfl (fun K hK => ?_) (AllReadyH.cons (o := _) rfl (fun K hK => ?_) AllReadyH.nil))
        · go_simp
          refine hK.out _ _ hHeld (fun hHeld => ?_)
          clear hK K
          try simp only [Act.put]
          try simp only [List.setIfInBounds_toArray]
          try simp only [List.set_cons_succ]
          try simp only [List.set_cons_zero]
          refine wpAnyH_ready (rs := [5]) (by kernel_rfl) (by simp) (AllReadyH.cons (o := _) rfl (fun K hK => ?_) AllReadyH.nil)
          go_simp
          have HN : Hid ((w4.alloc (.cells #[.int .u16 (F i).1, .int .u16 (F i).2.1, .int .u16 (F i).2.2.1, .int .u16 (F i).2.2.2] 45)).ownsRow w.heap.size 45 4 (.slice av i cv) i (colL F i)) := HI4.out.2.2.2.2.1.alloc _
          have hnb : Below w4.heap.size w4 (w4.alloc (.cells #[.int .u16 (F i).1, .int .u16 (F i).2.1, .int .u16 (F i).2.2.1, .int .u16 (F i).2.2.2] 45)) := (Below.refl _ _).alloc (Nat.le_refl _) _
          have hq5 := HI4.out.1.qr.old hnb
          have k5 : (w4.alloc (.cells #[.int .u16 (F i).1, .int .u16 (F i).2.1, .int .u16 (F i).2.2.1, .int .u16 (F i).2.2.2] 45)).cell? ⟨mb, 2, none⟩ = some (.slice av i cv) := (World.cell?_of_block (a := ⟨mb, 2, none⟩) (hnb.block mb (lt_of_block HI4.out.2.2.2.1))).trans k4
          obtain ⟨n0, n1, n2, n3, n4, n5, n6, n7, n8⟩ := nine_cells hq5.2
          clear m0 m1 m2 m3 m4 m5 m6 m7 m8 hHeld hq5 hnb
          refine hK.out _ _ ⟨n0, n1, n2, n3, n4, n5, n6, n7, n8⟩ (fun hHeld => ?_)
          clear hK K
          try simp only [Act.put]
          try simp only [List.setIfInBounds_toArray]
          try simp only [List.set_cons_succ]
          try simp only [List.set_cons_zero]
          refine wpAnyH_ready (rs := [6]) (by kernel_rfl) (by simp) (AllReadyH.cons (o := _) rfl (fun K hK => ?_) AllReadyH.nil)
          obtain ⟨i1, hj0, hy0, hy1, hy2⟩ := info_parts Tryd.infoCo
          refine step_of_list rfl (wpList_append_own _ rfl _ _ 49 rfl w.heap.size 45 i1 _ 4 8 Tryd.underlying49 hj0 hy0 hy1 hy2 rfl (by decide) (.slice av i cv) i (colL F i) rfl HN.out ⟨w4.heap.size, 0, none⟩ 1 1 (c4 F i) rfl rfl (new4 w4 _ _ _ _) (one4 F i) (by unfold maxLen; omega) (by omega) (by have := HI4.out.1.qr.1.size; simp; omega) (fun v7 w7 g1 g2 _ => ⟨rfl, ?_⟩))
          obtain ⟨y1, y2, y3, y4, y5, y6, y7⟩ := HI4.out.1.push HI4.out.2.2.2.1 HI4.out.2.2.2.2.1 g1 g2 HI4.out.2.1 HI4.out.2.2.1
          obtain ⟨a7, c7, hv7⟩ : ∃ a7 c7, v7 = .slice a7 (i + 1) c7 := by
            rcases g1.2 with ⟨rfl, hn⟩ | ⟨g, cap, cur, rfl, _⟩
            · omega
            · exact ⟨_, _, rfl⟩
          subst hv7
          have HF : Hid ((w7.setCell ⟨mb, 2, none⟩ (.slice a7 (i + 1) c7)).heap[w5.heap.size + 1]? = Wc.heap[w5.heap.size + 1]? ∧ (w7.setCell ⟨mb, 2, none⟩ (.slice a7 (i + 1) c7)).heap[w5.heap.size]? = Wc.heap[w5.heap.size]? ∧ ImI w ⟨W, H, C, D, L, ta, tn, tc, aa, an, ac, ca, cn, cc, some ⟨b, off, none⟩, sn, sc⟩ mb sb (sb + 1) b off sn sc n F (i + 1) (w7.setCell ⟨mb, 2, none⟩ (.slice a7 (i + 1) c7))) := ⟨y6.trans (HI4.out.2.1.trans HI4.out.2.2.2.2.2.1.symm), y7.trans (HI4.out.2.2.1.trans HI4.out.2.2.2.2.2.2.symm), y5⟩
          obtain ⟨q0, q1, q2, q3, q4, q5, q6, q7, q8⟩ := nine_cells y3.2
          obtain ⟨s0, s1, s2, s3, s4, s5, s6, s7, s8⟩ := nine_cells y4.2
          clear g1 g2 y3 y4 y5 y6 y7 hHeld
          refine hK.out _ _ ⟨q0, q1, q2, q3, q4, q5, q6, q7, q8⟩ (fun hHeld => ?_)
          clear hK K
          try simp only [Act.put]
          try simp only [List.setIfInBounds_toArray]
          try simp only [List.set_cons_succ]
          try simp only [List.set_cons_zero]
          refine wpAnyH_take (i := 7) (v := .pointer (some ⟨mb, 2, none⟩)) rfl (by kernel_rfl) (by kernel_rfl) (by kernel_rfl) (fun _ _ _ h => h) (Or.inl ⟨by rfl, ?_⟩) hHeld ?_
          · intro wq hSw
            try dsimp only at hSw
            go_simp
          try simp only [Act.put]
          try simp only [List.setIfInBounds_toArray]
          try simp only [List.set_cons_succ]
          try simp only [List.set_cons_zero]
          refine wpAnyH_ready (rs := [8]) (by kernel_rfl) (by simp) (AllReadyH.cons (o := _) rfl (fun K hK => ?_) AllReadyH.nil)
          go_simp
          refine hK.out _ _ ⟨s0, s1, s2, s3, s4, s5, s6, s7, s8⟩ (fun hHeld => ?_)
          clear hK K
          try simp only [Act.put]
          try simp only [List.setIfInBounds_toArray]
          try simp only [List.set_cons_succ]
          try simp only [List.set_cons_zero]
          refine wpAnyH_done (by kernel_rfl) ?_ _
          exact HF.out
        · go_simp
          have HN : Hid ((w4.alloc (.cells #[.int .u16 (F i).1, .int .u16 (F i).2.1, .int .u16 (F i).2.2.1, .int .u16 (F i).2.2.2] 45)).ownsRow w.heap.size 45 4 (.slice av i cv) i (colL F i)) := HI4.out.2.2.2.2.1.alloc _
          have hnb : Below w4.heap.size w4 (w4.alloc (.cells #[.int .u16 (F i).1, .int .u16 (F i).2.1, .int .u16 (F i).2.2.1, .int .u16 (F i).2.2.2] 45)) := (Below.refl _ _).alloc (Nat.le_refl _) _
          have hq5 := HI4.out.1.qr.old hnb
          have k5 : (w4.alloc (.cells #[.int .u16 (F i).1, .int .u16 (F i).2.1, .int .u16 (F i).2.2.1, .int .u16 (F i).2.2.2] 45)).cell? ⟨mb, 2, none⟩ = some (.slice av i cv) := (World.cell?_of_block (a := ⟨mb, 2, none⟩) (hnb.block mb (lt_of_block HI4.out.2.2.2.1))).trans k4
          obtain ⟨n0, n1, n2, n3, n4, n5, n6, n7, n8⟩ := nine_cells hq5.2
          clear m0 m1 m2 m3 m4 m5 m6 m7 m8 hHeld hq5 hnb
          refine hK.out _ _ ⟨n0, n1, n2, n3, n4, n5, n6, n7, n8⟩ (fun hHeld => ?_)
          clear hK K
          try simp only [Act.put]
          try simp only [List.setIfInBounds_toArray]
          try simp only [List.set_cons_succ]
          try simp only [List.set_cons_zero]
          refine wpAnyH_ready (rs := [1]) (by kernel_rfl) (by simp) (AllReadyH.cons (o := _) rfl (fun K hK => ?_) AllReadyH.nil)
          go_simp
          refine hK.out _ _ hHeld (fun hHeld => ?_)
          clear hK K
          try simp only [Act.put]
          try simp only [List.setIfInBounds_toArray]
          try simp only [List.set_cons_succ]
          try simp only [List.set_cons_zero]
          refine wpAnyH_ready (rs := [6]) (by kernel_rfl) (by simp) (AllReadyH.cons (o := _) rfl (fun K hK => ?_) AllReadyH.nil)
          obtain ⟨i1, hj0, hy0, hy1, hy2⟩ := info_parts Tryd.infoCo
          refine step_of_list rfl (wpList_append_own _ rfl _ _ 49 rfl w.heap.size 45 i1 _ 4 8 Tryd.underlying49 hj0 hy0 hy1 hy2 rfl (by decide) (.slice av i cv) i (colL F i) rfl HN.out ⟨w4.heap.size, 0, none⟩ 1 1 (c4 F i) rfl rfl (new4 w4 _ _ _ _) (one4 F i) (by unfold maxLen; omega) (by omega) (by have := HI4.out.1.qr.1.size; simp; omega) (fun v7 w7 g1 g2 _ => ⟨rfl, ?_⟩))
          obtain ⟨y1, y2, y3, y4, y5, y6, y7⟩ := HI4.out.1.push HI4.out.2.2.2.1 HI4.out.2.2.2.2.1 g1 g2 HI4.out.2.1 HI4.out.2.2.1
          obtain ⟨a7, c7, hv7⟩ : ∃ a7 c7, v7 = .slice a7 (i + 1) c7 := by
            rcases g1.2 with ⟨rfl, hn⟩ | ⟨g, cap, cur, rfl, _⟩
            · omega
            · exact ⟨_, _, rfl⟩
          subst hv7
          have HF : Hid ((w7.setCell ⟨mb, 2, none⟩ (.slice a7 (i + 1) c7)).heap[w5.heap.size + 1]? = Wc.heap[w5.heap.size + 1]? ∧ (w7.setCell ⟨mb, 2, none⟩ (.slice a7 (i + 1) c7)).heap[w5.heap.size]? = Wc.heap[w5.heap.size]? ∧ ImI w ⟨W, H, C, D, L, ta, tn, tc, aa, an, ac, ca, cn, cc, some ⟨b, off, none⟩, sn, sc⟩ mb sb (sb + 1) b off sn sc n F (i + 1) (w7.setCell ⟨mb, 2, none⟩ (.slice a7 (i + 1) c7))) := ⟨y6.trans (HI4.out.2.1.trans HI4.out.2.2.2.2.2.1.symm), y7.trans (HI4.out.2.2.1.trans HI4.out.2.2.2.2.2.2.symm), y5⟩
          obtain ⟨q0, q1, q2, q3, q4, q5, q6, q7, q8⟩ := nine_cells y3.2
          obtain ⟨s0, s1, s2, s3, s4, s5, s6, s7, s8⟩ := nine_cells y4.2
          clear g1 g2 y3 y4 y5 y6 y7 hHeld
          refine hK.out _ _ ⟨q0, q1, q2, q3, q4, q5, q6, q7, q8⟩ (fun hHeld => ?_)
          clear hK K
          try simp only [Act.put]
          try simp only [List.setIfInBounds_toArray]
          try simp only [List.set_cons_succ]
          try simp only [List.set_cons_zero]
          refine wpAnyH_take (i := 7) (v := .pointer (some ⟨mb, 2, none⟩)) rfl (by kernel_rfl) (by kernel_rfl) (by kernel_rfl) (fun _ _ _ h => h) (Or.inl ⟨by rfl, ?_⟩) hHeld ?_
          · intro wq hSw
            try dsimp only at hSw
            go_simp
          try simp only [Act.put]
          try simp only [List.setIfInBounds_toArray]
          try simp only [List.set_cons_succ]
          try simp only [List.set_cons_zero]
          refine wpAnyH_ready (rs := [8]) (by kernel_rfl) (by simp) (AllReadyH.cons (o := _) rfl (fun K hK => ?_) AllReadyH.nil)
          go_simp
          refine hK.out _ _ ⟨s0, s1, s2, s3, s4, s5, s6, s7, s8⟩ (fun hHeld => ?_)
          clear hK K
          try simp only [Act.put]
          try simp only [List.setIfInBounds_toArray]
          try simp only [List.set_cons_succ]
          try simp only [List.set_cons_zero]
          refine wpAnyH_done (by kernel_rfl) ?_ _
          exact HF.out
    case done =>
      intro Wa HI hD hlp
      obtain ⟨v, h1, h2⟩ := HI.ob
      obtain ⟨av, cv, hv⟩ : ∃ av cv, v = .slice av N cv := by
        rcases h2.2 with ⟨rfl, h0⟩ | ⟨g, cap, cur, rfl, _⟩
        · exact ⟨none, 0, by rw [h0]⟩
        · exact ⟨_, _, rfl⟩
      subst hv
      have hrs := HI.rs
      have hmbl := HI.mbl
      obtain ⟨Wb, hWb⟩ : ∃ Wb, ((Wa.setCell ⟨w.heap.size + 1, 0, none⟩ (.int .i64 W)).setCell ⟨w.heap.size + 1, 1, none⟩ (.int .i64 H)).setCell ⟨w.heap.size + 1, 2, none⟩ (.slice av N cv) = Wb := ⟨_, rfl⟩
      have hkb : Wb.heap[w.heap.size + 1]? = some (.cells #[.int .i64 W, .int .i64 H, .slice av N cv] 51 (0, 0)) := by
        have e1 := heap_setCell_same Wa (w.heap.size + 1) 0 _ _ (.int .i64 W) hrs
        have e2 := heap_setCell_same _ (w.heap.size + 1) 1 _ _ (.int .i64 H) e1
        have e3 := heap_setCell_same _ (w.heap.size + 1) 2 _ _ (.slice av N cv) e2
        rw [hWb] at e3
        exact e3
      have oth : ∀ k, k ≠ w.heap.size + 1 → Wb.heap[k]? = Wa.heap[k]? := fun k hk => by
        rw [← hWb, Below.heap_setCell _ _ _ _ hk, Below.heap_setCell _ _ _ _ hk, Below.heap_setCell _ _ _ _ hk]
      have hbb : Below w.heap.size w Wb := by
        rw [← hWb]
        exact ((HI.qr.1.setCell (p := ⟨w.heap.size + 1, 0, none⟩) (Nat.le_succ _) _).setCell (p := ⟨w.heap.size + 1, 1, none⟩) (Nat.le_succ _) _).setCell (p := ⟨w.heap.size + 1, 2, none⟩) (Nat.le_succ _) _
      have hDs : w5.heap.size ≠ w.heap.size + 1 := fun e => by rw [e, hrs] at hD; cases hD
      have hDb : Wb.heap[w5.heap.size]? = some (.deferred (some [])) := (oth _ hDs).trans hD
      obtain ⟨Wz, hWz⟩ : ∃ Wz, Wb.putObj w5.heap.size (.deferred none) = Wz := ⟨_, rfl⟩
      have hkz : Wz.heap[w.heap.size + 1]? = some (.cells #[.int .i64 W, .int .i64 H, .slice av N cv] 51 (0, 0)) := by rw [← hWz, World.putObj_heap_other (Ne.symm hDs)]; exact hkb
      have hbk : Bk w.heap.size Wb Wz := by rw [← hWz]; exact Bk.of_put _ (by have := HSZ.out; omega) (no_cells_def hDb)
      have HP : Hid (ImPost w W H N F (.returned (.tuple #[.agg #[.int .i64 W, .int .i64 H, .slice av N cv], .int .i64 0])) Wz) :=
        ⟨av, cv, rfl, owns_cells h2 fun k c hk hc => hbk.cells ((oth k (fun e => by subst e; rw [hrs] at hc; cases hc)).trans hc), hbk.below hbb (Nat.le_refl _) (Nat.le_refl _)⟩
      have HDD : Hid (Wb.heap[w5.heap.size]? = some (.deferred (some []))) := hDb
      have m0 : Wa.cell? ⟨mb, 0, none⟩ = some (.int .i64 W) := by simp [World.cell?, h1]
      have m1 : Wa.cell? ⟨mb, 1, none⟩ = some (.int .i64 H) := by simp [World.cell?, h1]
      have m2 : Wa.cell? ⟨mb, 2, none⟩ = some (.slice av N cv) := by simp [World.cell?, h1]
      have r0 : Wa.cell? ⟨w.heap.size + 1, 0, none⟩ = some (.int .i64 0) := by simp [World.cell?, hrs]
      have r1 : Wa.cell? ⟨w.heap.size + 1, 1, none⟩ = some (.int .i64 0) := by simp [World.cell?, hrs]
      have r2 : Wa.cell? ⟨w.heap.size + 1, 2, none⟩ = some (.slice none 0 0) := by simp [World.cell?, hrs]
      have rf : ∀ j, Wa.frozen? ⟨w.heap.size + 1, j, none⟩ = false := fun j => by simp [World.frozen?, hrs]
      have s0 : Wz.cell? ⟨w.heap.size + 1, 0, none⟩ = some (.int .i64 W) := by simp [World.cell?, hkz]
      have s1 : Wz.cell? ⟨w.heap.size + 1, 1, none⟩ = some (.int .i64 H) := by simp [World.cell?, hkz]
      have s2 : Wz.cell? ⟨w.heap.size + 1, 2, none⟩ = some (.slice av N cv) := by simp [World.cell?, hkz]
      clear hkb hkz oth hbb hbk HI hlp hD h1 h2 hrs hDb hDs
      go_wp2
      try rw [hWb]
      refine ⟨by simp, .inl ⟨_, _, rfl, run_takeDeferred HDD.out, ?_⟩⟩
      rw [hWz]
      refine ⟨.tuple #[.agg #[.int .i64 W, .int .i64 H, .slice av N cv], .int .i64 0], ?_, HP.out⟩
      rw [results_cellP rfl]
      go_simp
end Go.Proofs.YtbjoalgglmalnaaDoor
