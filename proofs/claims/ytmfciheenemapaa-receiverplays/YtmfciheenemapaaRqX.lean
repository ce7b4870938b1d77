/- Both receivers between two items; the document's New. -/
import Derived.Test.YtmfciheenemapaaRqW
namespace Go.Proofs.Ytmfciheenemapaa
open Go.RowKit
/-- A new document's receiver. -/
def XnP (w : World) (N : Nat) (W : Int) (e : Ending) (w' : World) : Prop := ∃ c cb ib, e = .returned (.tuple #[.pointer (some ⟨c, 0, none⟩), .int .i64 0]) ∧ Rx w' c cb ib N W (fun _ => hPt0) (fun _ => false) ∧ Below w.heap.size w w' ∧ w.heap.size ≤ c ∧ w.heap.size ≤ cb ∧ w.heap.size ≤ ib
set_option maxHeartbeats 1600000 in
theorem xnew_no (n W : Int) (w : World) (h : ¬ (0 ≤ n ∧ n ≤ 1048577 ∧ 1 ≤ W ∧ W ≤ 64)) : Calls Try.prog 9 #[.int .i64 n, .int .i64 W] w fun e w' => e = .returned (.tuple #[.pointer none, .int .i64 1]) ∧ w' = w := by
  by_cases c1 : n < 0
  · go_enter Try.func9, Try.ntmps9
    go_wp2
    refine bodyPost_ret (v := .tuple #[.pointer none, .int .i64 1]) (by simp [results, Try.results9, go_sem]) rfl ⟨rfl, rfl⟩
  by_cases c2 : 1048577 < n
  · go_enter Try.func9, Try.ntmps9
    go_wp2
    refine bodyPost_ret (v := .tuple #[.pointer none, .int .i64 1]) (by simp [results, Try.results9, go_sem]) rfl ⟨rfl, rfl⟩
  by_cases c3 : W < 1
  · go_enter Try.func9, Try.ntmps9
    go_wp2
    refine bodyPost_ret (v := .tuple #[.pointer none, .int .i64 1]) (by simp [results, Try.results9, go_sem]) rfl ⟨rfl, rfl⟩
  by_cases c4 : 64 < W
  · go_enter Try.func9, Try.ntmps9
    go_wp2
    refine bodyPost_ret (v := .tuple #[.pointer none, .int .i64 1]) (by simp [results, Try.results9, go_sem]) rfl ⟨rfl, rfl⟩
  exact absurd ⟨by omega, by omega, by omega, by omega⟩ h
theorem three_allocR (w : World) (A B C : Obj) : (((w.alloc A).alloc B).alloc C).drew.heap[w.heap.size]? = some A ∧ (((w.alloc A).alloc B).alloc C).drew.heap[w.heap.size + 1]? = some B ∧ (((w.alloc A).alloc B).alloc C).drew.heap[w.heap.size + 1 + 1]? = some C ∧ Below w.heap.size w (((w.alloc A).alloc B).alloc C).drew := by
  have b1 := below_allocR w A
  have b2 := below_allocR (w.alloc A) B
  have b3 := below_allocR ((w.alloc A).alloc B) C
  have s1 : (w.alloc A).heap.size = w.heap.size + 1 := by simp
  have s2 : ((w.alloc A).alloc B).heap.size = w.heap.size + 1 + 1 := by simp
  have h1 := heap_alloc_new w A
  have h2 := heap_alloc_new (w.alloc A) B
  have h3 := heap_alloc_new ((w.alloc A).alloc B) C
  rw [s1] at h2 b2
  rw [s2] at h3 b3
  exact ⟨(b3.block _ (by omega)).trans ((b2.block _ (by omega)).trans h1), (b3.block _ (by omega)).trans h2, h3, ((b1.trans (b2.mono (by omega))).trans (b3.mono (by omega))).trans (below_drewR _ |>.mono (by simp; omega))⟩
set_option maxHeartbeats 3200000 in
theorem xnew_yes (N : Nat) (W : Int) (w : World) (hN : N ≤ 300) (hW : 1 ≤ W ∧ W ≤ 64) : Calls Try.prog 9 #[.int .i64 (N : Int), .int .i64 W] w fun e w' => XnP w N W e w' := by
  obtain ⟨i0, hi0, hz0, hz1, hz2⟩ := info_parts Try.infoBs
  obtain ⟨i1, hi1, hy0, hy1, hy2⟩ := info_parts Try.infoB4
  obtain ⟨mp, hmp⟩ : ∃ mp, madeCells (Value.slice none 0 0).cells (N * 1) = mp := ⟨_, rfl⟩
  obtain ⟨mk, hmk⟩ : ∃ mk, madeCells (Value.bool false).cells (N * 1) = mk := ⟨_, rfl⟩
  have RP : ∀ u : World, (Instr.makeSlice 35 (.int .i64 (N : Int)) (.int .i64 (N : Int))).run Try.prog u = .ok (.slice (some ⟨u.heap.size, 0, none⟩) N N) (u.alloc (.cells mp 32)) := fun u => by
    have := run_makeSlice (P := Try.prog) u 35 32 i0 _ Try.underlying35 hi0 hz0 .i64 .i64 N N (by omega) (Int.le_refl _) (by rw [hz1, Int.toNat_natCast]; omega) (by rw [hz2]; omega) (by omega)
    rw [hz1, Int.toNat_natCast, hmp] at this
    exact this
  have RK : ∀ u : World, (Instr.makeSlice 44 (.int .i64 (N : Int)) (.int .i64 (N : Int))).run Try.prog u = .ok (.slice (some ⟨u.heap.size, 0, none⟩) N N) (u.alloc (.cells mk 4)) := fun u => by
    have := run_makeSlice (P := Try.prog) u 44 4 i1 _ Try.underlying44 hi1 hy0 .i64 .i64 N N (by omega) (Int.le_refl _) (by rw [hy1, Int.toNat_natCast]; omega) (by rw [hy2]; omega) (by omega)
    rw [hy1, Int.toNat_natCast, hmk] at this
    exact this
  have HE1 : Hid (XnP w N W (.returned (.tuple #[.pointer (some ⟨w.heap.size + 1 + 1, 0, none⟩), .int .i64 0])) (((w.alloc (.cells mp 32)).alloc (.cells mk 4)).alloc (.cells #[.slice (some ⟨w.heap.size, 0, none⟩) N N, .slice (some ⟨w.heap.size + 1, 0, none⟩) N N, .int .i64 W] 53)).drew) := by
    obtain ⟨q1, q2, q3, q4⟩ := three_allocR w (.cells mp 32) (.cells mk 4) (.cells #[.slice (some ⟨w.heap.size, 0, none⟩) N N, .slice (some ⟨w.heap.size + 1, 0, none⟩) N N, .int .i64 W] 53)
    exact ⟨_, _, _, rfl, ⟨q3, made_cm q1 q2 hmp hmk, ⟨by omega, by omega⟩, hN, hW⟩, q4, by omega, Nat.le_refl _, by omega⟩
  have HE2 : Hid (XnP w N W (.returned (.tuple #[.pointer (some ⟨w.heap.size + 1 + 1, 0, none⟩), .int .i64 0])) (((w.alloc (.cells mk 4)).alloc (.cells mp 32)).alloc (.cells #[.slice (some ⟨w.heap.size + 1, 0, none⟩) N N, .slice (some ⟨w.heap.size, 0, none⟩) N N, .int .i64 W] 53)).drew) := by
    obtain ⟨q1, q2, q3, q4⟩ := three_allocR w (.cells mk 4) (.cells mp 32) (.cells #[.slice (some ⟨w.heap.size + 1, 0, none⟩) N N, .slice (some ⟨w.heap.size, 0, none⟩) N N, .int .i64 W] 53)
    exact ⟨_, _, _, rfl, ⟨q3, made_cm q2 q1 hmp hmk, ⟨by omega, by omega⟩, hN, hW⟩, q4, by omega, by omega, Nat.le_refl _⟩
  have c1 : ¬ (1048577 : Int) < (N : Int) := by omega
  have c2 : ¬ W < 1 := by omega
  have c3 : ¬ 64 < W := by omega
  clear hmp hmk hi0 hi1 hz0 hz1 hz2 hy0 hy1 hy2
  go_enter Try.func9, Try.ntmps9
  go_upto_region 3 with fail
  go_region
  · go_wp2
    refine bodyPost_ret (v := .tuple #[.pointer (some ⟨w.heap.size + 1 + 1, 0, none⟩), .int .i64 0]) (by simp [results, Try.results9, go_sem]) rfl HE1.out
  · go_wp2
    refine bodyPost_ret (v := .tuple #[.pointer (some ⟨w.heap.size + 1 + 1, 0, none⟩), .int .i64 0]) (by simp [results, Try.results9, go_sem]) rfl HE2.out
/-- A row of bytes lies in no block ob. -/
def Dn (ob : Nat) (q : Pt) : Prop := ∀ x, q.a = some x → q.z ≠ [] → x.block ≠ ob
theorem Dn.pt {w w' : World} {ob : Nat} {q : Pt} (h : PtOk w q) (d : Dn ob q) (hg : w.grownBy w' (some ob)) : PtOk w' q := ⟨h.1, h.2.1, h.2.2.1, h.2.2.2.1, h.2.2.2.2.same fun x hx hz => hg.block x.block (h.2.2.2.2.lt x hx hz) (by have := d x hx hz; simpa using this)⟩
theorem Dn.of_lt {w : World} {q : Pt} {ob : Nat} (h : PtOk w q) (ho : w.heap.size ≤ ob) : Dn ob q := fun x hx hz => by have := h.2.2.2.2.lt x hx hz; omega
structure PlI (w : World) (b m c cb ib N : Nat) (W : Int) (T : Nat) (H : List (Int × Pt)) (A : Nat → Pt) (S : Nat → Bool) (wr : World) : Prop where
  rc : Rc wr b m N W T H
  up : HUp ((T : Int) + 1) H
  rx : Rx wr c cb ib N W A S
  sv : ∀ k, k < N → S k = cameB T H k
  av : ∀ p ∈ H, (A p.1.toNat).z = p.2.z
  be : Below w.heap.size w wr
  fr : w.heap.size ≤ b ∧ w.heap.size ≤ m ∧ w.heap.size ≤ c ∧ w.heap.size ≤ cb ∧ w.heap.size ≤ ib
  ne : (cb ≠ b ∧ cb ≠ m) ∧ (ib ≠ b ∧ ib ≠ m) ∧ (c ≠ b ∧ c ≠ m)
theorem PlI.old {w wr w' : World} {b m c cb ib N T : Nat} {W : Int} {H : List (Int × Pt)} {A : Nat → Pt} {S : Nat → Bool} (h : PlI w b m c cb ib N W T H A S wr) (f : Below wr.heap.size wr w') : PlI w b m c cb ib N W T H A S w' :=
  ⟨h.rc.old f, h.up, h.rx.old f, h.sv, h.av, h.be.trans (f.mono h.be.size), h.fr, h.ne⟩
theorem PlI.fst {w wr : World} {b m c cb ib N T : Nat} {W : Int} {H : List (Int × Pt)} {A : Nat → Pt} {S : Nat → Bool} (h : PlI w b m c cb ib N W T H A S wr) : FstX N T S := by
  obtain ⟨n0, n1, n2, n3, n4, n5⟩ := h.rc.nb
  refine ⟨by omega, fun k hk => ?_, fun hT => ?_⟩
  · rw [h.sv k (by omega)]
    unfold cameB
    rw [decide_eq_true (by omega)]
    rfl
  · rw [h.sv T hT]
    unfold cameB
    rw [decide_eq_false (by omega), h.up.no (by omega)]
    rfl
theorem PlI.keys {w wr : World} {b m c cb ib N T : Nat} {W : Int} {H : List (Int × Pt)} {A : Nat → Pt} {S : Nat → Bool} (h : PlI w b m c cb ib N W T H A S wr) : H.map (·.1) = keysX S N T := keysX_held h.up (fun p hp => (h.rc.top p hp).2) h.sv
/-- The law's own bytes are changed behind the calls. -/
theorem PlI.own {w wr w' : World} {b m c cb ib N T ob : Nat} {W : Int} {H : List (Int × Pt)} {A : Nat → Pt} {S : Nat → Bool} (h : PlI w b m c cb ib N W T H A S wr) (hg : wr.grownBy w' (some ob)) (ho : ob ≠ b ∧ ob ≠ m ∧ ob ≠ c ∧ ob ≠ cb ∧ ob ≠ ib) (hw : w.heap.size ≤ ob) (hH : ∀ p ∈ H, Dn ob p.2) (hA : ∀ k, k < N → Dn ob (A k)) : PlI w b m c cb ib N W T H A S w' := by
  obtain ⟨l1, l2⟩ := h.rx.cm.lt
  obtain ⟨c1, h1, r1⟩ := h.rx.cm.c
  obtain ⟨c2, h2, r2⟩ := h.rx.cm.i
  have bl : ∀ k, k < wr.heap.size → k ≠ ob → w'.heap[k]? = wr.heap[k]? := fun k hk hn => hg.block k hk (by simpa using hn)
  refine ⟨⟨(bl b (lt_of_block h.rc.c) (fun e => ho.1 e.symm)).trans h.rc.c, h.rc.m.same (bl m h.rc.m.lt (fun e => ho.2.1 e.symm)), h.rc.up, h.rc.top, fun p hp => Dn.pt (h.rc.ok p hp) (hH p hp) hg, h.rc.nb⟩, h.up,
    ⟨(bl c (lt_of_block h.rx.ce) (fun e => ho.2.2.1 e.symm)).trans h.rx.ce, ⟨⟨c1, (bl cb l1 (fun e => ho.2.2.2.1 e.symm)).trans h1, r1⟩, ⟨c2, (bl ib l2 (fun e => ho.2.2.2.2 e.symm)).trans h2, r2⟩, fun k hk => Dn.pt (h.rx.cm.ok k hk) (hA k hk) hg⟩, h.rx.ne, h.rx.nb⟩, h.sv, h.av, h.be.grown hg h.be.size (fun k hk => by cases hk; exact hw), h.fr, h.ne⟩
end Go.Proofs.Ytmfciheenemapaa
