/- LZW: a decoder reads codes. -/
import Derived.Test.YtcbmlioeeoghkaaLzH
import Derived.Test.YtcbmlioeeoghkaaLzN
namespace Go.Proofs.Ytcbmlioeeoghkaa
open Go.RowKit
attribute [local go_sem] Oper.semAt_some
/-- Marks of loops that were gone over. -/
def marksL (rs : List Nat) : List Deferred := rs.map fun r => { target := .collected r, args := #[] }
def shutL (w : World) : List Nat → World
  | [] => w
  | r :: rs => shutL (w.putObj r (.deferred none)) rs
theorem shutL_size : ∀ (rs : List Nat) (w : World), (shutL w rs).heap.size = w.heap.size
  | [], _ => rfl
  | r :: rs, w => by rw [shutL, shutL_size rs, World.putObj_size]
theorem shutL_heap : ∀ (rs : List Nat) (w : World) {j : Nat}, j ∉ rs → (shutL w rs).heap[j]? = w.heap[j]?
  | [], _, _, _ => rfl
  | r :: rs, w, j, h => by
    rw [List.mem_cons] at h
    rw [shutL, shutL_heap rs _ (fun q => h (.inr q)), World.putObj_heap_other (fun e => h (.inl e))]
theorem shutL_os : ∀ (rs : List Nat) (w : World), (shutL w rs).os = w.os ∧ (shutL w rs).tape = w.tape ∧ (shutL w rs).output = w.output
  | [], _ => ⟨rfl, rfl, rfl⟩
  | r :: rs, w => by rw [shutL]; exact shutL_os rs _
theorem leaves_marksL {F : Fence} {n : Nat} {P : Program} {fn : Func} {tmps : Array Value} {R : Ending → World → Prop} {u : FrameMode} (hu : u ≠ .run) : ∀ (rs : List Nat) (w : World), (∀ r ∈ rs, w.heap[r]? = some (.deferred (some []))) → rs.Nodup → LeavesInM F n P fn tmps R [] u (shutL w rs) → LeavesInM F n P fn tmps R (marksL rs) u w
  | [], _, _, _, h => h
  | r :: rs, w, hr, hn, h => by
    rw [List.nodup_cons] at hn
    refine ⟨hu, .inl ⟨r, _, rfl, run_takeDeferred (hr r (by simp)), ?_⟩⟩
    refine leaves_marksL hu rs _ (fun q hq => ?_) hn.2 h
    rw [World.putObj_heap_other (by rintro rfl; exact hn.1 hq)]
    exact hr q (by simp [hq])
def bitsAt (w : World) (r : Nat) : Nat := match w.cell? ⟨r, 0, none⟩, w.cell? ⟨r, 1, none⟩ with
  | some (.slice _ n _), some (.int _ x) => 8 * n - x.toNat
  | _, _ => 0
theorem Rd.bits {w : World} {r : Nat} {g : Option Nat} {zs : List Int} {gone : Nat} (h : Rd w r g zs gone) : bitsAt w r = 8 * zs.length - gone := by
  obtain ⟨v, hh, hs⟩ := h
  obtain ⟨a, c, hv, -⟩ := hs.shape
  obtain ⟨q0, q1, -, -⟩ := two_cells hh
  unfold bitsAt
  rw [q0, q1, hv, vals_len]
  simp
/-- A decoder that reads codes. -/
structure Lg (base : Nat) (S : Nat → Prop) (w : World) (d L r : Nat) (g : Option Nat) (fv : Value) (s : Lz) : Prop where
  dc : Dc w d L s.left 0 false (.slice none 0 0) (.pointer (some ⟨r, 0, none⟩)) L fv s.ah
  rd : Rd w r g s.zs s.gone
  tb : TbR w base fv s.fs
  gn : s.gone < 8
  gz : 0 < s.gone → 0 < s.zs.length
  bz : Bytes s.zs
  zl : s.zs.length ≤ 1000000
  wf : WfT L s.fs
  ct : fcN L + s.fs.length ≤ 4096
  ah : s.ah = -1 ∨ ∃ A : Nat, s.ah = (A : Int) ∧ A < fcN L + s.fs.length
  k0 : s.k = 0
  er : s.er = 0
  re : s.rest = []
  lf : s.left ≤ 9223372036854775807
  sd : S d
  sr : S r
  sg : ∀ k, g = some k → S k
  sf : ∀ k, fv.ownBlock = some k → S k
  bs : base ≤ w.heap.size
/-- A decoder, in whichever state. -/
def LE (base : Nat) (S : Nat → Prop) (w : World) (d L r : Nat) (g : Option Nat) (s : Lz) : Prop :=
  (s.k = 0 ∧ ∃ fv, Lg base S w d L r g fv s) ∨
  (s.k = 1 ∧ s.er = 0 ∧ ∃ rv gr, Dc w d L s.left 0 true rv (.pointer none) 0 (.slice none 0 0) 0 ∧ Sl w 5 rv gr (vals s.rest) ∧ ∀ k, gr = some k → S k) ∨
  (s.k = 2 ∧ s.er ≠ 0 ∧ s.rest = [] ∧ Dc w d L s.left s.er false (.slice none 0 0) (.pointer none) 0 (.slice none 0 0) 0)
theorem Lg.kept {base : Nat} {S : Nat → Prop} {w w' : World} {d L r : Nat} {g : Option Nat} {fv : Value} {s : Lz} (h : Lg base S w d L r g fv s) (hk : ∀ (j : Nat) (c : Array Value) t f, w.heap[j]? = some (.cells c t f) → w'.heap[j]? = some (.cells c t f)) (hz : w.heap.size ≤ w'.heap.size) : Lg base S w' d L r g fv s := by
  have hd : Dc w' d L s.left 0 false (.slice none 0 0) (.pointer (some ⟨r, 0, none⟩)) L fv s.ah := hk _ _ _ _ h.dc
  have hr : Rd w' r g s.zs s.gone := by
    obtain ⟨v, hh⟩ := h.rd.tag
    exact h.rd.same ((hk _ _ _ _ hh).trans hh.symm) fun k e => by obtain ⟨c, hc⟩ := h.rd.gtag e; exact (hk _ _ _ _ hc).trans hc.symm
  have ht : TbR w' base fv s.fs := h.tb.same fun k c _ hc => (hk _ _ _ _ hc).trans hc.symm
  exact ⟨hd, hr, ht, h.gn, h.gz, h.bz, h.zl, h.wf, h.ct, h.ah, h.k0, h.er, h.re, h.lf, h.sd, h.sr, h.sg, h.sf, Nat.le_trans h.bs hz⟩
theorem Lg.owns {base : Nat} {S S' : Nat → Prop} {w : World} {d L r : Nat} {g : Option Nat} {fv : Value} {s : Lz} (h : Lg base S w d L r g fv s) (h1 : S' d) (h2 : S' r) (h3 : ∀ k, g = some k → S' k) (h4 : ∀ k, fv.ownBlock = some k → S' k) : Lg base S' w d L r g fv s :=
  ⟨h.dc, h.rd, h.tb, h.gn, h.gz, h.bz, h.zl, h.wf, h.ct, h.ah, h.k0, h.er, h.re, h.lf, h1, h2, h3, h4, h.bs⟩
theorem LE.kept {base : Nat} {S : Nat → Prop} {w w' : World} {d L r : Nat} {g : Option Nat} {s : Lz} (h : LE base S w d L r g s) (hk : ∀ (j : Nat) (c : Array Value) t f, w.heap[j]? = some (.cells c t f) → w'.heap[j]? = some (.cells c t f)) (hz : w.heap.size ≤ w'.heap.size) : LE base S w' d L r g s := by
  rcases h with ⟨h1, fv, h2⟩ | ⟨h1, h2, rv, gr, h3, h4, h5⟩ | ⟨h1, h2, h3, h4⟩
  · exact .inl ⟨h1, fv, h2.kept hk hz⟩
  · exact .inr (.inl ⟨h1, h2, rv, gr, hk _ _ _ _ h3, h4.same fun k e => by obtain ⟨c, hc⟩ := h4.tagL e; exact (hk _ _ _ _ hc).trans hc.symm, h5⟩)
  · exact .inr (.inr ⟨h1, h2, h3, hk _ _ _ _ h4⟩)
/-- What read leaves and tells. -/
def ReP (w : World) (base : Nat) (S0 : Nat → Prop) (d L r : Nat) (g : Option Nat) (s0 : Lz) (e : Ending) (w' : World) : Prop :=
  ∃ s T tv tg, e = .returned tv ∧ Sl w' 5 tv tg (vals T) ∧ (∀ k, tg = some k → w.heap.size ≤ k) ∧ s.out = s0.out ++ T ∧ lzG L s0 = s ∧ LE base (fun k => (S0 k ∨ w.heap.size ≤ k) ∧ tg ≠ some k) w' d L r g s ∧ LFr (fun k => S0 k ∨ w.heap.size ≤ k) w w'
/-- Behind the last code that is read. -/
structure LrE (w : World) (base : Nat) (S0 : Nat → Prop) (d L r : Nat) (g : Option Nat) (s0 : Lz) (rs : List Nat) (s : Lz) (tv : Value) (tg : Option Nat) (wr : World) : Prop where
  le : LE base (fun k => (S0 k ∨ w.heap.size ≤ k) ∧ tg ≠ some k) wr d L r g s
  tc : wr.heap[w.heap.size + 1]? = some (.cells #[tv] 22 (0, 0))
  sl : ∃ T, Sl wr 5 tv tg (vals T) ∧ s.out = s0.out ++ T
  tn : ∀ k, tg = some k → w.heap.size + 2 ≤ k
  ms : ∀ q ∈ rs, w.heap.size + 2 ≤ q ∧ wr.heap[q]? = some (.deferred (some []))
  nd : rs.Nodup
  fr : LFr (fun k => S0 k ∨ w.heap.size ≤ k) w wr
  go : lzG L s0 = s
theorem LrE.fin {w : World} {base : Nat} {S0 : Nat → Prop} {d L r : Nat} {g : Option Nat} {s0 : Lz} {rs : List Nat} {s : Lz} {tv : Value} {tg : Option Nat} {wr : World} (h : LrE w base S0 d L r g s0 rs s tv tg wr) : ReP w base S0 d L r g s0 (.returned tv) (shutL wr rs) := by
  have hk : ∀ (j : Nat) (c : Array Value) t f, wr.heap[j]? = some (.cells c t f) → (shutL wr rs).heap[j]? = some (.cells c t f) := fun j c t f hj => by
    rw [shutL_heap rs wr (fun hm => by have := (h.ms j hm).2; rw [hj] at this; cases this)]; exact hj
  obtain ⟨T, h1, h2⟩ := h.sl
  refine ⟨s, T, tv, tg, rfl, h1.same fun k e => by obtain ⟨c, hc⟩ := h1.tagL e; exact (hk _ _ _ _ hc).trans hc.symm, fun k e => by have := h.tn k e; omega, h2, h.go, h.le.kept hk (by rw [shutL_size]; exact Nat.le_refl _), ?_⟩
  obtain ⟨e1, e2, e3⟩ := shutL_os rs wr
  exact ⟨e1.trans h.fr.os, e2.trans h.fr.tape, e3.trans h.fr.output, by rw [shutL_size]; exact h.fr.size, fun k hk' hn => by rw [shutL_heap rs wr (fun hm => by have := (h.ms k hm).1; omega)]; exact h.fr.block k hk' hn⟩
/-- Between two codes. -/
structure LrI (w : World) (base : Nat) (S0 : Nat → Prop) (d L r : Nat) (g : Option Nat) (s0 : Lz) (rs : List Nat) (s : Lz) (fv tv : Value) (tg : Option Nat) (wr : World) : Prop where
  lg : Lg base (fun k => S0 k ∨ w.heap.size ≤ k) wr d L r g fv s
  db : wr.heap[w.heap.size]? = some (.cells #[.pointer (some ⟨d, 0, none⟩)] 24 (0, 0))
  tc : wr.heap[w.heap.size + 1]? = some (.cells #[tv] 22 (0, 0))
  sl : ∃ T, Sl wr 5 tv tg (vals T) ∧ s.out = s0.out ++ T
  tn : ∀ k, tg = some k → w.heap.size + 2 ≤ k
  ms : ∀ q ∈ rs, w.heap.size + 2 ≤ q ∧ wr.heap[q]? = some (.deferred (some []))
  nd : rs.Nodup
  fr : LFr (fun k => S0 k ∨ w.heap.size ≤ k) w wr
  lo : d < w.heap.size ∧ r < w.heap.size ∧ ∀ k, g = some k → k < w.heap.size
theorem LrI.drew {w : World} {base : Nat} {S0 : Nat → Prop} {d L r : Nat} {g : Option Nat} {s0 : Lz} {rs : List Nat} {s : Lz} {fv tv : Value} {tg : Option Nat} {wr : World} (h : LrI w base S0 d L r g s0 rs s fv tv tg wr) (n : Nat) : LrI w base S0 d L r g s0 rs s fv tv tg (wr.drewN n) := by
  obtain ⟨T, h1, h2⟩ := h.sl
  exact ⟨h.lg.kept (fun _ _ _ _ hj => hj) (Nat.le_refl _), h.db, h.tc, ⟨T, h1.same fun _ _ => rfl, h2⟩, h.tn, h.ms, h.nd, ⟨h.fr.os, h.fr.tape, h.fr.output, h.fr.size, h.fr.block⟩, h.lo⟩
theorem LrI.take {w : World} {base : Nat} {S0 : Nat → Prop} {d L r : Nat} {g : Option Nat} {s0 : Lz} {rs : List Nat} {s : Lz} {fv tv : Value} {tg : Option Nat} {wr w6 : World} {n W : Nat} (h : LrI w base S0 d L r g s0 rs s fv tv tg wr) (hW : s.gone + W ≤ 8 * s.zs.length) (hr : Rd w6 r g (s.zs.drop ((s.gone + W) / 8)) ((s.gone + W) % 8)) (hf : Fr (wr.drewN n) w6 r g) : LrI w base S0 d L r g s0 rs (lzP s W) fv tv tg w6 := by
  obtain ⟨T, h1, h2⟩ := h.sl
  obtain ⟨l1, l2, l3⟩ := h.lo
  have lg := h.lg
  have kb : ∀ (j : Nat) (o : Obj), wr.heap[j]? = some o → j ≠ r → some j ≠ g → w6.heap[j]? = some o := fun j o hj hr hg => (hf.block j (lt_of_block hj) hr hg).trans hj
  have hi : ∀ j, w.heap.size ≤ j → j ≠ r ∧ some j ≠ g := fun j hj => ⟨by omega, fun e => by have := l3 j e.symm; omega⟩
  have hdn := lg.dc.neR lg.rd
  have hd : Dc w6 d L s.left 0 false (.slice none 0 0) (.pointer (some ⟨r, 0, none⟩)) L fv s.ah := kb _ _ lg.dc hdn.1 hdn.2
  have ht : TbR w6 base fv s.fs := lg.tb.same fun k c hk hc => by
    refine (kb _ _ hc (fun e => ?_) (fun e => ?_)).trans hc.symm
    · obtain ⟨v, hv⟩ := lg.rd.tag; rw [← e, hc] at hv; simp at hv
    · obtain ⟨v, hv⟩ := lg.rd.gtag e.symm; rw [hc] at hv; simp at hv
  have hz : w.heap.size + 2 ≤ wr.heap.size := by have := lt_of_block h.tc; omega
  refine ⟨⟨hd, hr, ht, by show (s.gone + W) % 8 < 8; omega, ?_, fun x hx => lg.bz x (List.mem_of_mem_drop hx), ?_, lg.wf, lg.ct, lg.ah, lg.k0, lg.er, lg.re, lg.lf, lg.sd, lg.sr, lg.sg, lg.sf, Nat.le_trans lg.bs hf.size⟩, ?_, ?_, ⟨T, ?_, h2⟩, h.tn, ?_, h.nd, ?_, h.lo⟩
  · show 0 < (s.gone + W) % 8 → 0 < (s.zs.drop ((s.gone + W) / 8)).length
    rw [List.length_drop]; intro hp; omega
  · show (s.zs.drop ((s.gone + W) / 8)).length ≤ 1000000
    have := lg.zl; rw [List.length_drop]; omega
  · exact kb _ _ h.db (hi _ (Nat.le_refl _)).1 (hi _ (Nat.le_refl _)).2
  · exact kb _ _ h.tc (hi _ (by omega)).1 (hi _ (by omega)).2
  · refine h1.same fun k hk => ?_
    obtain ⟨c, hc⟩ := h1.tagL hk
    have := h.tn k hk
    exact (kb _ _ hc (hi k (by omega)).1 (hi k (by omega)).2).trans hc.symm
  · intro q hq
    obtain ⟨m1, m2⟩ := h.ms q hq
    exact ⟨m1, kb _ _ m2 (hi q (by omega)).1 (hi q (by omega)).2⟩
  · refine h.fr.trans (S' := fun k => S0 k ∨ w.heap.size ≤ k) (LFr.of_fr ⟨hf.os, hf.tape, hf.output, hf.size, hf.block⟩ lg.sr lg.sg) fun k hk => .inl hk
theorem LrI.stop {w : World} {base : Nat} {S0 : Nat → Prop} {d L r : Nat} {g : Option Nat} {s0 : Lz} {rs : List Nat} {s : Lz} {fv tv : Value} {tg : Option Nat} {wr : World} (h : LrI w base S0 d L r g s0 rs s fv tv tg wr) (hgo : lzG L s0 = lzG L s) (hn : lzS L s = none) : LrE w base S0 d L r g s0 rs s tv tg wr := by
  obtain ⟨T, h1, h2⟩ := h.sl
  have lg := h.lg
  obtain ⟨l1, l2, l3⟩ := h.lo
  refine ⟨.inl ⟨h.lg.k0, fv, lg.owns ⟨lg.sd, fun e => ?_⟩ ⟨lg.sr, fun e => ?_⟩ (fun k hk => ⟨lg.sg k hk, fun e => ?_⟩) (fun k hk => ⟨lg.sf k hk, fun e => ?_⟩)⟩, h.tc, ⟨T, h1, h2⟩, h.tn, h.ms, h.nd, h.fr, hgo.trans (lzG_stop (.inr hn))⟩
  · have := h.tn _ e; omega
  · have := h.tn _ e; omega
  · have := h.tn _ e; have := l3 k hk; omega
  · obtain ⟨c, hc⟩ := h1.tagL e
    obtain ⟨_, cur, hc2⟩ := lg.tb.tag hk
    rw [hc] at hc2; simp at hc2
theorem LrI.tab {w : World} {base : Nat} {S0 : Nat → Prop} {d L r : Nat} {g : Option Nat} {s0 : Lz} {rs : List Nat} {s : Lz} {fv tv : Value} {tg : Option Nat} {wr w7 : World} {fs' : List Tx} {ah' : Int} (h : LrI w base S0 d L r g s0 rs s fv tv tg wr) (q : TfP wr d base L s.left 0 false (.slice none 0 0) (.pointer (some ⟨r, 0, none⟩)) fv fs' ah' w7) (hwf : WfT L fs') (hct : fcN L + fs'.length ≤ 4096) (hah : ah' = -1 ∨ ∃ A : Nat, ah' = (A : Int) ∧ A < fcN L + fs'.length) :
    ∃ fv', LrI w base S0 d L r g s0 rs { s with fs := fs', ah := ah' } fv' tv tg w7 := by
  obtain ⟨fv', q1, q2, q3, q4⟩ := q
  obtain ⟨T, h1, h2⟩ := h.sl
  obtain ⟨l1, l2, l3⟩ := h.lo
  have lg := h.lg
  have hz : w.heap.size + 2 ≤ wr.heap.size := by have := lt_of_block h.tc; omega
  have kc : ∀ (j : Nat) (o : Obj), wr.heap[j]? = some o → j ≠ d → (∀ c, o ≠ .cells c 74 (0, 0)) → w7.heap[j]? = some o := fun j o hj hd ho =>
    (q3.block j (lt_of_block hj) hd (fun e => by obtain ⟨_, cur, hc⟩ := lg.tb.tag e.symm; rw [hj] at hc; exact ho _ (Option.some.inj hc))).trans hj
  have hdn := lg.dc.neR lg.rd
  refine ⟨fv', ⟨q1, ?_, q2, lg.gn, lg.gz, lg.bz, lg.zl, hwf, hct, hah, lg.k0, lg.er, lg.re, lg.lf, lg.sd, lg.sr, lg.sg, fun k hk => ?_, Nat.le_trans lg.bs q3.size⟩, ?_, ?_, ⟨T, ?_, h2⟩, h.tn, ?_, h.nd, ?_, h.lo⟩
  · refine lg.rd.same ?_ fun k hk => ?_
    · obtain ⟨v, hv⟩ := lg.rd.tag
      exact (kc _ _ hv hdn.1.symm (fun c e => by simp at e)).trans hv.symm
    · obtain ⟨v, hv⟩ := lg.rd.gtag hk
      exact (kc _ _ hv (fun e => hdn.2 (by rw [hk, e])) (fun c e => by simp at e)).trans hv.symm
  · rcases q4 with e | ⟨j, e, hj⟩
    · exact lg.sf k (e.symm.trans hk)
    · rw [e] at hk; cases hk; exact .inr (by omega)
  · exact kc _ _ h.db (by omega) (fun c e => by simp at e)
  · exact kc _ _ h.tc (by omega) (fun c e => by simp at e)
  · refine h1.same fun k hk => ?_
    obtain ⟨c, hc⟩ := h1.tagL hk
    have := h.tn k hk
    exact (kc _ _ hc (by omega) (fun c e => by simp at e)).trans hc.symm
  · intro p hp
    obtain ⟨m1, m2⟩ := h.ms p hp
    exact ⟨m1, kc _ _ m2 (by omega) (fun c e => by cases e)⟩
  · exact h.fr.trans (S' := fun k => S0 k ∨ w.heap.size ≤ k) (LFr.of_fr q3 lg.sd lg.sf) fun k hk => .inl hk
/-- A decoder ends, or fails. -/
theorem LrI.over {w : World} {base : Nat} {S0 : Nat → Prop} {d L r : Nat} {g : Option Nat} {s0 : Lz} {rs : List Nat} {s t : Lz} {fv tv : Value} {tg : Option Nat} {wr w7 : World} (h : LrI w base S0 d L r g s0 rs s fv tv tg wr) (hf : LFr (fun k => k = d ∨ k = r ∨ g = some k) wr w7) (hle : LE base (fun k => (S0 k ∨ w.heap.size ≤ k) ∧ tg ≠ some k) w7 d L r g t) (ho : t.out = s.out) (hg : lzG L s0 = t) : LrE w base S0 d L r g s0 rs t tv tg w7 := by
  obtain ⟨T, h1, h2⟩ := h.sl
  obtain ⟨l1, l2, l3⟩ := h.lo
  have hz : w.heap.size + 2 ≤ wr.heap.size := by have := lt_of_block h.tc; omega
  have kc : ∀ (j : Nat), w.heap.size ≤ j → j < wr.heap.size → w7.heap[j]? = wr.heap[j]? := fun j h1 h2 => hf.block j h2 (fun e => by
    rcases e with e | e | e
    · omega
    · omega
    · have := l3 j e; omega)
  refine ⟨hle, (kc _ (by omega) (by omega)).trans h.tc, ⟨T, ?_, by rw [ho]; exact h2⟩, h.tn, ?_, h.nd, ?_, hg⟩
  · exact h1.same fun k hk => kc k (by have := h.tn k hk; omega) (h1.lt hk)
  · intro p hp
    obtain ⟨m1, m2⟩ := h.ms p hp
    exact ⟨m1, (kc p (by omega) (lt_of_block m2)).trans m2⟩
  · exact h.fr.trans (S' := fun k => k = d ∨ k = r ∨ g = some k) hf fun k hk => .inl (by
      rcases hk with rfl | rfl | e
      · exact h.lg.sd
      · exact h.lg.sr
      · exact h.lg.sg k e)
/-- What lies elsewhere changes. -/
theorem LrI.on {w : World} {base : Nat} {S0 : Nat → Prop} {d L r : Nat} {g : Option Nat} {s0 : Lz} {rs : List Nat} {s : Lz} {fv tv : Value} {tg : Option Nat} {W1 W2 : World} (h : LrI w base S0 d L r g s0 rs s fv tv tg W1) (ho : W2.os = W1.os ∧ W2.tape = W1.tape ∧ W2.output = W1.output) (hz : W1.heap.size ≤ W2.heap.size)
    (hb : ∀ k, (k < w.heap.size + 2 ∨ fv.ownBlock = some k ∨ tg = some k ∨ k ∈ rs) → W2.heap[k]? = W1.heap[k]?) : LrI w base S0 d L r g s0 rs s fv tv tg W2 := by
  obtain ⟨T, h1, h2⟩ := h.sl
  obtain ⟨l1, l2, l3⟩ := h.lo
  have lg := h.lg
  refine ⟨⟨(hb d (.inl (by omega))).trans lg.dc, lg.rd.same (hb r (.inl (by omega))) fun k hk => hb k (.inl (by have := l3 k hk; omega)), lg.tb.same fun k c hk _ => hb k (.inr (.inl hk)), lg.gn, lg.gz, lg.bz, lg.zl, lg.wf, lg.ct, lg.ah, lg.k0, lg.er, lg.re, lg.lf, lg.sd, lg.sr, lg.sg, lg.sf, Nat.le_trans lg.bs hz⟩, (hb _ (.inl (by omega))).trans h.db, (hb _ (.inl (by omega))).trans h.tc, ⟨T, h1.same fun k hk => hb k (.inr (.inr (.inl hk))), h2⟩, h.tn, fun q hq => ⟨(h.ms q hq).1, (hb q (.inr (.inr (.inr hq)))).trans (h.ms q hq).2⟩, h.nd, ?_, h.lo⟩
  exact ⟨ho.1.trans h.fr.os, ho.2.1.trans h.fr.tape, ho.2.2.trans h.fr.output, Nat.le_trans h.fr.size hz, fun k hk hn => (hb k (.inl (by omega))).trans (h.fr.block k hk hn)⟩
def lzI (s : Lz) (T : List Int) (i : Nat) : Lz := { s with out := s.out ++ T.take i, left := s.left - i }
/-- A byte more is told. -/
theorem LrI.tell {w : World} {base : Nat} {S0 : Nat → Prop} {d L r : Nat} {g : Option Nat} {s0 : Lz} {rs : List Nat} {s : Lz} {fv tv : Value} {tg : Option Nat} {W W3 w7 : World} {T : List Int} {x : Int} {v7 : Value} {g7 : Option Nat} (h : LrI w base S0 d L r g s0 rs s fv tv tg W) (hT : Sl W 5 tv tg (vals T) ∧ s.out = s0.out ++ T) (hl : 0 < s.left)
    (hb : Below (W.setCell ⟨d, 1, none⟩ (.int .i64 ((s.left : Int) - 1))).heap.size (W.setCell ⟨d, 1, none⟩ (.int .i64 ((s.left : Int) - 1))) W3) (q1 : Sl w7 5 v7 g7 (vals (T ++ [x]))) (q2 : g7 = tg ∨ ∃ k, g7 = some k ∧ W3.heap.size ≤ k) (q3 : W3.grownBy w7 tg) :
    w7.cell? ⟨w.heap.size + 1, 0, none⟩ = some tv ∧ w7.frozen? ⟨w.heap.size + 1, 0, none⟩ = false ∧ LrI w base S0 d L r g s0 rs { s with out := s.out ++ [x], left := s.left - 1 } fv v7 g7 (w7.setCell ⟨w.heap.size + 1, 0, none⟩ v7) ∧ (∀ k, k < W.heap.size → k ≠ d → k ≠ w.heap.size + 1 → some k ≠ tg → (w7.setCell ⟨w.heap.size + 1, 0, none⟩ v7).heap[k]? = W.heap[k]?) ∧ W.heap.size ≤ w7.heap.size ∧ W.heap.size ≤ W3.heap.size := by
  obtain ⟨h1, h2⟩ := hT
  obtain ⟨l1, l2, l3⟩ := h.lo
  have lg := h.lg
  have hzs : (W.setCell ⟨d, 1, none⟩ (.int .i64 ((s.left : Int) - 1))).heap.size = W.heap.size := by simp [World.setCell]
  rw [hzs] at hb
  have hdW := lg.dc.set1 ((s.left : Int) - 1)
  have hz := hb.size
  rw [hzs] at hz
  have hz2 : w.heap.size + 2 ≤ W.heap.size := by have := lt_of_block h.tc; omega
  have kA : ∀ k, k < W.heap.size → k ≠ d → some k ≠ tg → w7.heap[k]? = W.heap[k]? := fun k hk hd ht => (q3.block k (by omega) ht).trans ((hb.block k hk).trans (Below.heap_setCell _ _ _ _ hd))
  have tgl : ∀ k, tg = some k → w.heap.size + 2 ≤ k := h.tn
  have ntg : ∀ k, k < w.heap.size + 2 → some k ≠ tg := fun k hk e => by have := tgl k e.symm; omega
  have hd7 : Dc w7 d L ((s.left : Int) - 1) 0 false (.slice none 0 0) (.pointer (some ⟨r, 0, none⟩)) L fv s.ah := ((q3.block d (by omega) (ntg d (by omega))).trans (hb.block d (by omega))).trans hdW
  have ht7 := (kA _ (by omega) (by omega) (ntg _ (by omega))).trans h.tc
  have hc7 := one_cellL ht7
  have hg7 : ∀ k, g7 = some k → w.heap.size + 2 ≤ k := fun k hk => by
    rcases q2 with e | ⟨j, e, hj⟩
    · exact tgl k (e.symm.trans hk)
    · rw [e] at hk; cases hk; omega
  have k8 : ∀ k, k < W.heap.size → k ≠ d → k ≠ w.heap.size + 1 → some k ≠ tg → (w7.setCell ⟨w.heap.size + 1, 0, none⟩ v7).heap[k]? = W.heap[k]? := fun k a1 a2 a3 a4 => (Below.heap_setCell _ _ _ _ a3).trans (kA k a1 a2 a4)
  have ntc : ∀ k c t f, W.heap[k]? = some (.cells c t f) → t ≠ 5 → some k ≠ tg := fun k c t f hk ht e => by
    obtain ⟨cc, hcc⟩ := h1.tagL e.symm
    rw [hk] at hcc; simp at hcc; exact ht hcc.2.1
  refine ⟨hc7.1, hc7.2, ⟨⟨?_, ?_, ?_, lg.gn, lg.gz, lg.bz, lg.zl, lg.wf, lg.ct, lg.ah, lg.k0, lg.er, lg.re, by have := lg.lf; show s.left - 1 ≤ _; omega, lg.sd, lg.sr, lg.sg, lg.sf, ?_⟩, ?_, ?_, ⟨T ++ [x], ?_, ?_⟩, hg7, ?_, h.nd, ?_, h.lo⟩, k8, by have := q3.size; omega, by omega⟩
  · have e : ((s.left - 1 : Nat) : Int) = (s.left : Int) - 1 := by omega
    show Dc _ d L ((s.left - 1 : Nat) : Int) 0 false (.slice none 0 0) (.pointer (some ⟨r, 0, none⟩)) L fv s.ah
    rw [e]
    exact (Below.heap_setCell _ _ _ _ (by show d ≠ w.heap.size + 1; omega)).trans hd7
  · have hdn := lg.dc.neR lg.rd
    exact lg.rd.same (k8 r (by omega) hdn.1.symm (by omega) (ntg r (by omega))) fun k hk => by have := l3 k hk; exact k8 k (by omega) (fun e => hdn.2 (by rw [hk, e])) (by omega) (ntg k (by omega))
  · refine lg.tb.same fun k c hk hc => k8 k (lt_of_block hc) (fun e => lg.dc.neT lg.tb (by rw [hk, e])) (fun e => ?_) (ntc k _ _ _ hc (by decide))
    rw [e, h.tc] at hc; simp at hc
  · have := lg.bs; have := q3.size; simp [World.setCell]; omega
  · exact (k8 _ (by omega) (by omega) (by omega) (ntg _ (by omega))).trans h.db
  · rw [heap_setCell_same w7 (w.heap.size + 1) 0 _ _ _ ht7]; rfl
  · exact q1.same fun k hk => Below.heap_setCell _ _ _ _ (by have := hg7 k hk; show k ≠ w.heap.size + 1; omega)
  · show s.out ++ [x] = s0.out ++ (T ++ [x]); rw [h2, List.append_assoc]
  · intro q hq
    obtain ⟨m1, m2⟩ := h.ms q hq
    refine ⟨m1, (k8 q (lt_of_block m2) (by omega) (by omega) (fun e => ?_)).trans m2⟩
    obtain ⟨cc, hcc⟩ := h1.tagL e.symm
    rw [m2] at hcc; cases hcc
  · have hS : (fun k => S0 k ∨ w.heap.size ≤ k) d := lg.sd
    have f1 : LFr (fun k => S0 k ∨ w.heap.size ≤ k) W (W.setCell ⟨d, 1, none⟩ (.int .i64 ((s.left : Int) - 1))) := LFr.of_fr (g := none) (frL_set 1 _) hS (fun k hk => by cases hk)
    have f2 : LFr (fun k => S0 k ∨ w.heap.size ≤ k) (W.setCell ⟨d, 1, none⟩ (.int .i64 ((s.left : Int) - 1))) W3 := LFr.of_below (by rw [hzs]; exact hb)
    have f3 : LFr (fun k => S0 k ∨ w.heap.size ≤ k) W3 w7 := ⟨q3.os, q3.tape, q3.output, q3.size, fun k hk hn => q3.block k hk (fun e => hn (.inr (by have := tgl k e.symm; omega)))⟩
    have f4 : LFr (fun k => S0 k ∨ w.heap.size ≤ k) w7 (w7.setCell ⟨w.heap.size + 1, 0, none⟩ v7) := LFr.of_fr (g := none) (frL_set 0 _) (.inr (by omega)) (fun k hk => by cases hk)
    exact (((h.fr.trans f1 (fun k hk => .inl hk)).trans f2 (fun k hk => .inl hk)).trans f3 (fun k hk => .inl hk)).trans f4 (fun k hk => .inl hk)
end Go.Proofs.Ytcbmlioeeoghkaa
