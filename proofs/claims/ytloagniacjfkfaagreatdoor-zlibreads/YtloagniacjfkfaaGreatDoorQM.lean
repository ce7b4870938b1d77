/- Joined: Jd Je Jh. -/
import Derived.Test.YtloagniacjfkfaaGreatDoorQL
/- A decoder reads, item by item. -/
namespace Go.Proofs.YtloagniacjfkfaaGreatDoor
open Go.RowKit
section
variable {w : World} {d lim n0 : Nat} {s : St} {L : List Int} {a : Nat} {o : Ow} {V : Vs}
theorem callFn {f : FuncId} {fn : Func} (hf : Tryz.prog.funcs[f]? = some fn) (hn : (fn.name == "runtime.NumGoroutine") = false) (hb : fn.body.isNone = false) (args : Array Value) (w : World) : (callFunc f args).run Tryz.prog w = .ok (.enter f args) w := by
  have h1 : fn.name ≠ "runtime.NumGoroutine" := by simpa using hn
  have h2 : fn.body ≠ none := by intro e; rw [e] at hb; cases hb
  simp [callFunc, hf, h1, h2]
theorem rdF_call (k : Nat) (hk : k ≤ 10) (args : Array Value) (w : World) : (callFunc (rdF k) args).run Tryz.prog w = .ok (.enter (rdF k) args) w := by
  match k, hk with
  | 0, _ => exact callFn Tryz.func108 (by kernel_rfl) (by kernel_rfl) args w
  | 1, _ => exact callFn Tryz.func109 (by kernel_rfl) (by kernel_rfl) args w
  | 2, _ => exact callFn Tryz.func110 (by kernel_rfl) (by kernel_rfl) args w
  | 3, _ => exact callFn Tryz.func111 (by kernel_rfl) (by kernel_rfl) args w
  | 4, _ => exact callFn Tryz.func112 (by kernel_rfl) (by kernel_rfl) args w
  | 5, _ => exact callFn Tryz.func113 (by kernel_rfl) (by kernel_rfl) args w
  | 6, _ => exact callFn Tryz.func114 (by kernel_rfl) (by kernel_rfl) args w
  | 7, _ => exact callFn Tryz.func115 (by kernel_rfl) (by kernel_rfl) args w
  | 8, _ => exact callFn Tryz.func116 (by kernel_rfl) (by kernel_rfl) args w
  | 9, _ => exact callFn Tryz.func117 (by kernel_rfl) (by kernel_rfl) args w
  | 10, _ => exact callFn Tryz.func118 (by kernel_rfl) (by kernel_rfl) args w
set_option maxHeartbeats 1600000 in
set_option maxRecDepth 20000 in
theorem read_any (h : AtS w d lim n0 s L a o V) (hi : Inv s) (hord : Ord w) (hown : Own1 d o) (hlim : lim ≤ 1000000) :
    Calls Tryz.prog 67 #[.pointer (some ⟨d, 0, none⟩)] w fun e w' => RdDone w d lim n0 s L a o e w' := by
  have HS : Hid (RdRel w d lim n0 s L a o w s a o V) := ⟨h, hi, hord, hown, Step.refl _ _ _, fun _ h => h⟩
  clear h hi hord hown
  go_enter Tryz.func67, Tryz.ntmps67
  go_wp2
  go_step3
  go_wp2
  go_step3
  go_wp2
  go_loopg [2, 3, 4] (msr L a s) (fun fu _ _ _ wr => ∃ (s1 : St) (a1 : Nat) (o1 : Ow) (V1 : Vs), msr L a1 s1 ≤ fu ∧ Hid (RdRel w d lim n0 s L a o wr s1 a1 o1 V1))
  case atStart => exact ⟨s, a, o, V, Nat.le_refl _, HS.out⟩
  case round =>
    clear HS
    obtain ⟨s1, a1, o1, V1, hm, HR⟩ := hrel
    have k2 := HR.out.now
    by_cases h11 : s1.now = 11
    · have HP : Hid (RdDone w d lim n0 s L a o (.returned (.tuple #[])) wr) := HR.out.fin h11
      rw [h11] at k2
      clear HR
      go_wp2
      rw [Exit.noGoto_normal]
      go_end0
      exact HP.out
    · have h10 : s1.now ≤ 10 := by have := HR.out.2.1.now; omega
      have hne : ¬ ((s1.now : Int) = 11) := by omega
      obtain ⟨K, hK⟩ : ∃ K, s1.now = K := ⟨_, rfl⟩
      have HK : Hid (s1.now = K) := hK
      rw [hK] at k2 hne h10
      clear hK h11
      have HRD : Hid (∀ n, Calls Tryz.prog 92 #[.int .i64 K] (wr.drewN n) fun e w' => e = .returned (.func (.func (rdF K)) #[] #[]) ∧ w' = wr.drewN n) := fun n => reader_any K h10 _
      go_wp2
      go_region_held3 (fun u => u.cell? ⟨d, 2, none⟩ = some (.int .i64 K)) (go_keep) (first
        | (go_at_call 92; refine Calls.mono (HRD.out _) ?_; rintro e w4 ⟨rfl, rfl⟩)
        | fail)
      have HQ : Hid (RdRel w d lim n0 s L a o (wr.drewN 1) s1 a1 o1 V1) := HR.out.drewN 1
      generalize wr.drewN 1 = wq at HQ ⊢
      clear HR HRD k2
      go_wp2
      obtain ⟨G, hG⟩ : ∃ G, G = gk := ⟨_, rfl⟩
      have HG : Hid (G = gk) := hG
      rw [← hG] at hm
      clear hG
      go_loopg [4] G (fun fu _ wr => ∃ (s2 : St) (a2 : Nat) (o2 : Ow) (V2 : Vs), s2.now = K ∧ msr L a2 s2 ≤ fu ∧ fu ≤ G ∧ Hid (RdRel w d lim n0 s L a o wr s2 a2 o2 V2))
      case atStart => exact ⟨s1, a1, o1, V1, HK.out, hm, Nat.le_refl _, HQ.out⟩
      case round =>
        clear HQ HK hm
        obtain ⟨s2, a2, o2, V2, hs2, hm, hmg, HR⟩ := hrel
        have HK : Hid (s2.now = K) := hs2
        have HM : Hid (msr L a2 s2 ≤ gk ∧ gk ≤ G) := ⟨hm, hmg⟩
        have HC : Calls Tryz.prog (rdF K) #[.pointer (some ⟨d, 0, none⟩)] wr fun e w' => ItPost wr d lim n0 s2 L a2 o2 (item lim s2 (L.drop a2)) e w' := by
          have := HR.out.item (by rw [hs2]; exact h10) hlim
          rwa [hs2] at this
        have hcf := rdF_call K h10
        clear hs2 hm hmg
        go_wp2_with fail
        refine HC.mono ?_
        rintro e w3 hpost
        cases hx : item lim s2 (L.drop a2) with
        | short =>
          rw [hx] at hpost
          obtain ⟨rfl, o3, V3, l3, s3⟩ := hpost
          have HP : Hid (RdDone w d lim n0 s L a o (.returned (.tuple #[])) w3) := HR.out.short (by rw [HK.out]; exact h10) hx l3 s3
          clear hcf HR HK HM HC hx l3 s3
          go_wp2
          rw [Exit.noGoto_normal]
          go_end0
          exact HP.out
        | bad er out =>
          rw [hx] at hpost
          obtain ⟨rfl, he0, he2, s3, a3, o3, V3, l3, ho3, hn3, st3⟩ := hpost
          have HF : Hid (∀ n, Calls Tryz.prog 93 #[.pointer (some ⟨d, 0, none⟩), .int .i64 er] (w3.drewN n) fun e w' => FailPost (w3.drewN n) d n0 out er o3 e w') := fun n => by
            have := fail_any er (l3.drewN n) hn3
            rwa [ho3] at this
          have HP : Hid (∀ w4, FailPost w3 d n0 out er o3 (.returned (.tuple #[])) w4 → RdDone w d lim n0 s L a o (.returned (.tuple #[])) w4) := fun w4 hf => HR.out.bad (by rw [HK.out]; exact h10) hx he0 st3 hf
          have hb2 : (er == 2) = false := by simpa using he2
          have hb0 : (er == 0) = false := by simpa using he0
          clear hcf HR HK HM HC hx l3 ho3 hn3 st3
          go_wp2_with fail
          refine (HF.out 0).mono ?_
          rintro e w4 ⟨rfl, f1, f2⟩
          have HP2 := HP.out w4 ⟨rfl, f1, f2⟩
          clear HP HF f1 f2
          go_wp2
          rw [Exit.noGoto_normal]
          go_end0
          exact HP2
        | ok s3 n =>
          rw [hx] at hpost
          obtain ⟨rfl, o3, V3, l3, st3⟩ := hpost
          obtain ⟨r1, r2⟩ := HR.out.next (by rw [HK.out]; exact h10) hx l3 st3
          have HR3 : Hid (RdRel w d lim n0 s L a o w3 s3 (a2 + n) o3 V3) := r1
          have k2 := r1.now
          have HM3 : Hid (msr L (a2 + n) s3 < gk ∧ gk ≤ G) := ⟨Nat.lt_of_lt_of_le r2 HM.out.1, HM.out.2⟩
          clear hcf HR HK HM HC hx l3 st3 r1 r2
          by_cases hk3 : s3.now = K
          · rw [hk3] at k2
            go_wp2
            go_roundg (msr L (a2 + n) s3)
            case rel => exact ⟨s3, a2 + n, o3, V3, hk3, Nat.le_refl _, by have := HM3.out; omega, HR3.out⟩
            case measure => have := HM3.out; omega
          · have hne3 : ¬ ((s3.now : Int) = (K : Int)) := by omega
            go_wp2
            go_roundg (msr L (a2 + n) s3)
            case rel => exact ⟨s3, a2 + n, o3, V3, Nat.le_refl _, HR3.out⟩
            case measure => have := HM3.out; have := HG.out; omega
end
end Go.Proofs.YtloagniacjfkfaaGreatDoor
/- More bytes for a decoder; how it stands between two calls. -/
namespace Go.Proofs.YtloagniacjfkfaaGreatDoor
open Go.RowKit
def FdPost (w : World) (d lim n0 : Nat) (s : St) (L : List Int) (a : Nat) (o : Ow) (V : Vs) (e : Ending) (w' : World) : Prop :=
  e = .returned (.tuple #[]) ∧ ∃ o', AtS w' d lim n0 s L a o' V ∧ Step w w' d o o' ∧ o'.t = o.t ∧ o'.q = o.q
section
variable {w : World} {d lim n0 : Nat} {s : St} {L : List Int} {a : Nat} {o : Ow} {V : Vs}
theorem live_feed (h : Live w d lim n0 s L a o V) (bs : List Int) (av : Option Addr) (m c : Nat) (hm : bs.length = m) (hb : Bytes bs) (hc : av = none → c = 0) (hrow : Row w av bs) (hl : L.length + 8 * m ≤ 1125899906842624) :
    Calls Tryz.prog 66 #[.pointer (some ⟨d, 0, none⟩), .slice av m c] w fun e w' => e = .returned (.tuple #[]) ∧ ∃ o', Live w' d lim n0 s (L ++ bitsL bs) a o' V ∧ Step w w' d o o' ∧ o'.t = o.t ∧ o'.q = o.q := by
  have h' := h
  obtain ⟨⟨zs, gone, ⟨tl, hg, ht⟩, hr⟩, hh, hll⟩ := h'
  obtain ⟨⟨cd, td⟩, tgg, tq, tt⟩ := h.tags
  have hlen := hr.len
  have hle := hr.le
  refine (gfeed_any d o.g zs bs gone av m c w hg hm hc hrow (by have := hr.gn; omega)).mono ?_
  rintro e w' ⟨rfl, g', hg', hgg, hf⟩
  have hst := hf.step
  have ho := Hold.via h hf
  refine ⟨rfl, { o with g := g' }, ⟨⟨zs ++ bs, gone, ⟨tl, hg', ht⟩, hr.feed hb⟩, ⟨ho.le, ho.nle, ho.win, ho.byt, ho.told, ho.code, ho.row, ho.c1, ho.c2, ho.fx, ?_⟩, ?_⟩, ?_, rfl, rfl⟩
  · rcases hgg with rfl | ⟨k, rfl, hk⟩
    · exact ho.sep
    · refine .inr fun e => ?_
      obtain ⟨c2, e2⟩ := tt k e.symm
      have := lt_of_block e2
      omega
  · rw [List.length_append, bitsL_len, hm]; omega
  · refine ⟨hst.os, hst.tape, hst.output, hst.size, hst.block, fun k hk => ?_, hst.q, hst.t⟩
    rcases hgg with rfl | ⟨k', rfl, hk'⟩
    · exact .inl hk
    · cases hk; exact .inr hk'
theorem feed_at (h : AtS w d lim n0 s L a o V) (h10 : s.now ≤ 10) (bs : List Int) (av : Option Addr) (m c : Nat) (hm : bs.length = m) (hb : Bytes bs) (hc : av = none → c = 0) (hrow : Row w av bs) (hl : L.length + 8 * m ≤ 1125899906842624) :
    Calls Tryz.prog 66 #[.pointer (some ⟨d, 0, none⟩), .slice av m c] w fun e w' => FdPost w d lim n0 s (L ++ bitsL bs) a o V e w' := by
  unfold AtS at h
  rw [if_neg (by omega)] at h
  unfold LiveA at h
  by_cases h1 : s.now = 1
  · rw [if_pos h1] at h
    obtain ⟨a0, ha, h⟩ := h
    have hle : a0 ≤ L.length := by obtain ⟨⟨zs, gone, _, hr⟩, _⟩ := h; exact hr.le
    refine (live_feed h bs av m c hm hb hc hrow hl).mono ?_
    rintro e w' ⟨rfl, o', l1, l2, l3⟩
    refine ⟨rfl, o', ?_, l2, l3⟩
    unfold AtS LiveA
    rw [if_neg (by omega), if_pos h1]
    refine ⟨a0, ?_, l1⟩
    rw [ha, List.length_append, bitsL_len]
    omega
  · rw [if_neg h1] at h
    refine (live_feed h bs av m c hm hb hc hrow hl).mono ?_
    rintro e w' ⟨rfl, o', l1, l2, l3⟩
    exact ⟨rfl, o', AtS.of l1 h1 (by omega), l2, l3⟩
theorem Hold.setd {g : Option Nat} {zs : List Int} {gone : Nat} {t : Tv} (hd : Dk w d g zs gone t) (h : Hold w s lim n0 V o) (i : Nat) (v : Value) : Hold (w.setCell ⟨d, i, none⟩ v) s lim n0 V o := by
  obtain ⟨cur, hh⟩ := hd.tag
  have apart : ∀ {k : Nat} {c2 : Array Value} {t2 : TypeId}, w.heap[k]? = some (.cells c2 t2 (0, 0)) → t2 ≠ 119 → k ≠ d := by
    intro k c2 t2 e1 e2 e
    subst e
    rw [hh] at e1
    simp only [Option.some.injEq, Obj.cells.injEq] at e1
    exact e2 e1.2.1.symm
  have hf : Fr w (w.setCell ⟨d, i, none⟩ v) d none := (Fr.refl _ _ _).snoc i v
  refine h.keep ⟨hf.size, fun k hk => ?_⟩ (fun k hk => ?_) (fun k hk => ?_)
  · by_cases e : k = d
    · subst e; exact .inr ⟨_, _, hh, .inl rfl⟩
    · exact .inl (hf.block k hk e (by simp))
  · obtain ⟨c, e⟩ := h.told.tag k hk
    exact hf.block k (lt_of_block e) (apart e (by decide)) (by simp)
  · obtain ⟨c, e⟩ := h.row.tag k hk
    exact hf.block k (lt_of_block e) (apart e (by decide)) (by simp)
theorem Hold.calm (h : Hold w s lim n0 V o) : Hold w s lim s.out.length { V with told := .slice none 0 0 } { o with t := none } := by
  refine ⟨h.le, Nat.le_refl _, h.win, h.byt, ?_, h.code, h.row, h.c1, h.c2, h.fx, ?_⟩
  · rw [List.drop_length]; exact Sl.nil _ _
  · cases hg : o.g with
    | none => exact .inl rfl
    | some k => exact .inr (by simp)
theorem Live.calm (h : Live w d lim n0 s L a o V) : Live (w.setCell ⟨d, 32775, none⟩ (.slice none 0 0)) d lim s.out.length s L a { o with t := none } { V with told := .slice none 0 0 } := by
  obtain ⟨⟨zs, gone, hd, hr⟩, hh, hl⟩ := h
  exact ⟨⟨zs, gone, hd.s_told _, hr⟩, (hh.setd hd _ _).calm, hl⟩
theorem AtS.calm (h : AtS w d lim n0 s L a o V) : AtS (w.setCell ⟨d, 32775, none⟩ (.slice none 0 0)) d lim s.out.length s L a { o with t := none } { V with told := .slice none 0 0 } := by
  unfold AtS at h ⊢
  by_cases h11 : s.now = 11
  · rw [if_pos h11] at h ⊢
    obtain ⟨rv, zs, hd, hs, hr, hh, hl⟩ := h
    refine ⟨rv, zs, hd.s_told _, hs.same fun k hk => Below.heap_setCell _ _ _ _ ?_, hr, (hh.setd hd _ _).calm, hl⟩
    intro e
    subst e
    obtain ⟨c1, e1⟩ := hd.tag
    obtain ⟨c2, e2⟩ := hs.tag _ hk
    rw [e1] at e2
    simp only [Option.some.injEq, Obj.cells.injEq] at e2
    exact absurd e2.2.1 (by decide)
  · rw [if_neg h11] at h ⊢
    unfold LiveA at h ⊢
    by_cases h1 : s.now = 1
    · rw [if_pos h1] at h ⊢
      obtain ⟨a0, ha, h⟩ := h
      exact ⟨a0, ha, h.calm⟩
    · rw [if_neg h1] at h ⊢
      exact h.calm
theorem Failed.calm {out : List Int} {er : Int} {tg : Option Nat} (h : Failed w d n0 out er tg) : Failed (w.setCell ⟨d, 32775, none⟩ (.slice none 0 0)) d out.length out er none := by
  obtain ⟨t, hd, h1, h2, h3, h4, h5⟩ := h
  refine ⟨_, hd.s_told (.slice none 0 0), h1, h2, h3, h4, ?_⟩
  rw [List.drop_length]; exact Sl.nil _ _
end
/-- The blocks are all from a base on. -/
structure From (base d : Nat) (o : Ow) : Prop where
  d : base ≤ d
  g : ∀ k, o.g = some k → base ≤ k
  q : ∀ k, o.q = some k → base ≤ k
  t : ∀ k, o.t = some k → base ≤ k
theorem From.own {base d : Nat} {o : Ow} (h : From base d o) (h1 : 3 ≤ base) : Own1 d o :=
  ⟨Nat.le_trans h1 h.d, fun k hk => Nat.le_trans h1 (h.g k hk), fun k hk => Nat.le_trans h1 (h.q k hk), fun k hk => Nat.le_trans h1 (h.t k hk)⟩
theorem From.step {base d : Nat} {o o' : Ow} {w w' : World} (h : From base d o) (hs : Step w w' d o o') (hb : base ≤ w.heap.size) : From base d o' :=
  ⟨h.d, fun k hk => (hs.g k hk).elim (h.g k) (fun e => Nat.le_trans hb e), fun k hk => (hs.q k hk).elim (h.q k) (fun e => Nat.le_trans hb e), fun k hk => (hs.t k hk).elim (h.t k) (fun e => Nat.le_trans hb e)⟩
theorem Step.below {base d : Nat} {o o' : Ow} {w w' : World} (hs : Step w w' d o o') (h : From base d o) (hb : base ≤ w.heap.size) : Below base w w' := by
  refine ⟨hs.os, hs.tape, hs.output, hs.size, fun k hk => hs.block k (by omega) ?_ (fun e => ?_) (fun e => ?_) (fun e => ?_)⟩
  · have := h.d; omega
  · have := h.g k e.symm; omega
  · have := h.q k e.symm; omega
  · have := h.t k e.symm; omega
/-- A decoder between two calls: what its bytes said, and how it stands. -/
structure Dec (base : Nat) (w : World) (d lim : Nat) (L : List Int) (o : Ow) (r : Og) : Prop where
  runs : Runs lim St.start L r
  stand : Stand w d lim r.out.length L o r
  t : o.t = none
  fr : From base d o
  bit : Bit L
  m8 : L.length % 8 = 0
theorem inv_start : Inv St.start := inv_head (.inl rfl)
theorem Og.out_stop (s : St) (l : List Int) : (Og.stop s l).out = s.out := rfl
theorem Og.out_fail (er : Int) (out : List Int) : (Og.fail er out).out = out := rfl
theorem Stand.old {w w' : World} {d lim n0 : Nat} {L : List Int} {o : Ow} {r : Og} (h : Stand w d lim n0 L o r) (hb : Below w.heap.size w w') : Stand w' d lim n0 L o r := by
  cases r with
  | stop s l =>
    obtain ⟨a, V, hl, ha, hi⟩ := h
    exact ⟨a, V, hl, ha.old hb, hi⟩
  | fail er out =>
    obtain ⟨⟨t, hd, h1, h2, h3, h4, h5⟩, h6⟩ := h
    exact ⟨⟨t, hd.same (hb.block _ hd.lt) (fun k hk => by cases hk), h1, h2, h3, h4, h5.same fun k hk => hb.block k (h5.lt hk)⟩, h6⟩
theorem Dec.old {base : Nat} {w w' : World} {d lim : Nat} {L : List Int} {o : Ow} {r : Og} (h : Dec base w d lim L o r) (hb : Below w.heap.size w w') : Dec base w' d lim L o r :=
  ⟨h.runs, h.stand.old hb, h.t, h.fr, h.bit, h.m8⟩
end Go.Proofs.YtloagniacjfkfaaGreatDoor
/- A decoder is asked: Done, Total, Rest. -/
namespace Go.Proofs.YtloagniacjfkfaaGreatDoor
open Go.RowKit
def Og.ended : Og → Bool
  | .stop s _ => s.now == 11
  | .fail _ _ => false
/-- The bytes behind the end. -/
def Og.rest : Og → List Int → Prop
  | .stop s l, zs => if s.now = 11 then Bytes zs ∧ l = bitsL zs else zs = []
  | .fail _ _, zs => zs = []
section
variable {base : Nat} {w : World} {d lim : Nat} {L : List Int} {o : Ow} {r : Og}
theorem Dec.dk (h : Dec base w d lim L o r) : ∃ g zs gone t rs, Dk w d g zs gone t ∧ (t.now == 11) = r.ended ∧ t.failed = r.err ∧ t.total = r.out.length ∧ Sl w 5 t.rest (if r.ended then o.g else none) (vals rs) ∧ r.rest rs ∧ (r.err = 0 ↔ ∃ s l, r = .stop s l) ∧ 8 * rs.length ≤ L.length := by
  have hst := h.stand
  cases r with
  | stop s l =>
    obtain ⟨a, V, hl, ha, hi⟩ := hst
    have hb := ha.bits
    unfold AtS at ha
    by_cases h11 : s.now = 11
    · rw [if_pos h11] at ha
      obtain ⟨rv, zs, hd, hs, hr, hh, hll⟩ := ha
      have he : Og.ended (.stop s l) = true := by simp [Og.ended, h11]
      refine ⟨_, _, _, _, zs, hd, ?_, rfl, rfl, ?_, ?_, ?_, ?_⟩
      · rw [he]; show ((s.now : Int) == 11) = true; rw [h11]; rfl
      · rw [he, if_pos rfl]; exact hs
      · show if s.now = 11 then _ else _
        rw [if_pos h11]
        refine ⟨hr.byt, ?_⟩
        rw [hl, hr.eq, List.drop_zero]
      · exact ⟨fun _ => ⟨s, l, rfl⟩, fun _ => rfl⟩
      · have := hr.len; omega
    · rw [if_neg h11] at ha
      have he : Og.ended (.stop s l) = false := by simp [Og.ended, h11]
      obtain ⟨g, zs, gone, hd⟩ : ∃ g zs gone, Dk w d g zs gone (mkT s lim V) := by
        unfold LiveA at ha
        split at ha
        · obtain ⟨a0, _, ⟨zs, gone, hd, _⟩, _⟩ := ha; exact ⟨_, _, _, hd⟩
        · obtain ⟨⟨zs, gone, hd, _⟩, _⟩ := ha; exact ⟨_, _, _, hd⟩
      refine ⟨_, _, _, _, [], hd, ?_, rfl, rfl, ?_, ?_, ?_, ?_⟩
      · rw [he]; show ((s.now : Int) == 11) = false; simp; omega
      · rw [he]; exact Sl.nil _ _
      · show if s.now = 11 then _ else _
        rw [if_neg h11]
      · exact ⟨fun _ => ⟨s, l, rfl⟩, fun _ => rfl⟩
      · simp
  | fail er out =>
    obtain ⟨⟨t, hd, h1, h2, h3, h4, h5⟩, h6, _⟩ := hst
    refine ⟨_, _, _, t, [], hd, ?_, h1, h4, ?_, rfl, ?_, by simp⟩
    · show (t.now == 11) = false; simpa using h2
    · rw [h3]; exact Sl.nil _ _
    · exact ⟨fun e => absurd e h6, fun ⟨s, l, e⟩ => by cases e⟩
set_option maxHeartbeats 800000 in
set_option maxRecDepth 20000 in
theorem done_any (h : Dec base w d lim L o r) : Calls Tryz.prog 43 #[.pointer (some ⟨d, 0, none⟩)] w fun e w' => e = .returned (.bool r.ended) ∧ w' = w := by
  obtain ⟨g, zs, gone, t, rs, hd, hn, _⟩ := h.dk
  have k2 := hd.k2
  clear hd h
  cases he : r.ended with
  | false =>
    rw [he] at hn
    go_enter Tryz.func43, Tryz.ntmps43
    go_wp2
    go_ret
    exact ⟨rfl, rfl⟩
  | true =>
    rw [he] at hn
    obtain h11 : t.now = 11 := by simpa using hn
    rw [h11] at k2
    clear hn
    go_enter Tryz.func43, Tryz.ntmps43
    go_wp2
    go_ret
    exact ⟨rfl, rfl⟩
set_option maxHeartbeats 800000 in
set_option maxRecDepth 20000 in
theorem done_nil (w : World) : Calls Tryz.prog 43 #[.pointer none] w fun e w' => e = .returned (.bool false) ∧ w' = w := by
  go_enter Tryz.func43, Tryz.ntmps43
  go_wp2
  go_ret
  exact ⟨rfl, rfl⟩
set_option maxHeartbeats 800000 in
set_option maxRecDepth 20000 in
theorem total_any (h : Dec base w d lim L o r) : Calls Tryz.prog 42 #[.pointer (some ⟨d, 0, none⟩)] w fun e w' => e = .returned (.int .i64 r.out.length) ∧ w' = w := by
  obtain ⟨g, zs, gone, t, rs, hd, _, _, ht, _⟩ := h.dk
  have k6 := hd.k6
  rw [ht] at k6
  clear hd h ht
  go_enter Tryz.func42, Tryz.ntmps42
  go_wp2
  go_ret
  exact ⟨rfl, rfl⟩
set_option maxHeartbeats 800000 in
set_option maxRecDepth 20000 in
theorem total_nil (w : World) : Calls Tryz.prog 42 #[.pointer none] w fun e w' => e = .returned (.int .i64 0) ∧ w' = w := by
  go_enter Tryz.func42, Tryz.ntmps42
  go_wp2
  go_ret
  exact ⟨rfl, rfl⟩
set_option maxHeartbeats 800000 in
set_option maxRecDepth 20000 in
theorem rest_nil (w : World) : Calls Tryz.prog 44 #[.pointer none] w fun e w' => e = .returned (.slice none 0 0) ∧ w' = w := by
  go_enter Tryz.func44, Tryz.ntmps44
  go_wp2
  go_ret
  exact ⟨rfl, rfl⟩
def RsPost (w : World) (r : Og) (e : Ending) (w' : World) : Prop :=
  ∃ v g rs, e = .returned v ∧ r.rest rs ∧ Sl w' 5 v g (vals rs) ∧ (∀ k, g = some k → w.heap.size ≤ k) ∧ Below w.heap.size w w'
set_option maxHeartbeats 800000 in
set_option maxRecDepth 20000 in
theorem rest_any (h : Dec base w d lim L o r) (hL : L.length ≤ 1125899906842624) : Calls Tryz.prog 44 #[.pointer (some ⟨d, 0, none⟩)] w fun e w' => RsPost w r e w' := by
  obtain ⟨g, zs, gone, t, rs, hd, _, _, _, hs, hrest, _, hle⟩ := h.dk
  have k4 := hd.k4
  obtain ⟨i0, hi, hz0, hz1, hz2⟩ := info_parts Tryz.info5
  obtain ⟨av, cv, hv, hl1, hl2, hl3⟩ := hs.shape
  rw [vals_len] at hv hl1
  rw [hv] at k4
  have HR : Hid (r.rest rs) := hrest
  have HRow : Hid (Row w av rs) := hs.row hv
  have HL : Hid (8 * rs.length ≤ L.length) := hle
  clear h hd hs hrest hv hle
  go_enter Tryz.func44, Tryz.ntmps44
  cases av with
  | none =>
    have hcv := hl3 rfl
    subst hcv
    have h0 := row_len_none HRow.out
    subst h0
    go_wp2_with (at_builtin; refine wpList_append_sl_none rfl _ _ 22 rfl 5 i0 Tryz.underlying22 hi none 0 0 rfl (Nat.le_refl _) rfl ?_)
    go_ret
    exact ⟨_, none, [], rfl, HR.out, Sl.nil _ _, (fun k hk => by cases hk), Below.refl _ _⟩
  | some ad =>
    go_wp2_with (at_builtin; refine wpList_append_sl rfl _ _ 22 rfl 5 i0 (.int .u8 0) 1 Tryz.underlying22 hi hz0 hz1 hz2 rfl (.slice none 0 0) none [] rfl (Sl.nil _ _) ad rs.length cv (vals rs) rfl (vals_len rs) (news_row HRow.out) (vals_one rs) (by have := HL.out; simp only [List.length_nil]; omega) (by have := HL.out; unfold maxLen; simp only [List.length_nil]; omega) ?_)
    intro v' w1 g' hsl hg' hgrow
    have HP : Hid (RsPost w r (.returned v') w1) := by
      refine ⟨v', g', rs, rfl, HR.out, hsl, fun k hk => ?_, ⟨hgrow.os, hgrow.tape, hgrow.output, hgrow.size, fun k hk => hgrow.block k hk (by simp)⟩⟩
      rcases hg' with e | ⟨k', e, hk'⟩
      · rw [e] at hk; cases hk
      · rw [e] at hk; cases hk; exact hk'
    clear hsl hg' hgrow
    go_wp2
    go_ret
    exact HP.out
end
end Go.Proofs.YtloagniacjfkfaaGreatDoor
