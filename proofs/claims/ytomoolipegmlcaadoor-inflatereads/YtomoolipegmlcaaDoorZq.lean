/- Joined: StepL RwC Kb Kc. -/
import Derived.Test.YtomoolipegmlcaaDoorZa
import Derived.Test.YtomoolipegmlcaaDoorZd
import Derived.Deep.RegionLaw
import Derived.Test.YtomoolipegmlcaaDoorZo
/- A law for a list of operations, at one step of a region that draws its order. -/
namespace Go.Proofs.YtomoolipegmlcaaDoor
open Go.RowKit

def OnlyK (K : Act → World → Prop) : Exit → Act → World → Prop := fun e a w => e = .normal ∧ K a w
theorem wp_only {o : Oper} {a : Act} {w : World} {K L : Act → World → Prop} {Q : Exit → Act → World → Prop} (h : Oper.wp Tryd.prog o a w K (OnlyK L)) : Oper.wp Tryd.prog o a w K Q := by
  unfold Oper.wp at h ⊢
  generalize (execOp a.eval o).run Tryd.prog w = r at *
  cases r with
  | ok n w' =>
    cases n <;> simp only [Oper.upon] at h ⊢
    all_goals first
      | exact h
      | exact Calls.mono h (fun e w'' he => by
          cases e with
          | returned v => exact he
          | panicked c => exact absurd he.1 (by simp)
          | outgrown => obtain ⟨_, _, h1, _⟩ := he; cases h1)
  | halt y w' =>
    cases y <;> simp only [Oper.upon] at h ⊢
    all_goals exact absurd h.1 (by simp)
/-- A law for a list of operations, at one step of a region that draws its order. -/
theorem step_of_list {ops : Array Oper} {o : Oper} {a : Act} {w : World} {K : Act → World → Prop} {Q : Exit → Act → World → Prop} {E : Prop} (hgd : o.guard = none)
    (h : wpList Tryd.prog ops (OnlyK K) [o] a w) : if Region.wanted o (yielded ops a.tmps) = true then Oper.wp Tryd.prog o a w K Q else E := by
  have hw : Region.wanted o (yielded ops a.tmps) = true := by simp [Region.wanted, hgd]
  rw [if_pos hw]
  simp only [wpList, hw, if_true] at h
  rcases h with h | ⟨_, a', w', h, _⟩
  · exact wp_only (Oper.wp_mono (fun a w h => h.2) h)
  · cases h
end Go.Proofs.YtomoolipegmlcaaDoor
/- Rows of bytes, cut; bytes put behind, at one step of a region that draws its order. -/
namespace Go.Proofs.YtomoolipegmlcaaDoor
open Go.RowKit
theorem Row.take {w : World} {a : Option Addr} {l : List Int} (h : Row w a l) (k : Nat) : Row w a (l.take k) := by
  rcases h with rfl | ⟨b, off, e, hc⟩
  · exact .inl (by simp)
  · refine .inr ⟨b, off, e, fun i hi => ?_⟩
    rw [List.length_take] at hi
    have hi' : i < k := by omega
    rw [hc i (by omega)]
    simp [hi']
theorem Row.cut {w : World} {a : Option Addr} {l : List Int} (h : Row w a l) (k cap : Nat) (hk : k ≤ l.length) (hc : l.length ≤ cap) : Row w (if cap = k then a else Option.map (fun x => x.add k) a) (l.drop k) := by
  by_cases hkl : k = l.length
  · exact .inl (by rw [hkl]; simp)
  · rcases h with rfl | ⟨b, off, rfl, hr⟩
    · simp at hk; exact absurd hk hkl
    · rw [if_neg (by omega)]
      refine .inr ⟨b, off + k, by simp [Addr.add_lit], fun i hi => ?_⟩
      rw [List.length_drop] at hi
      rw [Nat.add_assoc, hr (k + i) (by omega)]
      simp
/-- 'append(s, x...)', x bytes that lie in memory, or nil. -/
theorem wpList_more {w : World} {ops : Array Oper} {rest : List Oper} {o : Oper} {a : Act} {Q : Exit → Act → World → Prop} (hgd : o.guard = none) (s x : Operand)
    (ho : o.op = .call { callee := .builtin .append, args := #[s, x], argTypes := #[22, 22] })
    (v : Value) (g : Option Nat) (zs : List Int) (hs : a.eval s = v) (hsl : Sl w 5 v g (vals zs))
    (ad : Option Addr) (m c : Nat) (ys : List Int) (hx : a.eval x = .slice ad m c) (hc : ad = none → c = 0) (hm : ys.length = m) (hr : Row w ad ys) (hlen : zs.length + m ≤ 140737488351232)
    (h : ∀ v' w' g', Sl w' 5 v' g' (vals (zs ++ ys)) → (g' = g ∨ ∃ k, g' = some k ∧ w.heap.size ≤ k) → w.grownBy w' g → wpList Tryd.prog ops Q rest (a.put o.dst v') w') : wpList Tryd.prog ops Q (o :: rest) a w := by
  obtain ⟨i0, hi, hz0, hz1, hz2⟩ := info_parts Tryd.info5
  cases ad with
  | none =>
    have hb : ys = [] := by
      rcases hr with h | ⟨b, off, h, _⟩
      · exact h
      · cases h
    have hc0 := hc rfl
    subst hb hc0
    simp at hm
    subst hm
    obtain ⟨a', c', hv, hle, _⟩ := hsl.shape
    subst hv
    refine wpList_append_sl_none hgd s x 22 ho 5 i0 Tryd.underlying22 hi _ _ _ hs hle hx ?_
    exact h _ w g (by simpa using hsl) (.inl rfl) ⟨rfl, rfl, rfl, Nat.le_refl _, fun _ _ _ => rfl⟩
  | some y =>
    refine wpList_append_sl hgd s x 22 ho 5 i0 (.int .u8 0) 1 Tryd.underlying22 hi hz0 hz1 hz2 rfl _ _ _ hs hsl y m c (vals ys) hx (by rw [vals_len]; exact hm) (news_row hr) (vals_one ys) (by rw [vals_len]; omega) (by rw [vals_len]; unfold maxLen; omega) ?_
    intro v' w' g' h1 h2 h3
    exact h v' w' g' (by rw [vals_append]; exact h1) h2 h3
theorem step_more {w : World} {ops : Array Oper} {o : Oper} {a : Act} {K : Act → World → Prop} {Q : Exit → Act → World → Prop} {E : Prop} (hgd : o.guard = none) (s x : Operand)
    (ho : o.op = .call { callee := .builtin .append, args := #[s, x], argTypes := #[22, 22] })
    (v : Value) (g : Option Nat) (zs : List Int) (hs : a.eval s = v) (hsl : Sl w 5 v g (vals zs))
    (ad : Option Addr) (m c : Nat) (ys : List Int) (hx : a.eval x = .slice ad m c) (hc : ad = none → c = 0) (hm : ys.length = m) (hr : Row w ad ys) (hlen : zs.length + m ≤ 140737488351232)
    (h : ∀ v' w' g', Sl w' 5 v' g' (vals (zs ++ ys)) → (g' = g ∨ ∃ k, g' = some k ∧ w.heap.size ≤ k) → w.grownBy w' g → K (a.put o.dst v') w') : if Region.wanted o (yielded ops a.tmps) = true then Oper.wp Tryd.prog o a w K Q else E :=
  step_of_list hgd (wpList_more hgd s x ho v g zs hs hsl ad m c ys hx hc hm hr hlen fun v' w' g' h1 h2 h3 => ⟨rfl, h v' w' g' h1 h2 h3⟩)
end Go.Proofs.YtomoolipegmlcaaDoor
/- Bytes pushed in pieces: the law's own loop. -/
namespace Go.Proofs.YtomoolipegmlcaaDoor
open Go.RowKit
section
variable {base : Nat} {w : World} {d lim : Nat} {L : List Int} {o : Ow} {r : Og}
theorem Dec.blocks (h : Dec base w d lim L o r) : d < w.heap.size ∧ (∀ k, o.g = some k → k < w.heap.size) ∧ (∀ k, o.q = some k → k < w.heap.size) := by
  have hst := h.stand
  cases r with
  | stop s l =>
    obtain ⟨a, V, hl, ha, hi⟩ := hst
    have hq := ha.hold.row
    refine ⟨ha.lt, ?_, fun k hk => hq.lt hk⟩
    unfold AtS at ha
    split at ha
    · obtain ⟨rv, zs, hd, hs, _⟩ := ha
      exact fun k hk => hs.lt hk
    · unfold LiveA at ha
      split at ha
      · obtain ⟨a0, _, ⟨zs, gone, hd, _⟩, _⟩ := ha
        intro k hk; obtain ⟨c, e⟩ := hd.gtag k hk; exact lt_of_block e
      · obtain ⟨⟨zs, gone, hd, _⟩, _⟩ := ha
        intro k hk; obtain ⟨c, e⟩ := hd.gtag k hk; exact lt_of_block e
  | fail er out =>
    obtain ⟨⟨t, hd, _⟩, _, hg, hq⟩ := hst
    exact ⟨hd.lt, (fun k hk => by rw [hg] at hk; cases hk), (fun k hk => by rw [hq] at hk; cases hk)⟩
/-- A decoder keeps what it is where its own blocks are kept and the others stay tame. -/
theorem Dec.keep {w' : World} (h : Dec base w d lim L o r) (ht : Tame w w') (hd0 : w'.heap[d]? = w.heap[d]?) (hg0 : ∀ k, o.g = some k → w'.heap[k]? = w.heap[k]?) (hq0 : ∀ k, o.q = some k → w'.heap[k]? = w.heap[k]?) : Dec base w' d lim L o r := by
  have hot := h.t
  have hho : ∀ {s : St} {V : Vs}, Hold w s lim s.out.length V o → Hold w' s lim s.out.length V o := fun hh =>
    hh.keep ht (fun k hk => by rw [hot] at hk; cases hk) hq0
  refine ⟨h.runs, ?_, h.t, h.fr, h.bit, h.m8⟩
  have hst := h.stand
  cases r with
  | stop s l =>
    obtain ⟨a, V, hl, ha, hi⟩ := hst
    refine ⟨a, V, hl, ?_, hi⟩
    have ha : AtS w d lim s.out.length s L a o V := ha
    show AtS w' d lim s.out.length s L a o V
    unfold AtS at ha ⊢
    by_cases h11 : s.now = 11
    · rw [if_pos h11] at ha ⊢
      obtain ⟨rv, zs, hd, hs, hr, hh, hll⟩ := ha
      exact ⟨rv, zs, hd.same hd0 (fun k hk => by cases hk), hs.same hg0, hr, hho hh, hll⟩
    · rw [if_neg h11] at ha ⊢
      unfold LiveA at ha ⊢
      by_cases h1 : s.now = 1
      · rw [if_pos h1] at ha ⊢
        obtain ⟨a0, e, ⟨zs, gone, hd, hr⟩, hh, hll⟩ := ha
        exact ⟨a0, e, ⟨zs, gone, hd.same hd0 hg0, hr⟩, hho hh, hll⟩
      · rw [if_neg h1] at ha ⊢
        obtain ⟨⟨zs, gone, hd, hr⟩, hh, hll⟩ := ha
        exact ⟨⟨zs, gone, hd.same hd0 hg0, hr⟩, hho hh, hll⟩
  | fail er out =>
    obtain ⟨⟨t, hd, h1, h2, h3, h4, h5⟩, h6⟩ := hst
    exact ⟨⟨t, hd.same hd0 (fun k hk => by cases hk), h1, h2, h3, h4, h5.same fun k hk => by rw [hot] at hk; cases hk⟩, h6⟩
theorem Dec.err_ne {er : Int} {out : List Int} (h : Dec base w d lim L o (.fail er out)) : er ≠ 0 := h.stand.2.1
end
/-- Between two rounds: t bytes are pushed. -/
def AlRel (w : World) (bs : List Int) (lim d t : Nat) (b out : Value) (wr : World) : Prop :=
  ∃ ar cr g o r, t ≤ bs.length ∧ b = .slice ar (bs.length - t) cr ∧ bs.length - t ≤ cr ∧ cr ≤ 140737488351232 ∧ (ar = none → cr = 0) ∧ Row w ar (bs.drop t) ∧ Dec w.heap.size wr d lim (bitsL (bs.take t)) o r ∧ r.err = 0 ∧
    Sl wr 5 out g (vals r.out) ∧ (∀ k, g = some k → w.heap.size ≤ k ∧ k ≠ d ∧ o.g ≠ some k ∧ o.q ≠ some k) ∧ Below w.heap.size w wr
def AlPost (w : World) (bs : List Int) (lim : Nat) (e : Ending) (w' : World) : Prop :=
  ∃ r o d v g L, e = .returned (.tuple #[v, .int .i64 r.err, .pointer (some ⟨d, 0, none⟩)]) ∧ Dec w.heap.size w' d lim L o r ∧ L.length ≤ 8 * bs.length ∧ Runs lim St.start (bitsL bs) r ∧ Sl w' 5 v g (vals r.out) ∧ (∀ k, g = some k → w.heap.size ≤ k) ∧ Below w.heap.size w w'
/-- A round: k bytes more were pushed, and what they tell was put behind. -/
theorem al_step {w wr w2 w3 : World} {bs : List Int} {lim d t k : Nat} {ar : Option Addr} {cr : Nat} {g : Option Nat} {o : Ow} {r : Og} {out v' : Value} {r' : Og} {o' : Ow} {g' : Option Nat}
    (hk : t + k ≤ bs.length) (hcr : bs.length - t ≤ cr) (hcr2 : cr ≤ 140737488351232) (har : ar = none → cr = 0) (hrow : Row w ar (bs.drop t)) (hdec : Dec w.heap.size wr d lim (bitsL (bs.take t)) o r) (hg : ∀ k, g = some k → w.heap.size ≤ k ∧ k ≠ d ∧ o.g ≠ some k ∧ o.q ≠ some k) (hbel : Below w.heap.size w wr)
    (hsl : Sl wr 5 out g (vals r.out))
    (hd' : Dec w.heap.size w2 d lim (bitsL (bs.take t) ++ bitsL ((bs.drop t).take k)) o' r') (hpre : r.out <+: r'.out) (hst : Step wr w2 d o o')
    (hs3 : Sl w3 5 v' g' (vals (r.out ++ r'.out.drop r.out.length))) (hg3 : g' = g ∨ ∃ k, g' = some k ∧ w2.heap.size ≤ k) (hgr : w2.grownBy w3 g) :
    Dec w.heap.size w3 d lim (bitsL (bs.take (t + k))) o' r' ∧ Sl w3 5 v' g' (vals r'.out) ∧ (∀ k, g' = some k → w.heap.size ≤ k ∧ k ≠ d ∧ o'.g ≠ some k ∧ o'.q ≠ some k) ∧ Below w.heap.size w w3 ∧
    (r'.err = 0 → AlRel w bs lim d (t + k) (.slice (if cr = k then ar else Option.map (fun x => x.add k) ar) (bs.length - t - k) (cr - k)) v' w3) := by
  have hb2 : Below w.heap.size w w2 := hbel.trans (hst.below hdec.fr hbel.size)
  obtain ⟨bd, bg, bq⟩ := hdec.blocks
  obtain ⟨bd', bg', bq'⟩ := hd'.blocks
  have hgl : ∀ k, g = some k → k < wr.heap.size := fun k hk => hsl.lt hk
  have hg2 : ∀ k, g = some k → w.heap.size ≤ k ∧ k ≠ d ∧ o'.g ≠ some k ∧ o'.q ≠ some k := by
    intro k hk
    obtain ⟨h1, h2, h3, h4⟩ := hg k hk
    refine ⟨h1, h2, fun e => ?_, fun e => ?_⟩
    · rcases hst.g k e with e2 | e2
      · exact h3 e2
      · have := hgl k hk; omega
    · rcases hst.q k e with e2 | e2
      · exact h4 e2
      · have := hgl k hk; omega
  have hw2l := hst.size
  have tag2 : ∀ k, g = some k → ∃ cur, w2.heap[k]? = some (.cells cur 5 (0, 0)) := by
    intro k hk
    obtain ⟨c, e⟩ := hsl.tag k hk
    obtain ⟨h1, h2, h3, h4⟩ := hg k hk
    refine ⟨c, (hst.block k (hgl k hk) h2 (fun e => h3 e.symm) (fun e => h4 e.symm) (fun e => by rw [hdec.t] at e; cases e)).trans e⟩
  have hdec3 : Dec w.heap.size w3 d lim (bitsL (bs.take t) ++ bitsL ((bs.drop t).take k)) o' r' := by
    refine hd'.keep ⟨hgr.size, fun k hk => ?_⟩ (hgr.block d bd' (fun e => (hg2 d e.symm).2.1 rfl)) (fun k hk => hgr.block k (bg' k hk) (fun e => (hg2 k e.symm).2.2.1 hk)) (fun k hk => hgr.block k (bq' k hk) (fun e => (hg2 k e.symm).2.2.2 hk))
    by_cases e : some k = g
    · obtain ⟨c, e2⟩ := tag2 k e.symm
      exact .inr ⟨_, _, e2, .inr (.inl rfl)⟩
    · exact .inl (hgr.block k hk e)
  rw [← bitsL_append, ← List.take_add] at hdec3
  have hs3' : Sl w3 5 v' g' (vals r'.out) := by
    obtain ⟨x, hx⟩ := hpre
    rw [← hx, List.drop_left, hx] at hs3
    exact hs3
  have hg' : ∀ k, g' = some k → w.heap.size ≤ k ∧ k ≠ d ∧ o'.g ≠ some k ∧ o'.q ≠ some k := by
    intro k hk
    rcases hg3 with e | ⟨k', e, hk'⟩
    · exact hg2 k (e ▸ hk)
    · rw [e] at hk
      cases hk
      exact ⟨by have := hb2.size; omega, by omega, (fun e => by have := bg' _ e; omega), (fun e => by have := bq' _ e; omega)⟩
  have hb3 : Below w.heap.size w w3 := by
    refine hb2.trans ⟨hgr.os, hgr.tape, hgr.output, hgr.size, fun k hk => hgr.block k (by have := hb2.size; omega) (fun e => ?_)⟩
    have := (hg k e.symm).1; omega
  refine ⟨hdec3, hs3', hg', hb3, fun he => ⟨_, cr - k, g', o', r', hk, by rw [show bs.length - (t + k) = bs.length - t - k by omega], by omega, by omega, ?_, ?_, hdec3, he, hs3', hg', hb3⟩⟩
  · intro e
    by_cases hc : cr = k
    · omega
    · rw [if_neg hc] at e
      cases ar with
      | none => have := har rfl; omega
      | some y => simp at e
  · have := hrow.cut k cr (by rw [List.length_drop]; omega) (by rw [List.length_drop]; exact hcr)
    rw [List.drop_drop] at this
    exact this
end Go.Proofs.YtomoolipegmlcaaDoor
/- Bytes pushed in pieces: the law's own loop, walked (written by mkall.py). -/
namespace Go.Proofs.YtomoolipegmlcaaDoor
open Go.RowKit
theorem al_fin {w w' : World} {bs : List Int} {lim d t : Nat} {o : Ow} {r : Og} {v : Value} {g : Option Nat} (hd : Dec w.heap.size w' d lim (bitsL (bs.take t)) o r) (hs : Sl w' 5 v g (vals r.out)) (hg : ∀ k, g = some k → w.heap.size ≤ k ∧ k ≠ d ∧ o.g ≠ some k ∧ o.q ≠ some k) (hb : Below w.heap.size w w') (h : r.err ≠ 0 ∨ t = bs.length) :
    AlPost w bs lim (.returned (.tuple #[v, .int .i64 r.err, .pointer (some ⟨d, 0, none⟩)])) w' := by
  refine ⟨r, o, d, v, g, _, rfl, hd, ?_, ?_, hs, fun k hk => (hg k hk).1, hb⟩
  · rw [bitsL_len, List.length_take]; omega
  · rcases h with h | h
    · cases r with
      | stop s l => exact absurd rfl h
      | fail er out =>
        have := hd.runs.more_fail (bitsL_m8 (bs.drop t)) hd.bit inv_start
        rw [← bitsL_append, List.take_append_drop] at this
        exact this
    · have := hd.runs
      rw [h, List.take_length] at this
      exact this
theorem err_cases (r : Og) : r.err = 0 ∨ ((r.err == 0) = false ∧ ¬ r.err = 0) := by
  by_cases e : r.err = 0
  · exact .inl e
  · exact .inr ⟨by simpa using e, e⟩
set_option maxHeartbeats 3200000 in
set_option maxRecDepth 20000 in
theorem all_pos (a : Option Addr) (cap : Nat) (bs : List Int) (N : Nat) (lim : Nat) (w : World) (hrow : Row w a bs) (hby : Bytes bs) (hc : bs.length ≤ cap) (hcap : cap ≤ 140737488351232) (hnone : a = none → cap = 0) (hlen : bs.length ≤ 20000) (hlim : lim ≤ 1000000) (hN1 : 1 ≤ N) (hN : N ≤ 100) (hord : Ord w) :
    Calls Tryd.prog 19 #[.slice a bs.length cap, .int .i64 N, .int .i64 lim] w fun e w' => AlPost w bs lim e w' := by
  have HO : Hid (Ord w) := hord
  have HB : Hid (Bytes bs) := hby
  have HR : Hid (Row w a bs) := hrow
  have HN : Hid (a = none → cap = 0) := hnone
  clear hord hby hrow hnone
  go_enter Tryd.func19, Tryd.ntmps19
  go_wp2_with fail
  refine (new_any lim w (by omega)).mono ?_
  rintro e w1 ⟨rfl, hd, hb1⟩
  rw [Int.toNat_natCast] at hd
  have HA : Hid (AlRel w bs lim w.heap.size 0 (.slice a bs.length cap) (.slice none 0 0) w1) := ⟨a, cap, none, o0, _, Nat.zero_le _, rfl, hc, hcap, HN.out, HR.out, hd, rfl, Sl.nil _ _, (fun k hk => by cases hk), hb1⟩
  clear hd hb1
  obtain ⟨D, hD⟩ : ∃ D, w.heap.size = D := ⟨_, rfl⟩
  rw [hD] at HA ⊢
  clear hD
  go_wp2
  go_loopg [0, 10, 11, 12, 13] bs.length (fun fu b out _ _ _ wr => ∃ t : Nat, t + fu = bs.length ∧ (1 ≤ fu ∨ t = 0) ∧ Hid (AlRel w bs lim D t b out wr))
  case atStart => exact ⟨0, by omega, .inr rfl, HA.out⟩
  case round =>
    clear HA
    obtain ⟨t, ht, ht0, HX⟩ := hrel
    obtain ⟨ar, cr, g, o, r, htl, rfl, hcr, hcr2, har, hrow, hdec, herr, hsl, hg, hbel⟩ := HX.out
    obtain ⟨M, hM⟩ : ∃ M, bs.length - t = M := ⟨_, rfl⟩
    have HM : Hid (bs.length - t = M) := hM
    have HX2 : Hid (t ≤ bs.length ∧ bs.length - t ≤ cr ∧ cr ≤ 140737488351232 ∧ (ar = none → cr = 0) ∧ Row w ar (bs.drop t) ∧ Dec w.heap.size wr D lim (bitsL (bs.take t)) o r ∧ Sl wr 5 u10 g (vals r.out) ∧ (∀ k, g = some k → w.heap.size ≤ k ∧ k ≠ D ∧ o.g ≠ some k ∧ o.q ≠ some k) ∧ Below w.heap.size w wr) := ⟨htl, hcr, hcr2, har, hrow, hdec, hsl, hg, hbel⟩
    have HPU : Hid (∀ k, t + k ≤ bs.length → Calls Tryd.prog 11 #[.pointer (some ⟨D, 0, none⟩), .slice ar k cr] wr fun e w' => PsPost w.heap.size wr D lim (bitsL (bs.take t) ++ bitsL ((bs.drop t).take k)) o r e w') := fun k hk =>
      push_any hdec ((bs.drop t).take k) ar k cr (by rw [List.length_take, List.length_drop]; omega) ((HB.out.drop t).take k) (fun e => by have := har e; omega) ((hrow.take k).old hbel) hbel.size HO.out.pos (HO.out.below hbel HO.out.pos) hlim (by rw [bitsL_len, List.length_take]; omega)
    obtain ⟨ao, co, hv, _⟩ := hsl.shape
    rw [vals_len] at hv
    have hrl := hdec.le
    have hMc : M ≤ cr := by omega
    rw [hv] at HX2 ⊢
    rw [hM]
    clear hM HX hrow hdec hsl hg hbel har htl herr hcr hv
    rcases (show (N : Int) < (M : Int) ∨ M < N ∨ N = M by omega) with hlt | hlt | hlt
    · go_wp2_with fail
      refine (HPU.out N (by have := HM.out; omega)).mono ?_
      rintro e w2 ⟨r', o', tv, tg, rfl, hd2, hpre, hsl2, hfr2, hst2⟩
      obtain ⟨ax, cx, hv2, _, _, hx2⟩ := hsl2.shape
      rw [vals_len] at hv2
      subst hv2
      have HS2 : Hid (Dec w.heap.size w2 D lim (bitsL (bs.take t) ++ bitsL ((bs.drop t).take N)) o' r' ∧ r.out <+: r'.out ∧ Step wr w2 D o o' ∧ Row w2 ax (r'.out.drop r.out.length) ∧ (ax = none → cx = 0) ∧ Sl w2 5 (.slice ao r.out.length co) g (vals r.out)) :=
        ⟨hd2, hpre, hst2, hsl2.row rfl, hx2, (HX2.out.2.2.2.2.2.2.1).same fun k hk => hst2.block k ((HX2.out.2.2.2.2.2.2.1).lt hk) (HX2.out.2.2.2.2.2.2.2.1 k hk).2.1 (fun e => (HX2.out.2.2.2.2.2.2.2.1 k hk).2.2.1 e.symm) (fun e => (HX2.out.2.2.2.2.2.2.2.1 k hk).2.2.2 e.symm) (fun e => by rw [HX2.out.2.2.2.2.2.1.t] at e; cases e)⟩
      have hlo := hd2.le
      have HLN : Hid ((r'.out.drop r.out.length).length = r'.out.length - r.out.length) := List.length_drop
      rw [HLN.out]
      have herr' := err_cases r'
      obtain ⟨ER, hER⟩ : ∃ ER, r'.err = ER := ⟨_, rfl⟩
      have HER : Hid (r'.err = ER) := hER
      rw [hER] at herr' ⊢
      obtain ⟨Q, hQ⟩ : ∃ Q, r'.out.length - r.out.length = Q := ⟨_, rfl⟩
      have HQ : Hid (r'.out.length - r.out.length = Q) := hQ
      rw [hQ]
      have hQl : Q ≤ 1000000 := by omega
      obtain ⟨P, hP⟩ : ∃ P, r.out.length = P := ⟨_, rfl⟩
      have HPP : Hid (r.out.length = P) := hP
      rw [hP]
      rw [hP] at hrl
      have HSL : Hid (Sl w2 5 (.slice ao P co) g (vals r.out)) := by have := HS2.out.2.2.2.2.2; rw [hP] at this; exact this
      have hNM : N ≤ M := by omega
      clear hd2 hpre hsl2 hfr2 hst2 hx2 HPU hlo hER hQ hP
      go_wp2
      go_region_law (first
        | (refine step_more rfl _ _ rfl (.slice ao P co) g r.out rfl (HSL.out.same fun _ _ => rfl) ax Q cx (r'.out.drop r.out.length) rfl HS2.out.2.2.2.2.1 (HLN.out.trans HQ.out) (HS2.out.2.2.2.1.same fun _ _ _ => rfl) (by rw [HPP.out]; omega) ?_; intro v7 w7 g7 hs7 hg7 hgr7; obtain ⟨a7, c7, hv7, -⟩ := hs7.shape; generalize (vals (r.out ++ r'.out.drop r.out.length)).length = z7 at hv7; subst hv7)
        | fail)
      all_goals
        have HF : Hid (_) := al_step (k := N) (by have := HM.out; omega) HX2.out.2.1 HX2.out.2.2.1 HX2.out.2.2.2.1 HX2.out.2.2.2.2.1 HX2.out.2.2.2.2.2.1 HX2.out.2.2.2.2.2.2.2.1 HX2.out.2.2.2.2.2.2.2.2 HX2.out.2.2.2.2.2.2.1 HS2.out.1 HS2.out.2.1 HS2.out.2.2.1 hs7 hg7 (w2 := w2) ⟨hgr7.os, hgr7.tape, hgr7.output, hgr7.size, hgr7.block⟩
        clear hs7 hg7 hgr7 HS2 HX2 HSL
        rcases herr' with he | ⟨he, hen⟩
        · rw [he]
          go_wp2
          go_roundg (bs.length - (t + N))
          case rel =>
            refine ⟨t + N, by have := HM.out; omega, .inl (by have := HM.out; omega), ?_⟩
            have := HF.out.2.2.2.2 (HER.out.trans he)
            rw [if_neg (by omega), HM.out] at this
            exact this
          case measure => have := HM.out; omega
        · have HFF : Hid (AlPost w bs lim (.returned (.tuple #[.slice a7 z7 c7, .int .i64 ER, .pointer (some ⟨D, 0, none⟩)])) w7) := by
            have := al_fin HF.out.1 HF.out.2.1 HF.out.2.2.1 HF.out.2.2.2.1 (.inl (by rw [HER.out]; simpa using he))
            rw [HER.out] at this
            exact this
          clear HF
          go_wp2
          go_ret3
          exact HFF.out
    · have hgt : (M : Int) < (N : Int) := by omega
      go_wp2_with fail
      refine (HPU.out M (by have := HM.out; omega)).mono ?_
      rintro e w2 ⟨r', o', tv, tg, rfl, hd2, hpre, hsl2, hfr2, hst2⟩
      obtain ⟨ax, cx, hv2, _, _, hx2⟩ := hsl2.shape
      rw [vals_len] at hv2
      subst hv2
      have HS2 : Hid (Dec w.heap.size w2 D lim (bitsL (bs.take t) ++ bitsL ((bs.drop t).take M)) o' r' ∧ r.out <+: r'.out ∧ Step wr w2 D o o' ∧ Row w2 ax (r'.out.drop r.out.length) ∧ (ax = none → cx = 0) ∧ Sl w2 5 (.slice ao r.out.length co) g (vals r.out)) :=
        ⟨hd2, hpre, hst2, hsl2.row rfl, hx2, (HX2.out.2.2.2.2.2.2.1).same fun k hk => hst2.block k ((HX2.out.2.2.2.2.2.2.1).lt hk) (HX2.out.2.2.2.2.2.2.2.1 k hk).2.1 (fun e => (HX2.out.2.2.2.2.2.2.2.1 k hk).2.2.1 e.symm) (fun e => (HX2.out.2.2.2.2.2.2.2.1 k hk).2.2.2 e.symm) (fun e => by rw [HX2.out.2.2.2.2.2.1.t] at e; cases e)⟩
      have hlo := hd2.le
      have HLN : Hid ((r'.out.drop r.out.length).length = r'.out.length - r.out.length) := List.length_drop
      rw [HLN.out]
      have herr' := err_cases r'
      obtain ⟨ER, hER⟩ : ∃ ER, r'.err = ER := ⟨_, rfl⟩
      have HER : Hid (r'.err = ER) := hER
      rw [hER] at herr' ⊢
      obtain ⟨Q, hQ⟩ : ∃ Q, r'.out.length - r.out.length = Q := ⟨_, rfl⟩
      have HQ : Hid (r'.out.length - r.out.length = Q) := hQ
      rw [hQ]
      have hQl : Q ≤ 1000000 := by omega
      obtain ⟨P, hP⟩ : ∃ P, r.out.length = P := ⟨_, rfl⟩
      have HPP : Hid (r.out.length = P) := hP
      rw [hP]
      rw [hP] at hrl
      have HSL : Hid (Sl w2 5 (.slice ao P co) g (vals r.out)) := by have := HS2.out.2.2.2.2.2; rw [hP] at this; exact this
      have hNM : M ≤ M := Nat.le_refl _
      clear hd2 hpre hsl2 hfr2 hst2 hx2 HPU hlo hER hQ hP
      go_wp2
      go_region_law (first
        | (refine step_more rfl _ _ rfl (.slice ao P co) g r.out rfl (HSL.out.same fun _ _ => rfl) ax Q cx (r'.out.drop r.out.length) rfl HS2.out.2.2.2.2.1 (HLN.out.trans HQ.out) (HS2.out.2.2.2.1.same fun _ _ _ => rfl) (by rw [HPP.out]; omega) ?_; intro v7 w7 g7 hs7 hg7 hgr7; obtain ⟨a7, c7, hv7, -⟩ := hs7.shape; generalize (vals (r.out ++ r'.out.drop r.out.length)).length = z7 at hv7; subst hv7)
        | fail)
      all_goals
        have HF : Hid (_) := al_step (k := M) (by have := HM.out; omega) HX2.out.2.1 HX2.out.2.2.1 HX2.out.2.2.2.1 HX2.out.2.2.2.2.1 HX2.out.2.2.2.2.2.1 HX2.out.2.2.2.2.2.2.2.1 HX2.out.2.2.2.2.2.2.2.2 HX2.out.2.2.2.2.2.2.1 HS2.out.1 HS2.out.2.1 HS2.out.2.2.1 hs7 hg7 (w2 := w2) ⟨hgr7.os, hgr7.tape, hgr7.output, hgr7.size, hgr7.block⟩
        clear hs7 hg7 hgr7 HS2 HX2 HSL
        have HFF : Hid (AlPost w bs lim (.returned (.tuple #[.slice a7 z7 c7, .int .i64 ER, .pointer (some ⟨D, 0, none⟩)])) w7) := by
          have := al_fin HF.out.1 HF.out.2.1 HF.out.2.2.1 HF.out.2.2.2.1 (.inr (by have := HM.out; omega))
          rw [HER.out] at this
          exact this
        clear HF
        rcases herr' with he | ⟨he, hen⟩
        · have HF0 : Hid (AlPost w bs lim (.returned (.tuple #[.slice a7 z7 c7, .int .i64 0, .pointer (some ⟨D, 0, none⟩)])) w7) := by
            have := HFF.out
            rw [he] at this
            exact this
          rw [he]
          clear HFF
          go_wp2
          all_goals
            go_ret3
            exact HF0.out
        · go_wp2
          all_goals
            go_ret3
            exact HFF.out
    · obtain rfl : N = M := by omega
      go_wp2_with fail
      refine (HPU.out N (by have := HM.out; omega)).mono ?_
      rintro e w2 ⟨r', o', tv, tg, rfl, hd2, hpre, hsl2, hfr2, hst2⟩
      obtain ⟨ax, cx, hv2, _, _, hx2⟩ := hsl2.shape
      rw [vals_len] at hv2
      subst hv2
      have HS2 : Hid (Dec w.heap.size w2 D lim (bitsL (bs.take t) ++ bitsL ((bs.drop t).take N)) o' r' ∧ r.out <+: r'.out ∧ Step wr w2 D o o' ∧ Row w2 ax (r'.out.drop r.out.length) ∧ (ax = none → cx = 0) ∧ Sl w2 5 (.slice ao r.out.length co) g (vals r.out)) :=
        ⟨hd2, hpre, hst2, hsl2.row rfl, hx2, (HX2.out.2.2.2.2.2.2.1).same fun k hk => hst2.block k ((HX2.out.2.2.2.2.2.2.1).lt hk) (HX2.out.2.2.2.2.2.2.2.1 k hk).2.1 (fun e => (HX2.out.2.2.2.2.2.2.2.1 k hk).2.2.1 e.symm) (fun e => (HX2.out.2.2.2.2.2.2.2.1 k hk).2.2.2 e.symm) (fun e => by rw [HX2.out.2.2.2.2.2.1.t] at e; cases e)⟩
      have hlo := hd2.le
      have HLN : Hid ((r'.out.drop r.out.length).length = r'.out.length - r.out.length) := List.length_drop
      rw [HLN.out]
      have herr' := err_cases r'
      obtain ⟨ER, hER⟩ : ∃ ER, r'.err = ER := ⟨_, rfl⟩
      have HER : Hid (r'.err = ER) := hER
      rw [hER] at herr' ⊢
      obtain ⟨Q, hQ⟩ : ∃ Q, r'.out.length - r.out.length = Q := ⟨_, rfl⟩
      have HQ : Hid (r'.out.length - r.out.length = Q) := hQ
      rw [hQ]
      have hQl : Q ≤ 1000000 := by omega
      obtain ⟨P, hP⟩ : ∃ P, r.out.length = P := ⟨_, rfl⟩
      have HPP : Hid (r.out.length = P) := hP
      rw [hP]
      rw [hP] at hrl
      have HSL : Hid (Sl w2 5 (.slice ao P co) g (vals r.out)) := by have := HS2.out.2.2.2.2.2; rw [hP] at this; exact this
      have hNM : N ≤ N := Nat.le_refl _
      clear hd2 hpre hsl2 hfr2 hst2 hx2 HPU hlo hER hQ hP
      go_wp2
      go_region_law (first
        | (refine step_more rfl _ _ rfl (.slice ao P co) g r.out rfl (HSL.out.same fun _ _ => rfl) ax Q cx (r'.out.drop r.out.length) rfl HS2.out.2.2.2.2.1 (HLN.out.trans HQ.out) (HS2.out.2.2.2.1.same fun _ _ _ => rfl) (by rw [HPP.out]; omega) ?_; intro v7 w7 g7 hs7 hg7 hgr7; obtain ⟨a7, c7, hv7, -⟩ := hs7.shape; generalize (vals (r.out ++ r'.out.drop r.out.length)).length = z7 at hv7; subst hv7)
        | fail)
      all_goals
        have HF : Hid (_) := al_step (k := N) (by have := HM.out; omega) HX2.out.2.1 HX2.out.2.2.1 HX2.out.2.2.2.1 HX2.out.2.2.2.2.1 HX2.out.2.2.2.2.2.1 HX2.out.2.2.2.2.2.2.2.1 HX2.out.2.2.2.2.2.2.2.2 HX2.out.2.2.2.2.2.2.1 HS2.out.1 HS2.out.2.1 HS2.out.2.2.1 hs7 hg7 (w2 := w2) ⟨hgr7.os, hgr7.tape, hgr7.output, hgr7.size, hgr7.block⟩
        clear hs7 hg7 hgr7 HS2 HX2 HSL
        have HFF : Hid (AlPost w bs lim (.returned (.tuple #[.slice a7 z7 c7, .int .i64 ER, .pointer (some ⟨D, 0, none⟩)])) w7) := by
          have := al_fin HF.out.1 HF.out.2.1 HF.out.2.2.1 HF.out.2.2.2.1 (.inr (by have := HM.out; omega))
          rw [HER.out] at this
          exact this
        clear HF
        rcases herr' with he | ⟨he, hen⟩
        · have HF0 : Hid (AlPost w bs lim (.returned (.tuple #[.slice a7 z7 c7, .int .i64 0, .pointer (some ⟨D, 0, none⟩)])) w7) := by
            have := HFF.out
            rw [he] at this
            exact this
          rw [he]
          clear HFF
          go_wp2
          all_goals
            go_ret3
            exact HF0.out
        · go_wp2
          all_goals
            go_ret3
            exact HFF.out
set_option maxHeartbeats 3200000 in
set_option maxRecDepth 20000 in
theorem all_zero (a : Option Addr) (cap : Nat) (bs : List Int) (lim : Nat) (w : World) (hrow : Row w a bs) (hby : Bytes bs) (hc : bs.length ≤ cap) (hcap : cap ≤ 140737488351232) (hnone : a = none → cap = 0) (hlen : bs.length ≤ 20000) (hlim : lim ≤ 1000000) (hord : Ord w) :
    Calls Tryd.prog 19 #[.slice a bs.length cap, .int .i64 0, .int .i64 lim] w fun e w' => AlPost w bs lim e w' := by
  have HO : Hid (Ord w) := hord
  have HB : Hid (Bytes bs) := hby
  have HR : Hid (Row w a bs) := hrow
  have HN : Hid (a = none → cap = 0) := hnone
  clear hord hby hrow hnone
  go_enter Tryd.func19, Tryd.ntmps19
  go_wp2_with fail
  refine (new_any lim w (by omega)).mono ?_
  rintro e w1 ⟨rfl, hd, hb1⟩
  rw [Int.toNat_natCast] at hd
  have HA : Hid (AlRel w bs lim w.heap.size 0 (.slice a bs.length cap) (.slice none 0 0) w1) := ⟨a, cap, none, o0, _, Nat.zero_le _, rfl, hc, hcap, HN.out, HR.out, hd, rfl, Sl.nil _ _, (fun k hk => by cases hk), hb1⟩
  clear hd hb1
  obtain ⟨D, hD⟩ : ∃ D, w.heap.size = D := ⟨_, rfl⟩
  rw [hD] at HA ⊢
  clear hD
  obtain ⟨N, hN⟩ : ∃ N : Nat, bs.length + 1 = N := ⟨_, rfl⟩
  have hNi : (bs.length : Int) + 1 = (N : Int) := by omega
  go_wp2
  go_loopg [0, 10, 11, 12, 13] bs.length (fun fu b out _ _ _ wr => ∃ t : Nat, t + fu = bs.length ∧ (1 ≤ fu ∨ t = 0) ∧ Hid (AlRel w bs lim D t b out wr))
  case atStart => exact ⟨0, by omega, .inr rfl, HA.out⟩
  case round =>
    clear HA
    obtain ⟨t, ht, ht0, HX⟩ := hrel
    obtain ⟨ar, cr, g, o, r, htl, rfl, hcr, hcr2, har, hrow, hdec, herr, hsl, hg, hbel⟩ := HX.out
    obtain ⟨M, hM⟩ : ∃ M, bs.length - t = M := ⟨_, rfl⟩
    have HM : Hid (bs.length - t = M) := hM
    have HX2 : Hid (t ≤ bs.length ∧ bs.length - t ≤ cr ∧ cr ≤ 140737488351232 ∧ (ar = none → cr = 0) ∧ Row w ar (bs.drop t) ∧ Dec w.heap.size wr D lim (bitsL (bs.take t)) o r ∧ Sl wr 5 u10 g (vals r.out) ∧ (∀ k, g = some k → w.heap.size ≤ k ∧ k ≠ D ∧ o.g ≠ some k ∧ o.q ≠ some k) ∧ Below w.heap.size w wr) := ⟨htl, hcr, hcr2, har, hrow, hdec, hsl, hg, hbel⟩
    have HPU : Hid (∀ k, t + k ≤ bs.length → Calls Tryd.prog 11 #[.pointer (some ⟨D, 0, none⟩), .slice ar k cr] wr fun e w' => PsPost w.heap.size wr D lim (bitsL (bs.take t) ++ bitsL ((bs.drop t).take k)) o r e w') := fun k hk =>
      push_any hdec ((bs.drop t).take k) ar k cr (by rw [List.length_take, List.length_drop]; omega) ((HB.out.drop t).take k) (fun e => by have := har e; omega) ((hrow.take k).old hbel) hbel.size HO.out.pos (HO.out.below hbel HO.out.pos) hlim (by rw [bitsL_len, List.length_take]; omega)
    obtain ⟨ao, co, hv, _⟩ := hsl.shape
    rw [vals_len] at hv
    have hrl := hdec.le
    have hMc : M ≤ cr := by omega
    rw [hv] at HX2 ⊢
    rw [hM]
    clear hM HX hrow hdec hsl hg hbel har htl herr hcr hv
    rcases (show (N : Int) < (M : Int) ∨ M < N ∨ N = M by omega) with hlt | hlt | hlt
    · go_wp2_with fail
      refine (HPU.out N (by have := HM.out; omega)).mono ?_
      rintro e w2 ⟨r', o', tv, tg, rfl, hd2, hpre, hsl2, hfr2, hst2⟩
      obtain ⟨ax, cx, hv2, _, _, hx2⟩ := hsl2.shape
      rw [vals_len] at hv2
      subst hv2
      have HS2 : Hid (Dec w.heap.size w2 D lim (bitsL (bs.take t) ++ bitsL ((bs.drop t).take N)) o' r' ∧ r.out <+: r'.out ∧ Step wr w2 D o o' ∧ Row w2 ax (r'.out.drop r.out.length) ∧ (ax = none → cx = 0) ∧ Sl w2 5 (.slice ao r.out.length co) g (vals r.out)) :=
        ⟨hd2, hpre, hst2, hsl2.row rfl, hx2, (HX2.out.2.2.2.2.2.2.1).same fun k hk => hst2.block k ((HX2.out.2.2.2.2.2.2.1).lt hk) (HX2.out.2.2.2.2.2.2.2.1 k hk).2.1 (fun e => (HX2.out.2.2.2.2.2.2.2.1 k hk).2.2.1 e.symm) (fun e => (HX2.out.2.2.2.2.2.2.2.1 k hk).2.2.2 e.symm) (fun e => by rw [HX2.out.2.2.2.2.2.1.t] at e; cases e)⟩
      have hlo := hd2.le
      have HLN : Hid ((r'.out.drop r.out.length).length = r'.out.length - r.out.length) := List.length_drop
      rw [HLN.out]
      have herr' := err_cases r'
      obtain ⟨ER, hER⟩ : ∃ ER, r'.err = ER := ⟨_, rfl⟩
      have HER : Hid (r'.err = ER) := hER
      rw [hER] at herr' ⊢
      obtain ⟨Q, hQ⟩ : ∃ Q, r'.out.length - r.out.length = Q := ⟨_, rfl⟩
      have HQ : Hid (r'.out.length - r.out.length = Q) := hQ
      rw [hQ]
      have hQl : Q ≤ 1000000 := by omega
      obtain ⟨P, hP⟩ : ∃ P, r.out.length = P := ⟨_, rfl⟩
      have HPP : Hid (r.out.length = P) := hP
      rw [hP]
      rw [hP] at hrl
      have HSL : Hid (Sl w2 5 (.slice ao P co) g (vals r.out)) := by have := HS2.out.2.2.2.2.2; rw [hP] at this; exact this
      have hNM : N ≤ M := by omega
      clear hd2 hpre hsl2 hfr2 hst2 hx2 HPU hlo hER hQ hP
      go_wp2
      go_region_law (first
        | (refine step_more rfl _ _ rfl (.slice ao P co) g r.out rfl (HSL.out.same fun _ _ => rfl) ax Q cx (r'.out.drop r.out.length) rfl HS2.out.2.2.2.2.1 (HLN.out.trans HQ.out) (HS2.out.2.2.2.1.same fun _ _ _ => rfl) (by rw [HPP.out]; omega) ?_; intro v7 w7 g7 hs7 hg7 hgr7; obtain ⟨a7, c7, hv7, -⟩ := hs7.shape; generalize (vals (r.out ++ r'.out.drop r.out.length)).length = z7 at hv7; subst hv7)
        | fail)
      all_goals
        have HF : Hid (_) := al_step (k := N) (by have := HM.out; omega) HX2.out.2.1 HX2.out.2.2.1 HX2.out.2.2.2.1 HX2.out.2.2.2.2.1 HX2.out.2.2.2.2.2.1 HX2.out.2.2.2.2.2.2.2.1 HX2.out.2.2.2.2.2.2.2.2 HX2.out.2.2.2.2.2.2.1 HS2.out.1 HS2.out.2.1 HS2.out.2.2.1 hs7 hg7 (w2 := w2) ⟨hgr7.os, hgr7.tape, hgr7.output, hgr7.size, hgr7.block⟩
        clear hs7 hg7 hgr7 HS2 HX2 HSL
        rcases herr' with he | ⟨he, hen⟩
        · rw [he]
          go_wp2
          go_roundg (bs.length - (t + N))
          case rel =>
            refine ⟨t + N, by have := HM.out; omega, .inl (by have := HM.out; omega), ?_⟩
            have := HF.out.2.2.2.2 (HER.out.trans he)
            rw [if_neg (by omega), HM.out] at this
            exact this
          case measure => have := HM.out; omega
        · have HFF : Hid (AlPost w bs lim (.returned (.tuple #[.slice a7 z7 c7, .int .i64 ER, .pointer (some ⟨D, 0, none⟩)])) w7) := by
            have := al_fin HF.out.1 HF.out.2.1 HF.out.2.2.1 HF.out.2.2.2.1 (.inl (by rw [HER.out]; simpa using he))
            rw [HER.out] at this
            exact this
          clear HF
          go_wp2
          go_ret3
          exact HFF.out
    · have hgt : (M : Int) < (N : Int) := by omega
      go_wp2_with fail
      refine (HPU.out M (by have := HM.out; omega)).mono ?_
      rintro e w2 ⟨r', o', tv, tg, rfl, hd2, hpre, hsl2, hfr2, hst2⟩
      obtain ⟨ax, cx, hv2, _, _, hx2⟩ := hsl2.shape
      rw [vals_len] at hv2
      subst hv2
      have HS2 : Hid (Dec w.heap.size w2 D lim (bitsL (bs.take t) ++ bitsL ((bs.drop t).take M)) o' r' ∧ r.out <+: r'.out ∧ Step wr w2 D o o' ∧ Row w2 ax (r'.out.drop r.out.length) ∧ (ax = none → cx = 0) ∧ Sl w2 5 (.slice ao r.out.length co) g (vals r.out)) :=
        ⟨hd2, hpre, hst2, hsl2.row rfl, hx2, (HX2.out.2.2.2.2.2.2.1).same fun k hk => hst2.block k ((HX2.out.2.2.2.2.2.2.1).lt hk) (HX2.out.2.2.2.2.2.2.2.1 k hk).2.1 (fun e => (HX2.out.2.2.2.2.2.2.2.1 k hk).2.2.1 e.symm) (fun e => (HX2.out.2.2.2.2.2.2.2.1 k hk).2.2.2 e.symm) (fun e => by rw [HX2.out.2.2.2.2.2.1.t] at e; cases e)⟩
      have hlo := hd2.le
      have HLN : Hid ((r'.out.drop r.out.length).length = r'.out.length - r.out.length) := List.length_drop
      rw [HLN.out]
      have herr' := err_cases r'
      obtain ⟨ER, hER⟩ : ∃ ER, r'.err = ER := ⟨_, rfl⟩
      have HER : Hid (r'.err = ER) := hER
      rw [hER] at herr' ⊢
      obtain ⟨Q, hQ⟩ : ∃ Q, r'.out.length - r.out.length = Q := ⟨_, rfl⟩
      have HQ : Hid (r'.out.length - r.out.length = Q) := hQ
      rw [hQ]
      have hQl : Q ≤ 1000000 := by omega
      obtain ⟨P, hP⟩ : ∃ P, r.out.length = P := ⟨_, rfl⟩
      have HPP : Hid (r.out.length = P) := hP
      rw [hP]
      rw [hP] at hrl
      have HSL : Hid (Sl w2 5 (.slice ao P co) g (vals r.out)) := by have := HS2.out.2.2.2.2.2; rw [hP] at this; exact this
      have hNM : M ≤ M := Nat.le_refl _
      clear hd2 hpre hsl2 hfr2 hst2 hx2 HPU hlo hER hQ hP
      go_wp2
      go_region_law (first
        | (refine step_more rfl _ _ rfl (.slice ao P co) g r.out rfl (HSL.out.same fun _ _ => rfl) ax Q cx (r'.out.drop r.out.length) rfl HS2.out.2.2.2.2.1 (HLN.out.trans HQ.out) (HS2.out.2.2.2.1.same fun _ _ _ => rfl) (by rw [HPP.out]; omega) ?_; intro v7 w7 g7 hs7 hg7 hgr7; obtain ⟨a7, c7, hv7, -⟩ := hs7.shape; generalize (vals (r.out ++ r'.out.drop r.out.length)).length = z7 at hv7; subst hv7)
        | fail)
      all_goals
        have HF : Hid (_) := al_step (k := M) (by have := HM.out; omega) HX2.out.2.1 HX2.out.2.2.1 HX2.out.2.2.2.1 HX2.out.2.2.2.2.1 HX2.out.2.2.2.2.2.1 HX2.out.2.2.2.2.2.2.2.1 HX2.out.2.2.2.2.2.2.2.2 HX2.out.2.2.2.2.2.2.1 HS2.out.1 HS2.out.2.1 HS2.out.2.2.1 hs7 hg7 (w2 := w2) ⟨hgr7.os, hgr7.tape, hgr7.output, hgr7.size, hgr7.block⟩
        clear hs7 hg7 hgr7 HS2 HX2 HSL
        have HFF : Hid (AlPost w bs lim (.returned (.tuple #[.slice a7 z7 c7, .int .i64 ER, .pointer (some ⟨D, 0, none⟩)])) w7) := by
          have := al_fin HF.out.1 HF.out.2.1 HF.out.2.2.1 HF.out.2.2.2.1 (.inr (by have := HM.out; omega))
          rw [HER.out] at this
          exact this
        clear HF
        rcases herr' with he | ⟨he, hen⟩
        · have HF0 : Hid (AlPost w bs lim (.returned (.tuple #[.slice a7 z7 c7, .int .i64 0, .pointer (some ⟨D, 0, none⟩)])) w7) := by
            have := HFF.out
            rw [he] at this
            exact this
          rw [he]
          clear HFF
          go_wp2
          all_goals
            go_ret3
            exact HF0.out
        · go_wp2
          all_goals
            go_ret3
            exact HFF.out
    · obtain rfl : N = M := by omega
      go_wp2_with fail
      refine (HPU.out N (by have := HM.out; omega)).mono ?_
      rintro e w2 ⟨r', o', tv, tg, rfl, hd2, hpre, hsl2, hfr2, hst2⟩
      obtain ⟨ax, cx, hv2, _, _, hx2⟩ := hsl2.shape
      rw [vals_len] at hv2
      subst hv2
      have HS2 : Hid (Dec w.heap.size w2 D lim (bitsL (bs.take t) ++ bitsL ((bs.drop t).take N)) o' r' ∧ r.out <+: r'.out ∧ Step wr w2 D o o' ∧ Row w2 ax (r'.out.drop r.out.length) ∧ (ax = none → cx = 0) ∧ Sl w2 5 (.slice ao r.out.length co) g (vals r.out)) :=
        ⟨hd2, hpre, hst2, hsl2.row rfl, hx2, (HX2.out.2.2.2.2.2.2.1).same fun k hk => hst2.block k ((HX2.out.2.2.2.2.2.2.1).lt hk) (HX2.out.2.2.2.2.2.2.2.1 k hk).2.1 (fun e => (HX2.out.2.2.2.2.2.2.2.1 k hk).2.2.1 e.symm) (fun e => (HX2.out.2.2.2.2.2.2.2.1 k hk).2.2.2 e.symm) (fun e => by rw [HX2.out.2.2.2.2.2.1.t] at e; cases e)⟩
      have hlo := hd2.le
      have HLN : Hid ((r'.out.drop r.out.length).length = r'.out.length - r.out.length) := List.length_drop
      rw [HLN.out]
      have herr' := err_cases r'
      obtain ⟨ER, hER⟩ : ∃ ER, r'.err = ER := ⟨_, rfl⟩
      have HER : Hid (r'.err = ER) := hER
      rw [hER] at herr' ⊢
      obtain ⟨Q, hQ⟩ : ∃ Q, r'.out.length - r.out.length = Q := ⟨_, rfl⟩
      have HQ : Hid (r'.out.length - r.out.length = Q) := hQ
      rw [hQ]
      have hQl : Q ≤ 1000000 := by omega
      obtain ⟨P, hP⟩ : ∃ P, r.out.length = P := ⟨_, rfl⟩
      have HPP : Hid (r.out.length = P) := hP
      rw [hP]
      rw [hP] at hrl
      have HSL : Hid (Sl w2 5 (.slice ao P co) g (vals r.out)) := by have := HS2.out.2.2.2.2.2; rw [hP] at this; exact this
      have hNM : N ≤ N := Nat.le_refl _
      clear hd2 hpre hsl2 hfr2 hst2 hx2 HPU hlo hER hQ hP
      go_wp2
      go_region_law (first
        | (refine step_more rfl _ _ rfl (.slice ao P co) g r.out rfl (HSL.out.same fun _ _ => rfl) ax Q cx (r'.out.drop r.out.length) rfl HS2.out.2.2.2.2.1 (HLN.out.trans HQ.out) (HS2.out.2.2.2.1.same fun _ _ _ => rfl) (by rw [HPP.out]; omega) ?_; intro v7 w7 g7 hs7 hg7 hgr7; obtain ⟨a7, c7, hv7, -⟩ := hs7.shape; generalize (vals (r.out ++ r'.out.drop r.out.length)).length = z7 at hv7; subst hv7)
        | fail)
      all_goals
        have HF : Hid (_) := al_step (k := N) (by have := HM.out; omega) HX2.out.2.1 HX2.out.2.2.1 HX2.out.2.2.2.1 HX2.out.2.2.2.2.1 HX2.out.2.2.2.2.2.1 HX2.out.2.2.2.2.2.2.2.1 HX2.out.2.2.2.2.2.2.2.2 HX2.out.2.2.2.2.2.2.1 HS2.out.1 HS2.out.2.1 HS2.out.2.2.1 hs7 hg7 (w2 := w2) ⟨hgr7.os, hgr7.tape, hgr7.output, hgr7.size, hgr7.block⟩
        clear hs7 hg7 hgr7 HS2 HX2 HSL
        have HFF : Hid (AlPost w bs lim (.returned (.tuple #[.slice a7 z7 c7, .int .i64 ER, .pointer (some ⟨D, 0, none⟩)])) w7) := by
          have := al_fin HF.out.1 HF.out.2.1 HF.out.2.2.1 HF.out.2.2.2.1 (.inr (by have := HM.out; omega))
          rw [HER.out] at this
          exact this
        clear HF
        rcases herr' with he | ⟨he, hen⟩
        · have HF0 : Hid (AlPost w bs lim (.returned (.tuple #[.slice a7 z7 c7, .int .i64 0, .pointer (some ⟨D, 0, none⟩)])) w7) := by
            have := HFF.out
            rw [he] at this
            exact this
          rw [he]
          clear HFF
          go_wp2
          all_goals
            go_ret3
            exact HF0.out
        · go_wp2
          all_goals
            go_ret3
            exact HFF.out
end Go.Proofs.YtomoolipegmlcaaDoor
