/- LZW: a decoder between two calls: New, Done, Rest, Push. -/
import Derived.Test.YtcbmlioeeoghkaaLzJ
import Derived.Test.YtcbmlioeeoghkaaLzL
namespace Go.Proofs.Ytcbmlioeeoghkaa
open Go.RowKit
theorem LE.own {base : Nat} {S S' : Nat → Prop} {w : World} {d L r : Nat} {g : Option Nat} {s : Lz} (h : LE base S w d L r g s) (hs : ∀ k, S k → k < w.heap.size → S' k) : LE base S' w d L r g s := by
  rcases h with ⟨h1, fv, h2⟩ | ⟨h1, h2, rv, gr, h3, h4, h5⟩ | h
  · exact .inl ⟨h1, fv, h2.owns (hs _ h2.sd (lt_of_block h2.dc)) (hs _ h2.sr h2.rd.lt) (fun k hk => hs k (h2.sg k hk) (h2.rd.glt hk)) (fun k hk => hs k (h2.sf k hk) (by obtain ⟨_, cur, hc⟩ := h2.tb.tag hk; exact lt_of_block hc))⟩
  · exact .inr (.inl ⟨h1, h2, rv, gr, h3, h4, fun k hk => hs k (h5 k hk) (h4.lt hk)⟩)
  · exact .inr (.inr h)
theorem LE.keepS {base : Nat} {S : Nat → Prop} {w w' : World} {d L r : Nat} {g : Option Nat} {s : Lz} (h : LE base S w d L r g s) (hd : S d) (hk : ∀ k, S k → w'.heap[k]? = w.heap[k]?) (hz : w.heap.size ≤ w'.heap.size) : LE base S w' d L r g s := by
  rcases h with ⟨h1, fv, h2⟩ | ⟨h1, h2, rv, gr, h3, h4, h5⟩ | ⟨h1, h2, h3, h4⟩
  · exact .inl ⟨h1, fv, (hk d hd).trans h2.dc, h2.rd.same (hk r h2.sr) (fun k e => hk k (h2.sg k e)), h2.tb.same (fun k c e _ => hk k (h2.sf k e)), h2.gn, h2.gz, h2.bz, h2.zl, h2.wf, h2.ct, h2.ah, h2.k0, h2.er, h2.re, h2.lf, h2.sd, h2.sr, h2.sg, h2.sf, Nat.le_trans h2.bs hz⟩
  · exact .inr (.inl ⟨h1, h2, rv, gr, (hk d hd).trans h3, h4.same fun k e => hk k (h5 k e), h5⟩)
  · exact .inr (.inr ⟨h1, h2, h3, (hk d hd).trans h4⟩)
theorem LE.cells {base : Nat} {S : Nat → Prop} {w : World} {d L r : Nat} {g : Option Nat} {s : Lz} (h : LE base S w d L r g s) : w.cell? ⟨d, 0, none⟩ = some (.int .i64 (L : Int)) ∧ w.cell? ⟨d, 2, none⟩ = some (.int .i64 s.er) ∧ w.cell? ⟨d, 3, none⟩ = some (.bool (s.k == 1)) ∧ (s.k = 2 ↔ s.er ≠ 0) := by
  rcases h with ⟨h1, fv, h2⟩ | ⟨h1, h2, rv, gr, h3, h4, h5⟩ | ⟨h1, h2, h3, h4⟩
  · obtain ⟨k0, k1, k2, k3, k4, k5⟩ := h2.dc.head
    refine ⟨k0, by rw [k2, h2.er], by rw [k3, h1]; rfl, ?_⟩
    rw [h1, h2.er]; decide
  · obtain ⟨k0, k1, k2, k3, k4, k5⟩ := h3.head
    refine ⟨k0, by rw [k2, h2], by rw [k3, h1]; rfl, ?_⟩
    rw [h1, h2]; decide
  · obtain ⟨k0, k1, k2, k3, k4, k5⟩ := h4.head
    refine ⟨k0, by rw [k2], by rw [k3, h1]; rfl, ?_⟩
    rw [h1]; exact ⟨fun _ => h2, fun _ => rfl⟩
/-- A decoder; S are its blocks. -/
structure LMem (base : Nat) (w : World) (d L : Nat) (s : Lz) (S : Nat → Prop) : Prop where
  sd : S d
  sb : ∀ k, S k → base ≤ k ∧ k < w.heap.size
  le : ∃ B r g, LE B S w d L r g s
section
variable {base : Nat} {w w' : World} {d L : Nat} {s : Lz} {S : Nat → Prop}
theorem LMem.keep (h : LMem base w d L s S) (hk : ∀ k, S k → w'.heap[k]? = w.heap[k]?) (hz : w.heap.size ≤ w'.heap.size) : LMem base w' d L s S := by
  obtain ⟨B, r, g, hl⟩ := h.le
  exact ⟨h.sd, fun k hk => ⟨(h.sb k hk).1, Nat.lt_of_lt_of_le (h.sb k hk).2 hz⟩, B, r, g, hl.keepS h.sd hk hz⟩
theorem LMem.old (h : LMem base w d L s S) (hb : Below w.heap.size w w') : LMem base w' d L s S := h.keep (fun k hk => hb.block k (h.sb k hk).2) hb.size
theorem LMem.grow {g : Option Nat} (h : LMem base w d L s S) (hgr : w.grownBy w' g) (hg : ∀ k, g = some k → ¬ S k) : LMem base w' d L s S := h.keep (fun k hk => hgr.block k (h.sb k hk).2 (fun e => hg k e.symm hk)) hgr.size
set_option maxHeartbeats 400000 in
theorem ldone_any (h : LMem base w d L s S) : Calls Try.prog 15 #[.pointer (some ⟨d, 0, none⟩)] w fun e w' => e = .returned (.bool (s.k == 1)) ∧ w' = w := by
  obtain ⟨B, r, g, hl⟩ := h.le
  obtain ⟨-, -, k3, -⟩ := hl.cells
  clear hl h
  generalize (s.k == 1) = b at *
  go_enter Try.func15, Try.ntmps15
  go_wp2
  go_ret
  exact ⟨rfl, rfl⟩
end
def LrPost (w : World) (z : List Int) (e : Ending) (w' : World) : Prop :=
  ∃ v g, e = .returned v ∧ Sl w' 5 v g (vals z) ∧ (∀ k, g = some k → w.heap.size ≤ k) ∧ Below w.heap.size w w'
set_option maxHeartbeats 800000 in
theorem lrest_row {w : World} {d : Nat} {av : Option Addr} {z : List Int} {cv : Nat} (k4 : w.cell? ⟨d, 4, none⟩ = some (.slice av z.length cv)) (hrow : Row w av z) (hl3 : av = none → cv = 0) (hl : z.length ≤ 140737488351232) : Calls Try.prog 16 #[.pointer (some ⟨d, 0, none⟩)] w fun e w' => LrPost w z e w' := by
  have HRow : Hid (Row w av z ∧ z.length ≤ 140737488351232 ∧ (av = none → cv = 0)) := ⟨hrow, hl, hl3⟩
  obtain ⟨n, hn⟩ : ∃ n, z.length = n := ⟨_, rfl⟩
  have HN : Hid (z.length = n) := hn
  rw [hn] at k4
  clear hrow hl hn hl3
  go_enter Try.func16, Try.ntmps16
  go_wp2_with (at_builtin; refine wpList_more rfl _ _ rfl (.slice none 0 0) none [] rfl (Sl.nil _ _) av n cv z rfl HRow.out.2.2 HN.out HRow.out.1 (by have := HRow.out.2.1; have := HN.out; simp only [List.length_nil]; omega) ?_)
  intro v' w1 g' hsl hg' hgrow
  have HP : Hid (LrPost w z (.returned v') w1) := by
    refine ⟨v', g', rfl, hsl, fun k hk => ?_, ⟨hgrow.os, hgrow.tape, hgrow.output, hgrow.size, fun k hk => hgrow.block k hk (by simp)⟩⟩
    rcases hg' with e | ⟨k', e, hk'⟩
    · rw [e] at hk; cases hk
    · rw [e] at hk; cases hk; exact hk'
  clear hsl hg' hgrow
  go_wp2
  go_ret
  exact HP.out
theorem lrest_any {base : Nat} {w : World} {d L : Nat} {s : Lz} {S : Nat → Prop} (h : LMem base w d L s S) (hl : s.rest.length ≤ 140737488351232) : Calls Try.prog 16 #[.pointer (some ⟨d, 0, none⟩)] w fun e w' => LrPost w s.rest e w' := by
  obtain ⟨B, r, g, hle⟩ := h.le
  rcases hle with ⟨h1, fv, h2⟩ | ⟨h1, h2, rv, gr, h3, h4, h5⟩ | ⟨h1, h2, h3, h4⟩
  · obtain ⟨k0, k1, k2, k3, k4, k5⟩ := h2.dc.head
    have e := h2.re
    exact lrest_row (av := none) (cv := 0) (by rw [k4, e]; rfl) (.inl e) (fun _ => rfl) hl
  · obtain ⟨k0, k1, k2, k3, k4, k5⟩ := h3.head
    obtain ⟨av, cv, hv, -, -, hn⟩ := h4.shape
    rw [vals_len] at hv
    exact lrest_row (by rw [k4, hv]) (h4.row hv) hn hl
  · obtain ⟨k0, k1, k2, k3, k4, k5⟩ := h4.head
    exact lrest_row (av := none) (cv := 0) (by rw [k4, h3]; rfl) (.inl h3) (fun _ => rfl) hl
/-- What Push leaves and tells. -/
def LuPost (base : Nat) (w : World) (d L : Nat) (s : Lz) (bs : List Int) (S : Nat → Prop) (e : Ending) (w' : World) : Prop :=
  ∃ s' S' T tv tg, e = .returned (.tuple #[tv, .int .i64 s'.er]) ∧ s' = lzG L (s.fed bs) ∧ s'.out = s.out ++ T ∧ LMem base w' d L s' S' ∧ Sl w' 5 tv tg (vals T) ∧ (∀ k, tg = some k → w.heap.size ≤ k ∧ ¬ S' k) ∧ (∀ k, S' k → S k ∨ w.heap.size ≤ k) ∧ LFr S w w'
set_option maxHeartbeats 1600000 in
set_option maxRecDepth 100000 in
theorem lpush2 {base : Nat} {w : World} {d L : Nat} {s : Lz} {S : Nat → Prop} (hL : 2 ≤ L ∧ L ≤ 8) (h : LMem base w d L s S) (hk : s.k = 2) (bs : List Int) (v : Value) : Calls Try.prog 11 #[.pointer (some ⟨d, 0, none⟩), v] w fun e w' => LuPost base w d L s bs S e w' := by
  obtain ⟨B, r, g, hle⟩ := h.le
  obtain ⟨k0, k2, k3, k4⟩ := hle.cells
  have he := k4.1 hk
  have HP : Hid (∀ n, LuPost base w d L s bs S (.returned (.tuple #[.slice none 0 0, .int .i64 s.er])) (w.drewN n)) := fun n => by
    have e : lzG L (s.fed bs) = s := by
      have : s.fed bs = s := by unfold Lz.fed; rw [if_neg (by omega), if_neg (by omega)]
      rw [this, lzG_stop (.inl (by omega))]
    exact ⟨s, S, [], _, none, rfl, e.symm, by simp, h.old ⟨rfl, rfl, rfl, Nat.le_refl _, fun _ _ => rfl⟩, Sl.nil _ _, (fun k hk => by cases hk), fun k hk => .inl hk, ⟨rfl, rfl, rfl, Nat.le_refl _, fun _ _ _ => rfl⟩⟩
  have HIs := isLeast_any (L : Int) w
  rw [decide_eq_true (by omega)] at HIs
  generalize s.er = x at *
  have hx : (x == 0) = false := by simpa using he
  have hx2 : (x != 0) = true := by simpa using he
  clear hle h k4 hk
  go_enter Try.func11, Try.ntmps11
  go_wp2_with fail
  refine HIs.mono ?_
  clear HIs
  rintro e w1 ⟨rfl, hw⟩
  subst w1
  go_wp2_with fail
  go_region_held3 (fun u => u.cell? ⟨d, 2, none⟩ = some (.int .i64 x)) (first | (with_reducible assumption) | go_keep) (fail)
  all_goals
    go_wp2
    go_ret2
    exact HP.out _
set_option maxHeartbeats 1600000 in
set_option maxRecDepth 100000 in
theorem lpush1 {base : Nat} {w : World} {d L : Nat} {s : Lz} {S : Nat → Prop} (hL : 2 ≤ L ∧ L ≤ 8) (h : LMem base w d L s S) (hk : s.k = 1) (bs : List Int) (a : Option Addr) (m c : Nat) (hm : bs.length = m) (hc : a = none → c = 0) (hrow : Row w a bs) (hl : s.rest.length + m ≤ 140737488351232) : Calls Try.prog 11 #[.pointer (some ⟨d, 0, none⟩), .slice a m c] w fun e w' => LuPost base w d L s bs S e w' := by
  obtain ⟨B, r, g, hle⟩ := h.le
  obtain ⟨h1, h2, rv, gr, h3, h4, h5⟩ : s.k = 1 ∧ s.er = 0 ∧ ∃ rv gr, Dc w d L s.left 0 true rv (.pointer none) 0 (.slice none 0 0) 0 ∧ Sl w 5 rv gr (vals s.rest) ∧ ∀ k, gr = some k → S k := by
    rcases hle with ⟨h1, _⟩ | h | ⟨h1, _⟩
    · omega
    · exact h
    · omega
  obtain ⟨k0, k1, k2, k3, k4, k5⟩ := h3.head
  have kf := h3.frz 4
  obtain ⟨av, cv, hv, -, -, hn⟩ := h4.shape
  rw [vals_len] at hv
  subst hv
  obtain ⟨n, hnn⟩ : ∃ n, s.rest.length = n := ⟨_, rfl⟩
  have HA : Hid (Sl w 5 (.slice av n cv) gr (vals s.rest) ∧ bs.length = m ∧ (a = none → c = 0) ∧ Row w a bs ∧ s.rest.length + m ≤ 140737488351232) := ⟨by rw [← hnn]; exact h4, hm, hc, hrow, hl⟩
  have HE : Hid (∀ v7 w7 g7, Sl w7 5 v7 g7 (vals (s.rest ++ bs)) → (g7 = gr ∨ ∃ k, g7 = some k ∧ w.heap.size ≤ k) → w.grownBy w7 gr → w7.frozen? ⟨d, 4, none⟩ = false ∧ w7.cell? ⟨d, 4, none⟩ = some (.slice av n cv) ∧ LuPost base w d L s bs S (.returned (.tuple #[.slice none 0 0, .int .i64 0])) (w7.setCell ⟨d, 4, none⟩ v7)) := by
    intro v7 w7 g7 q1 q2 q3
    have hdg : some d ≠ gr := fun e => h3.neS h4 e.symm
    have hdl := lt_of_block h3
    have hd7 : Dc w7 d L s.left 0 true (.slice av s.rest.length cv) (.pointer none) 0 (.slice none 0 0) 0 := (q3.block d hdl hdg).trans h3
    have hg7 : ∀ k, g7 = some k → k ≠ d := fun k hk e => by
      rcases q2 with e2 | ⟨j, e2, hj⟩
      · exact hdg (by rw [← e2, hk, e])
      · rw [e2] at hk; cases hk; omega
    have e : lzG L (s.fed bs) = { s with rest := s.rest ++ bs } := by
      have : s.fed bs = { s with rest := s.rest ++ bs } := by unfold Lz.fed; rw [if_neg (by omega), if_pos hk]
      rw [this, lzG_stop (.inl (by show s.k ≠ 0; omega))]
    have hz8 : (w7.setCell ⟨d, 4, none⟩ v7).heap.size = w7.heap.size := by simp [World.setCell]
    refine ⟨hd7.frz 4, by rw [hd7.head.2.2.2.2.1, hnn], { s with rest := s.rest ++ bs }, fun k => (S k ∨ w.heap.size ≤ k) ∧ k < w7.heap.size, [], _, none, by rw [h2], e.symm, by simp, ⟨⟨.inl h.sd, by have := q3.size; omega⟩, fun k hk' => ⟨?_, by rw [hz8]; exact hk'.2⟩, B, r, g, .inr (.inl ⟨hk, h2, v7, g7, hd7.set4 v7, q1.same fun k hk' => Below.heap_setCell _ _ _ _ (hg7 k hk'), fun k hk' => ⟨?_, q1.lt hk'⟩⟩)⟩, Sl.nil _ _, (fun k hk => by cases hk), fun k hk => hk.1, ?_⟩
    · rcases hk'.1 with e1 | e1
      · exact (h.sb k e1).1
      · have := (h.sb d h.sd); omega
    · rcases q2 with e2 | ⟨j, e2, hj⟩
      · exact .inl (h5 k (by rw [← e2]; exact hk'))
      · rw [e2] at hk'; cases hk'; exact .inr hj
    · refine ⟨q3.os, q3.tape, q3.output, by rw [hz8]; exact q3.size, fun k hk' hn => ?_⟩
      rw [Below.heap_setCell _ _ _ _ (by intro (e : k = d); exact hn (e ▸ h.sd))]
      exact q3.block k hk' (fun e => hn (h5 k e.symm))
  have HIs := isLeast_any (L : Int) w
  rw [decide_eq_true (by omega)] at HIs
  rw [hnn] at k4
  clear hle h h1 h2 h3 h4 h5 hm hc hrow hl hnn hn k1 k5 hk
  go_enter Try.func11, Try.ntmps11
  go_wp2_with fail
  refine HIs.mono ?_
  clear HIs
  rintro e w1 ⟨rfl, hw⟩
  subst w1
  go_wp2_with (at_builtin; refine wpList_more rfl _ _ rfl (.slice av n cv) gr s.rest rfl HA.out.1 a m c bs rfl HA.out.2.2.1 HA.out.2.1 HA.out.2.2.2.1 HA.out.2.2.2.2 ?_; intro v7 w7 g7 q1 q2 q3; obtain ⟨a7, c7, hv7, -⟩ := q1.shape; generalize (vals (s.rest ++ bs)).length = z7 at hv7; subst hv7; obtain ⟨y1, y2, y3⟩ := HE.out _ w7 g7 q1 q2 q3; have HY : Hid (LuPost base w d L s bs S (.returned (.tuple #[.slice none 0 0, .int .i64 0])) (w7.setCell ⟨d, 4, none⟩ (.slice a7 z7 c7))) := y3; clear q1 q2 q3 y3)
  go_ret2
  exact HY.out
set_option maxHeartbeats 1600000 in
set_option maxRecDepth 100000 in
theorem lpush0 {base : Nat} {w : World} {d L : Nat} {s : Lz} {S : Nat → Prop} (hL : 2 ≤ L ∧ L ≤ 8) (h : LMem base w d L s S) (hk : s.k = 0) (bs : List Int) (a : Option Addr) (m c : Nat) (hm : bs.length = m) (hc : a = none → c = 0) (hrow : Row w a bs) (hby : Bytes bs) (hl : s.zs.length + m ≤ 1000000) : Calls Try.prog 11 #[.pointer (some ⟨d, 0, none⟩), .slice a m c] w fun e w' => LuPost base w d L s bs S e w' := by
  obtain ⟨B, r, g, hle⟩ := h.le
  obtain ⟨fv, hg⟩ : ∃ fv, Lg B S w d L r g fv s := by
    rcases hle with ⟨_, h⟩ | ⟨h1, _⟩ | ⟨h1, _⟩
    · exact h
    · omega
    · omega
  obtain ⟨k0, k1, k2, k3, k4, k5⟩ := hg.dc.head
  have HFe := feed_any r g s.zs bs s.gone a m c w hg.rd hm hc hrow (by omega)
  have HRe : Hid (∀ w1, FeedPost w r g (s.zs ++ bs) s.gone (.returned (.tuple #[])) w1 → ∃ g', Lg B (fun k => S k ∨ w.heap.size ≤ k) w1 d L r g' fv (s.fed bs) ∧ Fr w w1 r g) := by
    rintro w1 ⟨-, g', f1, f2, f3⟩
    have hdn := hg.dc.neR hg.rd
    have e := fed_zero hk bs
    refine ⟨g', ?_, f3⟩
    rw [e]
    refine ⟨(f3.block d (lt_of_block hg.dc) hdn.1 hdn.2).trans hg.dc, f1, hg.tb.same fun k c' hk' hc' => f3.block k (lt_of_block hc') (fun e => ?_) (fun e => ?_), hg.gn, (fun hp => by have := hg.gz hp; show 0 < (s.zs ++ bs).length; rw [List.length_append]; omega), fun x hx => ?_, by show (s.zs ++ bs).length ≤ _; rw [List.length_append]; omega, hg.wf, hg.ct, hg.ah, hk, hg.er, hg.re, hg.lf, .inl hg.sd, .inl hg.sr, fun k hk' => ?_, fun k hk' => .inl (hg.sf k hk'), Nat.le_trans hg.bs f3.size⟩
    · obtain ⟨v, hv⟩ := hg.rd.tag; rw [← e, hc'] at hv; simp at hv
    · obtain ⟨v, hv⟩ := hg.rd.gtag e.symm; rw [hc'] at hv; simp at hv
    · rcases List.mem_append.1 hx with hx | hx
      · exact hg.bz x hx
      · exact hby x hx
    · rcases f2 with e2 | ⟨j, e2, hj⟩
      · exact .inl (hg.sg k (by rw [← e2]; exact hk'))
      · rw [e2] at hk'; cases hk'; exact .inr hj
  have HE : Hid (∀ w1 g' w2 e, Lg B (fun k => S k ∨ w.heap.size ≤ k) w1 d L r g' fv (s.fed bs) → Fr w w1 r g → ReP w1 B (fun k => S k ∨ w.heap.size ≤ k) d L r g' (s.fed bs) e w2 → ∃ tv x, e = .returned tv ∧ w2.cell? ⟨d, 2, none⟩ = some (.int .i64 x) ∧ ∀ n, LuPost base w d L s bs S (.returned (.tuple #[tv, .int .i64 x])) (w2.drewN n)) := by
    rintro w1 g' w2 e hg1 hf1 ⟨s', T, tv, tg, rfl, p1, p2, p3, p4, p5, p6⟩
    have hsz := hf1.size
    refine ⟨tv, s'.er, rfl, p5.cells.2.1, fun n => ⟨s', fun k => ((S k ∨ w.heap.size ≤ k) ∧ tg ≠ some k) ∧ k < w2.heap.size, T, tv, tg, rfl, p4.symm, by rw [p3, fed_out], ⟨?_, fun k hk' => ⟨?_, hk'.2⟩, B, r, g', ?_⟩, p1.same fun _ _ => rfl, fun k hk' => ⟨by have := p2 k hk'; omega, fun e => e.1.2 hk'⟩, fun k hk' => hk'.1.1, ?_⟩⟩
    · have hdl := lt_of_block hg1.dc
      have := (h.sb d h.sd).2
      exact ⟨⟨.inl h.sd, fun e => by have := p2 d e; omega⟩, by have := p6.size; omega⟩
    · rcases hk'.1.1 with e1 | e1
      · exact (h.sb k e1).1
      · have := (h.sb d h.sd); omega
    · exact ((p5.own (S' := fun k => ((S k ∨ w.heap.size ≤ k) ∧ tg ≠ some k) ∧ k < w2.heap.size) fun k h1 h2 => ⟨⟨by
        rcases h1.1 with e1 | e1
        · exact e1
        · exact .inr (by omega), h1.2⟩, h2⟩)).kept (fun _ _ _ _ hj => hj) (Nat.le_refl _)
    · refine ⟨p6.os.trans hf1.os, p6.tape.trans hf1.tape, p6.output.trans hf1.output, Nat.le_trans hsz p6.size, fun k hk' hn => ?_⟩
      refine (p6.block k (by omega) (fun e => ?_)).trans (hf1.block k hk' (fun e => hn (e ▸ hg.sr)) (fun e => hn (hg.sg k e.symm)))
      rcases e with (e | e) | e
      · exact hn e
      · omega
      · omega
  have HIs := isLeast_any (L : Int) w
  rw [decide_eq_true (by omega)] at HIs
  clear hle h hm hc hrow hl k1 hby hg k4 hk
  go_enter Try.func11, Try.ntmps11
  go_wp2_with fail
  refine HIs.mono ?_
  clear HIs
  rintro e w1 ⟨rfl, hw⟩
  subst w1
  go_wp2_with fail
  refine HFe.mono ?_
  clear HFe
  rintro e w1 hf
  obtain ⟨he, -⟩ := id hf
  subst he
  obtain ⟨g', hg1, hf1⟩ := HRe.out w1 hf
  have HG1 : Hid (Lg B (fun k => S k ∨ w.heap.size ≤ k) w1 d L r g' fv (s.fed bs) ∧ Fr w w1 r g) := ⟨hg1, hf1⟩
  have CR := read_any9 hL hg1
  clear hf HRe hg1 hf1
  go_wp2_with fail
  refine CR.mono ?_
  clear CR
  rintro e w2 hp
  obtain ⟨tv, x, he, hc2, hn⟩ := HE.out w1 g' w2 e HG1.out.1 HG1.out.2 hp
  subst he
  have HP : Hid (∀ n, LuPost base w d L s bs S (.returned (.tuple #[tv, .int .i64 x])) (w2.drewN n)) := hn
  clear hp hn HE HG1
  go_wp2_with fail
  go_region_held3 (fun u => u.cell? ⟨d, 2, none⟩ = some (.int .i64 x)) (first | (with_reducible assumption) | go_keep) (fail)
  all_goals
    go_wp2
    go_ret2
    exact HP.out _
theorem lpush_any {base : Nat} {w : World} {d L : Nat} {s : Lz} {S : Nat → Prop} (hL : 2 ≤ L ∧ L ≤ 8) (h : LMem base w d L s S) (bs : List Int) (a : Option Addr) (m c : Nat) (hm : bs.length = m) (hc : a = none → c = 0) (hrow : Row w a bs) (hby : Bytes bs) (hl : s.k = 0 → s.zs.length + m ≤ 1000000) (hl2 : s.k = 1 → s.rest.length + m ≤ 140737488351232) : Calls Try.prog 11 #[.pointer (some ⟨d, 0, none⟩), .slice a m c] w fun e w' => LuPost base w d L s bs S e w' := by
  obtain ⟨B, r, g, hle⟩ := h.le
  rcases hle with ⟨h1, -⟩ | ⟨h1, -⟩ | ⟨h1, -⟩
  · exact lpush0 hL h h1 bs a m c hm hc hrow hby (hl h1)
  · exact lpush1 hL h h1 bs a m c hm hc hrow (hl2 h1)
  · exact lpush2 hL h h1 bs _
end Go.Proofs.Ytcbmlioeeoghkaa
