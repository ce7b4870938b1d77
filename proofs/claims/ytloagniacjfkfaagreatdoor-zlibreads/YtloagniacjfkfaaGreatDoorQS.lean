/- Joined: Yi Yj Yk. -/
import Derived.Test.YtloagniacjfkfaaGreatDoorQR
/- zlib's Push: a decoder that has failed, and one behind its end. -/
namespace Go.Proofs.YtloagniacjfkfaaGreatDoor
open Go.RowKit
/-- Of the old blocks those of S alone may change. -/
structure ZFrm (w w' : World) (S : Nat → Prop) : Prop where
  os : w'.os = w.os
  tape : w'.tape = w.tape
  output : w'.output = w.output
  size : w.heap.size ≤ w'.heap.size
  block : ∀ k, k < w.heap.size → ¬ S k → w'.heap[k]? = w.heap[k]?
theorem ZFrm.drew {w w' : World} {S : Nat → Prop} (h : ZFrm w w' S) (n : Nat) : ZFrm w (w'.drewN n) S := ⟨h.os, h.tape, h.output, h.size, h.block⟩
def ZuPost (base : Nat) (w : World) (d : Nat) (lim : Int) (A : List Int) (z : Zo) (S : Nat → Prop) (e : Ending) (w' : World) : Prop :=
  ∃ z' S' tv tg, e = .returned (.tuple #[tv, .int .i64 z'.er]) ∧ ZMem base w' d lim A z' S' ∧ z.out <+: z'.out ∧ Sl w' 5 tv tg (vals (z'.out.drop z.out.length)) ∧ (∀ k, tg = some k → w.heap.size ≤ k) ∧ (∀ k, S' k → S k ∨ w.heap.size ≤ k) ∧ ZFrm w w' S
section
variable {base : Nat} {w : World} {d : Nat} {lim : Int} {bs : List Int} {z : Zo} {S : Nat → Prop}
theorem ZMem.heap {w' : World} (h : ZMem base w d lim bs z S) (hh : w'.heap = w.heap) : ZMem base w' d lim bs z S := by
  obtain ⟨h1, h2, h3, h4, now, vp, vk, sum, vr, gr, c1, c2, c3, c4, c5, c6, c7, c8, c9⟩ := h
  have same : ∀ {e : TypeId} {v : Value} {g : Option Nat} {xs : List Value}, Sl w e v g xs → Sl w' e v g xs := fun hs => hs.same fun k _ => by rw [hh]
  refine ⟨h1, fun k hk => by rw [hh]; exact h2 k hk, h3, h4, now, vp, vk, sum, vr, gr, c1.same (by rw [hh]), same c2, c3, fun e => ?_, fun e => ?_, fun e => ?_, c7, c8, c9⟩
  · obtain ⟨a1, a2, gp, a3, a4⟩ := c4 e
    exact ⟨a1, a2, gp, same a3, a4⟩
  · obtain ⟨a1, a2, a3, p, o, r, a4, a5, a6, a7, a8, a9⟩ := c5 e
    exact ⟨a1, a2, a3, p, o, r, a4, a5.keep ⟨by rw [hh]; exact Nat.le_refl _, fun k _ => .inl (by rw [hh])⟩ (by rw [hh]) (fun k _ => by rw [hh]) (fun k _ => by rw [hh]), a6, a7, a8, a9⟩
  · obtain ⟨a1, a2, a3, zs, gp, a4, a5, a6, a7⟩ := c6 e
    exact ⟨a1, a2, a3, zs, gp, a4, a5, same a6, a7⟩
/-- A failed decoder: more bytes change nothing. -/
theorem ZSays.fail_more {l : Nat} (h : ZSays l bs z) (hk : z.k = 4) (b : List Int) (hb2 : Bytes b) : ZSays l (bs ++ b) z := by
  by_cases h2 : bs.length < 2
  · rw [h.1 h2] at hk; cases hk
  · have h2 : 2 ≤ bs.length := by omega
    have hl : 2 ≤ (bs ++ b).length := by rw [List.length_append]; omega
    have hz : zh (bs ++ b) = zh bs := by unfold zh; rw [List.take_append_of_le_length h2]
    have hd : bitsL ((bs ++ b).drop 2) = bitsL (bs.drop 2) ++ bitsL b := by rw [List.drop_append_of_le_length h2, bitsL_append]
    refine ⟨fun hx => by omega, fun _ e => h.2.1 h2 (by rw [← hz]; exact e), fun _ e => ?_⟩
    rcases h.2.2 h2 (by rw [← hz]; exact e) with ⟨out, _, e1⟩ | ⟨er, out, a3, e1⟩ | ⟨out, zs, ⟨s, a1, a2, a4, a3⟩, e1, e2, e3⟩
    · rw [e1] at hk; cases hk
    · refine .inr (.inl ⟨er, out, ?_, e1⟩)
      rw [hd]
      exact a3.more_fail (bitsL_m8 b) (bitsL_bit _) inv_start
    · refine .inr (.inr ⟨out, zs ++ b, ⟨s, a1, a2, a4.append hb2, ?_⟩, ?_⟩)
      · rw [hd, bitsL_append]
        exact a3.more_end (bitsL_m8 b) (bitsL_bit _) inv_start a1
      · by_cases h4 : zs.length < 4
        · rw [e1 h4] at hk; cases hk
        · have ht : (zs ++ b).take 4 = zs.take 4 := List.take_append_of_le_length (by omega)
          by_cases hs : bigN (zs.take 4) = adlM 1 out
          · rw [e2 (by omega) hs] at hk; cases hk
          · have := e3 (by omega) hs
            exact ⟨fun hx => by rw [List.length_append] at hx; omega, fun _ hx => absurd (by rw [← ht]; exact hx) hs, fun _ _ => this⟩
set_option maxHeartbeats 800000 in
set_option maxRecDepth 20000 in
theorem zpush_fail (h : ZMem base w d lim bs z S) (hk : z.k = 4) (b : List Int) (v : Value) (hb2 : Bytes b) : Calls Tryz.prog 11 #[.pointer (some ⟨d, 0, none⟩), v] w fun e w' => ZuPost base w d lim (bs ++ b) z S e w' := by
  have HM : Hid (ZMem base w d lim bs z S) := h
  obtain ⟨h1, h2, h3, h4, now, vp, vk, sum, vr, gr, c1, c2, c3, c4, c5, c6, c7, c8, c9⟩ := h
  have k1 := c1.cells.2.1
  have hne : z.er ≠ 0 := c9.1 hk
  have HP : Hid (∀ n, ZuPost base w d lim (bs ++ b) z S (.returned (.tuple #[.slice none 0 0, .int .i64 z.er])) (w.drewN n)) := by
    intro n
    have hm : ZMem base (w.drewN n) d lim (bs ++ b) z S := by
      obtain ⟨g1, g2, g3, g4, now', vp', vk', sum', vr', gr', q1, q2, q3, q4, q5, q6, q7, q8, q9⟩ := HM.out.heap (w' := w.drewN n) rfl
      exact ⟨g1, g2, g3.fail_more hk b hb2, g4, now', vp', vk', sum', vr', gr', q1, q2, q3, (fun e => by omega), (fun e => by omega), (fun e => by omega), q7, q8, q9⟩
    refine ⟨z, S, _, none, rfl, hm, List.prefix_refl _, ?_, (fun k hk => by cases hk), fun k hk => .inl hk, ⟨rfl, rfl, rfl, Nat.le_refl _, fun _ _ _ => rfl⟩⟩
    rw [List.drop_length]
    exact Sl.nil _ _
  obtain ⟨ER, hER⟩ : ∃ ER, z.er = ER := ⟨_, rfl⟩
  rw [hER] at k1 hne HP
  have hEb : (ER == 0) = false := by simpa using hne
  clear c1 c2 c3 c4 c5 c6 c7 c8 c9 h1 h2 h3 h4 hER
  go_enter Tryz.func11, Tryz.ntmps11
  go_wp2
  go_region_held3 (fun u => u.cell? ⟨d, 1, none⟩ = some (.int .i64 ER)) (go_keep) (fail)
  go_wp2
  go_ret2
  exact HP.out 1
theorem ZSays.end_more {l : Nat} (h : ZSays l bs z) (hk : z.k = 3) (b : List Int) (hb2 : Bytes b) : z.er = 0 ∧ ZSays l (bs ++ b) ⟨3, z.out, 0, z.rest ++ b⟩ := by
  by_cases h2 : bs.length < 2
  · rw [h.1 h2] at hk; cases hk
  · have h2 : 2 ≤ bs.length := by omega
    have hl : 2 ≤ (bs ++ b).length := by rw [List.length_append]; omega
    have hz : zh (bs ++ b) = zh bs := by unfold zh; rw [List.take_append_of_le_length h2]
    have hd : bitsL ((bs ++ b).drop 2) = bitsL (bs.drop 2) ++ bitsL b := by rw [List.drop_append_of_le_length h2, bitsL_append]
    cases hzz : zh bs with
    | false => rw [h.2.1 h2 hzz] at hk; cases hk
    | true =>
      rcases h.2.2 h2 hzz with ⟨out, _, e1⟩ | ⟨er, out, a3, e1⟩ | ⟨out, zs, ⟨s, a1, a2, a4, a3⟩, e1, e2, e3⟩
      · rw [e1] at hk; cases hk
      · rw [e1] at hk; cases hk
      · by_cases h4 : zs.length < 4
        · rw [e1 h4] at hk; cases hk
        · by_cases hs : bigN (zs.take 4) = adlM 1 out
          · have ez := e2 (by omega) hs
            refine ⟨by rw [ez], (fun hx => by omega), (fun _ e => by rw [hz, hzz] at e; cases e), fun _ _ => .inr (.inr ⟨out, zs ++ b, ⟨s, a1, a2, a4.append hb2, ?_⟩, ?_⟩)⟩
            · rw [hd, bitsL_append]
              exact a3.more_end (bitsL_m8 b) (bitsL_bit _) inv_start a1
            · have ht : (zs ++ b).take 4 = zs.take 4 := List.take_append_of_le_length (by omega)
              refine ⟨fun hx => by rw [List.length_append] at hx; omega, fun _ _ => ?_, fun _ hx => absurd hs (by rw [← ht]; exact hx)⟩
              rw [ez, List.drop_append_of_le_length (by omega)]
          · rw [e3 (by omega) hs] at hk; cases hk
set_option maxHeartbeats 1600000 in
set_option maxRecDepth 20000 in
theorem zpush_end (h : ZMem base w d lim bs z S) (hk : z.k = 3) (b : List Int) (av : Option Addr) (m c : Nat) (hm : b.length = m) (hc0 : av = none → c = 0) (hrow : Row w av b) (hb2 : Bytes b) (hlen : z.rest.length + m ≤ 140737488351232) : Calls Tryz.prog 11 #[.pointer (some ⟨d, 0, none⟩), .slice av m c] w fun e w' => ZuPost base w d lim (bs ++ b) z S e w' := by
  have HM : Hid (ZMem base w d lim bs z S) := h
  obtain ⟨h1, h2, h3, h4, now, vp, vk, sum, vr, gr, c1, c2, c3, c4, c5, c6, c7, c8, c9⟩ := h
  obtain ⟨her, hsay⟩ := h3.end_more hk b hb2
  obtain rfl := c7 hk
  rw [her] at c1
  obtain ⟨ar, cr, hvr, hr1, hr2, hr3⟩ := c2.shape
  rw [vals_len] at hvr
  subst hvr
  have hgd := c1.ne c2 (by decide)
  have H1 : Hid (ZC w d 3 0 lim vp vk sum z.out.length (.slice ar z.rest.length cr) ∧ Sl w 5 (.slice ar z.rest.length cr) gr (vals z.rest) ∧ (∀ k, gr = some k → S k) ∧ (∀ k, gr = some k → k ≠ d) ∧ ZSays lim.toNat (bs ++ b) ⟨3, z.out, 0, z.rest ++ b⟩ ∧ S d ∧ (∀ k, S k → base ≤ k ∧ k < w.heap.size)) := ⟨c1, c2, c3, hgd, hsay, h1, h2⟩
  obtain ⟨k0, k1, k2, k3, k4, k5, k6, k7, fz⟩ := c1.cells
  have HRW : Hid (Row w av b) := hrow
  have HC0 : Hid (av = none → c = 0) := hc0
  clear c1 c2 c3 c4 c5 c6 c7 c8 c9 h1 h2 h3 h4 hsay hgd hr1 hr2 hr3 hrow hc0
  go_enter Tryz.func11, Tryz.ntmps11
  go_wp2_with (at_builtin; refine wpList_more rfl _ _ rfl (.slice ar z.rest.length cr) gr z.rest rfl H1.out.2.1 av m c b rfl HC0.out hm HRW.out hlen ?_)
  intro v5 w5 g5 hs5 hg5 hgr5
  obtain ⟨a5, c5, hv5, -⟩ := hs5.shape
  obtain ⟨z5, hz5⟩ : ∃ z, v5 = .slice a5 z c5 := ⟨_, hv5⟩
  clear hv5
  subst hz5
  have hz5 : ZC w5 d 3 0 lim vp vk sum z.out.length (.slice ar z.rest.length cr) := H1.out.1.same (hgr5.block d H1.out.1.lt (fun e => H1.out.2.2.2.1 d e.symm rfl))
  obtain ⟨q0, q1, q2, q3, q4, q5, q6, q7, qf⟩ := hz5.cells
  have hz6 := hz5.set7 (.slice a5 z5 c5)
  have q1' := hz6.cells.2.1
  have HP : Hid (∀ n, ZuPost base w d lim (bs ++ b) z S (.returned (.tuple #[.slice none 0 0, .int .i64 0])) ((w5.setCell ⟨d, 7, none⟩ (.slice a5 z5 c5)).drewN n)) := by
    intro n
    have hs6 : Sl (w5.setCell ⟨d, 7, none⟩ (.slice a5 z5 c5)) 5 (.slice a5 z5 c5) g5 (vals (z.rest ++ b)) := hs5.same fun k hk => Below.heap_setCell _ _ _ _ (hz5.ne hs5 (by decide) k hk)
    have hsz := hgr5.size
    refine ⟨⟨3, z.out, 0, z.rest ++ b⟩, fun k => S k ∨ g5 = some k, _, none, rfl, ?_, List.prefix_refl _, ?_, (fun k hk => by cases hk), ?_, ?_⟩
    · refine ⟨.inl H1.out.2.2.2.2.2.1, ?_, H1.out.2.2.2.2.1, (by show 3 ≤ 4; decide), 3, vp, vk, sum, .slice a5 z5 c5, g5, hz6.same rfl, hs6.same fun _ _ => rfl, fun k hk => .inr hk, (fun e => by cases e), (fun e => by cases e), (fun e => by cases e), fun _ => rfl, fun e => absurd rfl e, (fun e => by cases e), fun e => absurd rfl e⟩
      have hsl : w.heap.size ≤ ((w5.setCell ⟨d, 7, none⟩ (.slice a5 z5 c5)).drewN n).heap.size := by
        show w.heap.size ≤ (w5.setCell ⟨d, 7, none⟩ (.slice a5 z5 c5)).heap.size
        simp only [World.setCell, Array.size_modify]; exact hsz
      rintro k (hk | hk)
      · have := H1.out.2.2.2.2.2.2 k hk
        exact ⟨this.1, by omega⟩
      · refine ⟨?_, hs6.lt hk⟩
        rcases hg5 with e | ⟨j, e, hj⟩
        · exact (H1.out.2.2.2.2.2.2 k (H1.out.2.2.1 k (e ▸ hk))).1
        · rw [e] at hk; cases hk
          have := (H1.out.2.2.2.2.2.2 d H1.out.2.2.2.2.2.1)
          omega
    · rw [List.drop_length]; exact Sl.nil _ _
    · rintro k (hk | hk)
      · exact .inl hk
      · rcases hg5 with e | ⟨j, e, hj⟩
        · exact .inl (H1.out.2.2.1 k (e ▸ hk))
        · rw [e] at hk; cases hk; exact .inr hj
    · refine ⟨hgr5.os, hgr5.tape, hgr5.output, by show w.heap.size ≤ (w5.setCell ⟨d, 7, none⟩ (.slice a5 z5 c5)).heap.size; simp only [World.setCell, Array.size_modify]; exact hsz, fun k hk hn => ?_⟩
      show (w5.setCell ⟨d, 7, none⟩ (.slice a5 z5 c5)).heap[k]? = _
      rw [Below.heap_setCell _ _ _ _ (fun e => hn (by rw [e]; exact H1.out.2.2.2.2.2.1))]
      exact hgr5.block k hk (fun e => hn (H1.out.2.2.1 k e.symm))
  clear hs5 hg5 hgr5 hz5 hz6 H1
  go_wp2
  go_region_held3 (fun u => u.cell? ⟨d, 1, none⟩ = some (.int .i64 0)) (first | go_keep | assumption) (fail)
  go_wp2
  go_ret2
  exact HP.out 1
end
end Go.Proofs.YtloagniacjfkfaaGreatDoor
/- zlib's Push: a decoder in the foot. -/
namespace Go.Proofs.YtloagniacjfkfaaGreatDoor
open Go.RowKit
section
variable {base : Nat} {w : World} {d : Nat} {lim : Int} {bs : List Int} {z : Zo} {S : Nat → Prop}
/-- What a foot's bytes come to. -/
theorem ZSays.foot {l : Nat} {A out zs : List Int} (h2 : 2 ≤ A.length) (hz : zh A = true) (hf : ZFoot l A out zs) :
    (zs.length < 4 → ZSays l A ⟨2, out, 0, []⟩) ∧ (4 ≤ zs.length → bigN (zs.take 4) = adlM 1 out → ZSays l A ⟨3, out, 0, zs.drop 4⟩) ∧ (4 ≤ zs.length → bigN (zs.take 4) ≠ adlM 1 out → ZSays l A ⟨4, out, 4, []⟩) := by
  refine ⟨fun h => ⟨(fun hx => by omega), (fun _ e => by rw [hz] at e; cases e), fun _ _ => .inr (.inr ⟨out, zs, hf, fun _ => rfl, (fun hx => by omega), (fun hx => by omega)⟩)⟩, fun h hs => ⟨(fun hx => by omega), (fun _ e => by rw [hz] at e; cases e), fun _ _ => .inr (.inr ⟨out, zs, hf, (fun hx => by omega), fun _ _ => rfl, fun _ hx => absurd hs hx⟩)⟩, fun h hs => ⟨(fun hx => by omega), (fun _ e => by rw [hz] at e; cases e), fun _ _ => .inr (.inr ⟨out, zs, hf, (fun hx => by omega), fun _ hx => absurd hx hs, fun _ _ => rfl⟩)⟩⟩
theorem ZFoot.more {l : Nat} {out zs : List Int} (h2 : 2 ≤ bs.length) (hf : ZFoot l bs out zs) (b : List Int) (hb : Bytes b) : ZFoot l (bs ++ b) out (zs ++ b) := by
  obtain ⟨s, a1, a2, a4, a3⟩ := hf
  refine ⟨s, a1, a2, a4.append hb, ?_⟩
  rw [List.drop_append_of_le_length h2, bitsL_append, bitsL_append]
  exact a3.more_end (bitsL_m8 b) (bitsL_bit _) inv_start a1
/-- A decoder's state says that the head was one. -/
theorem ZSays.head {l : Nat} (h : ZSays l bs z) (hk : z.k = 1 ∨ z.k = 2 ∨ z.k = 3) : 2 ≤ bs.length ∧ zh bs = true := by
  by_cases h2 : bs.length < 2
  · rw [h.1 h2] at hk; simp at hk
  · have h2 : 2 ≤ bs.length := by omega
    refine ⟨h2, ?_⟩
    cases hz : zh bs with
    | true => rfl
    | false => rw [h.2.1 h2 hz] at hk; simp at hk
theorem zh_more (h2 : 2 ≤ bs.length) (b : List Int) : zh (bs ++ b) = zh bs := by unfold zh; rw [List.take_append_of_le_length h2]
/-- The decoder in memory, by its state. -/
theorem ZMem.mk2 {w' : World} {A out zs : List Int} {sum : Int} {vp vr : Value} {gp gr : Option Nat} {S' : Nat → Prop} (hd : S' d) (hS : ∀ k, S' k → base ≤ k ∧ k < w'.heap.size) (h2 : 2 ≤ A.length) (hz : zh A = true) (hf : ZFoot lim.toNat A out zs) (hl : zs.length < 4) (hc : ZC w' d 2 0 lim vp (.pointer none) sum out.length vr) (hsum : sum = adlM 1 out) (h3 : Sl w' 5 vp gp (vals zs)) (h4 : ∀ k, gp = some k → S' k) (h5 : Sl w' 5 vr gr (vals [])) (h6 : ∀ k, gr = some k → S' k) (hvr : vr = .slice none 0 0) : ZMem base w' d lim A ⟨2, out, 0, []⟩ S' :=
  ⟨hd, hS, (ZSays.foot h2 hz hf).1 hl, (by show 2 ≤ 4; decide), 2, vp, .pointer none, sum, vr, gr, hc, h5, h6, (fun e => by cases e), (fun e => by cases e), fun _ => ⟨rfl, rfl, hsum, zs, gp, hf, hl, h3, h4⟩, (fun e => by cases e), (fun _ => ⟨by decide, hvr⟩), (fun e => by cases e), fun e => absurd rfl e⟩
theorem ZMem.mk3 {w' : World} {A out zs : List Int} {sum : Int} {vp vk vr : Value} {gr : Option Nat} {S' : Nat → Prop} (hd : S' d) (hS : ∀ k, S' k → base ≤ k ∧ k < w'.heap.size) (h2 : 2 ≤ A.length) (hz : zh A = true) (hf : ZFoot lim.toNat A out zs) (hl : 4 ≤ zs.length) (hs : bigN (zs.take 4) = adlM 1 out) (hc : ZC w' d 3 0 lim vp vk sum out.length vr) (h5 : Sl w' 5 vr gr (vals (zs.drop 4))) (h6 : ∀ k, gr = some k → S' k) : ZMem base w' d lim A ⟨3, out, 0, zs.drop 4⟩ S' :=
  ⟨hd, hS, (ZSays.foot h2 hz hf).2.1 hl hs, (by show 3 ≤ 4; decide), 3, vp, vk, sum, vr, gr, hc, h5, h6, (fun e => by cases e), (fun e => by cases e), (fun e => by cases e), fun _ => rfl, fun e => absurd rfl e, (fun e => by cases e), fun e => absurd rfl e⟩
theorem ZMem.mk4 {w' : World} {A out : List Int} {now er sum : Int} {vp vk vr : Value} {gr : Option Nat} {S' : Nat → Prop} (hd : S' d) (hS : ∀ k, S' k → base ≤ k ∧ k < w'.heap.size) (hsay : ZSays lim.toNat A ⟨4, out, er, []⟩) (he : er ≠ 0) (hn : now ≠ 3) (hc : ZC w' d now er lim vp vk sum out.length vr) (h5 : Sl w' 5 vr gr (vals [])) (h6 : ∀ k, gr = some k → S' k) (hvr : vr = .slice none 0 0) : ZMem base w' d lim A ⟨4, out, er, []⟩ S' :=
  ⟨hd, hS, hsay, (by show 4 ≤ 4; decide), now, vp, vk, sum, vr, gr, hc, h5, h6, (fun e => by cases e), (fun e => by cases e), (fun e => by cases e), (fun e => by cases e), fun _ => ⟨hn, hvr⟩, fun _ => he, fun _ => rfl⟩
end
end Go.Proofs.YtloagniacjfkfaaGreatDoor
/- zlib's Push: a decoder in the foot. -/
namespace Go.Proofs.YtloagniacjfkfaaGreatDoor
open Go.RowKit
section
variable {base : Nat} {w : World} {d : Nat} {lim : Int} {bs : List Int} {z : Zo} {S : Nat → Prop}
/-- Behind readFoot: what Push answers, by what it left. -/
theorem zfoot_end {w1 : World} {A ps xs out : List Int} {av : Option Addr} {c : Nat} {sum : Int} {gp : Option Nat} {e : Ending} {S1 : Nat → Prop} (hSd : S1 d) (hS1 : ∀ k, S1 k → base ≤ k ∧ k < w.heap.size) (hgp : ∀ k, gp = some k → S1 k) (h2 : 2 ≤ A.length) (hz : zh A = true) (hf : ZFoot lim.toNat A out (ps ++ xs)) (hps : ps.length < 4) (hsum : sum = adlM 1 out)
    (h : RfPost w d lim sum out.length (.slice none 0 0) gp ps xs av c e w1) :
    (ps.length + xs.length < 4 → e = .returned (.slice none 0 0) ∧ w1.cell? ⟨d, 0, none⟩ = some (.int .i64 2) ∧ w1.cell? ⟨d, 1, none⟩ = some (.int .i64 0) ∧ ∃ S', ZMem base w1 d lim A ⟨2, out, 0, []⟩ S' ∧ (∀ k, S' k → S1 k ∨ w.heap.size ≤ k)) ∧
    (4 ≤ ps.length + xs.length → bigN ((ps ++ xs).take 4) ≠ adlM 1 out → w1.cell? ⟨d, 0, none⟩ = some (.int .i64 2) ∧ w1.cell? ⟨d, 1, none⟩ = some (.int .i64 4) ∧ ∃ S', ZMem base w1 d lim A ⟨4, out, 4, []⟩ S' ∧ (∀ k, S' k → S1 k ∨ w.heap.size ≤ k)) ∧
    (4 ≤ ps.length + xs.length → bigN ((ps ++ xs).take 4) = adlM 1 out → ZC w1 d 3 0 lim (.slice none 0 0) (.pointer none) sum out.length (.slice none 0 0)) := by
  obtain ⟨f, g1, g2⟩ := h
  have hsz := f.size
  have ht : (ps ++ xs).take 4 = ps ++ xs.take (4 - ps.length) := by rw [List.take_append, List.take_of_length_le (by omega)]
  refine ⟨fun hx => ?_, fun hx hne => ?_, fun hx he => ?_⟩
  · obtain ⟨e1, vp', gp', c1, c2, c3⟩ := g1 hx
    refine ⟨e1, c1.cells.1, c1.cells.2.1, fun k => S1 k ∨ gp' = some k, ?_, ?_⟩
    · refine ZMem.mk2 (.inl hSd) ?_ h2 hz hf (by rw [List.length_append]; exact hx) c1 hsum c2 (fun k hk => .inr hk) (Sl.nil _ _) (fun k hk => by cases hk) rfl
      rintro k (hk | hk)
      · have := hS1 k hk; exact ⟨this.1, by omega⟩
      · refine ⟨?_, c2.lt hk⟩
        rcases c3 with e | ⟨j, e, hj⟩
        · exact (hS1 k (hgp k (e ▸ hk))).1
        · rw [e] at hk; cases hk; have := hS1 d hSd; omega
    · rintro k (hk | hk)
      · exact .inl hk
      · rcases c3 with e | ⟨j, e, hj⟩
        · exact .inl (hgp k (e ▸ hk))
        · rw [e] at hk; cases hk; exact .inr hj
  · obtain ⟨e1, e2, e3⟩ := g2 hx
    rw [ht] at hne
    have c1 := e3 (by rw [hsum]; exact hne)
    refine ⟨c1.cells.1, c1.cells.2.1, S1, ?_, fun k hk => .inl hk⟩
    exact ZMem.mk4 hSd (fun k hk => ⟨(hS1 k hk).1, by have := hS1 k hk; omega⟩) ((ZSays.foot h2 hz hf).2.2 (by rw [List.length_append]; exact hx) (by rw [ht]; exact hne)) (by decide) (by decide) c1 (Sl.nil _ _) (fun k hk => by cases hk) rfl
  · obtain ⟨e1, e2, e3⟩ := g2 hx
    rw [ht] at he
    exact e2 (by rw [hsum]; exact he)
end
end Go.Proofs.YtloagniacjfkfaaGreatDoor
