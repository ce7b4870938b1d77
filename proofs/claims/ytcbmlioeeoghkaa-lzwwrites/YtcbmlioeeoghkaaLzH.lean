/- LZW: a decoder's end. -/
import Derived.Test.YtcbmlioeeoghkaaLzE
namespace Go.Proofs.Ytcbmlioeeoghkaa
open Go.RowKit
/-- What a call on a decoder changes. -/
structure LFr (S : Nat → Prop) (w w' : World) : Prop where
  os : w'.os = w.os
  tape : w'.tape = w.tape
  output : w'.output = w.output
  size : w.heap.size ≤ w'.heap.size
  block : ∀ k, k < w.heap.size → ¬ S k → w'.heap[k]? = w.heap[k]?
theorem LFr.refl (S : Nat → Prop) (w : World) : LFr S w w := ⟨rfl, rfl, rfl, Nat.le_refl _, fun _ _ _ => rfl⟩
theorem LFr.trans {S S' : Nat → Prop} {a b c : World} (h : LFr S a b) (k : LFr S' b c) (hs : ∀ k, S' k → S k ∨ a.heap.size ≤ k) : LFr S a c :=
  ⟨k.os.trans h.os, k.tape.trans h.tape, k.output.trans h.output, Nat.le_trans h.size k.size, fun j hj hn => (k.block j (Nat.lt_of_lt_of_le hj h.size) (fun e => (hs j e).elim hn (fun h => by omega))).trans (h.block j hj hn)⟩
theorem LFr.of_fr {S : Nat → Prop} {w w' : World} {r : Nat} {g : Option Nat} (h : Fr w w' r g) (hr : S r) (hg : ∀ k, g = some k → S k) : LFr S w w' :=
  ⟨h.os, h.tape, h.output, h.size, fun k hk hn => h.block k hk (fun e => hn (e ▸ hr)) (fun e => hn (hg k e.symm))⟩
theorem LFr.of_below {S : Nat → Prop} {w w' : World} (h : Below w.heap.size w w') : LFr S w w' := ⟨h.os, h.tape, h.output, h.size, fun k hk _ => h.block k hk⟩
theorem lalign_any {r : Nat} {g : Option Nat} {zs : List Int} {gone : Nat} {w : World} (h : Rd w r g zs gone) (hl : zs.length ≤ 140737488355328) (hg : gone < 8) (hz : 0 < gone → 0 < zs.length) :
    Calls Try.prog 55 #[.pointer (some ⟨r, 0, none⟩)] w fun e w' => (∃ x, e = .returned (.int .i64 x)) ∧ Rd w' r g (if gone = 0 then zs else zs.drop 1) 0 ∧ Fr w w' r g := by
  by_cases h0 : gone = 0
  · subst h0
    rw [if_pos rfl]
    exact (align_no r g zs w h).mono fun e w' ⟨e1, e2⟩ => by subst e2; exact ⟨⟨_, e1⟩, h, Fr.refl _ _ _⟩
  · rw [if_neg h0]
    exact (align_yes r g zs gone w h hl hg (by omega) (hz (by omega))).mono fun e w' ⟨e1, e2, e3⟩ => ⟨⟨_, e1⟩, e2, e3⟩
/-- Behind the end. -/
def EnP (w : World) (d r : Nat) (g : Option Nat) (L lf : Int) (Z : List Int) (e : Ending) (w' : World) : Prop :=
  e = .returned (.tuple #[]) ∧ ∃ a c gr, Dc w' d L lf 0 true (.slice a Z.length c) (.pointer none) 0 (.slice none 0 0) 0 ∧ Sl w' 5 (.slice a Z.length c) gr (vals Z) ∧ (∀ k, gr = some k → w.heap.size ≤ k) ∧ LFr (fun k => k = d ∨ k = r ∨ g = some k) w w'
theorem Rd.tag {w : World} {r : Nat} {g : Option Nat} {zs : List Int} {gone : Nat} (h : Rd w r g zs gone) : ∃ v, w.heap[r]? = some (.cells v 81 (0, 0)) := by
  obtain ⟨v, hh, _⟩ := h; exact ⟨_, hh⟩
theorem Sl.tagL {w : World} {v : Value} {g : Option Nat} {xs : List Value} (h : Sl w 5 v g xs) {k : Nat} (hk : g = some k) : ∃ c, w.heap[k]? = some (.cells c 5 (0, 0)) := by
  rcases h with ⟨_, h, _⟩ | ⟨b, off, cp, cur, _, h, hb, _⟩
  · rw [h] at hk; cases hk
  · rw [h] at hk; cases hk; exact ⟨cur, hb⟩
theorem Rd.gtag {w : World} {r : Nat} {g : Option Nat} {zs : List Int} {gone : Nat} (h : Rd w r g zs gone) {k : Nat} (hk : g = some k) : ∃ c, w.heap[k]? = some (.cells c 5 (0, 0)) := by
  obtain ⟨v, _, hs⟩ := h; exact hs.tagL hk
section
variable {w : World} {d : Nat} {L lf er : Int} {dn : Bool} {rv iv : Value} {tl : Int} {fv : Value} {ah : Int}
theorem Dc.neR {r : Nat} {g : Option Nat} {zs : List Int} {gone : Nat} (h : Dc w d L lf er dn rv iv tl fv ah) (hr : Rd w r g zs gone) : d ≠ r ∧ some d ≠ g := by
  unfold Dc at h
  refine ⟨fun e => ?_, fun e => ?_⟩
  · obtain ⟨v, hv⟩ := hr.tag; rw [← e, h] at hv; simp at hv
  · obtain ⟨v, hv⟩ := hr.gtag e.symm; rw [h] at hv; simp at hv
theorem Dc.neS {v : Value} {g : Option Nat} {xs : List Value} (h : Dc w d L lf er dn rv iv tl fv ah) (hs : Sl w 5 v g xs) : g ≠ some d := fun e => by
  obtain ⟨c, hc⟩ := hs.tagL e; unfold Dc at h; rw [h] at hc; simp at hc
end
set_option maxRecDepth 100000 in
set_option maxHeartbeats 1600000 in
theorem end_any {w : World} {d r : Nat} {g : Option Nat} {L lf : Int} {tl : Int} {fv : Value} {ah : Int} {zs : List Int} {gone : Nat} (h : Dc w d L lf 0 false (.slice none 0 0) (.pointer (some ⟨r, 0, none⟩)) tl fv ah) (hr : Rd w r g zs gone) (hl : zs.length ≤ 1000000000) (hg : gone < 8) (hz : 0 < gone → 0 < zs.length) :
    Calls Try.prog 45 #[.pointer (some ⟨d, 0, none⟩)] w fun e w' => EnP w d r g L lf (if gone = 0 then zs else zs.drop 1) e w' := by
  obtain ⟨k0, k1, k2, k3, k4, k5⟩ := h.head
  have kf := h.frz
  obtain ⟨hdr, hdg⟩ := h.neR hr
  obtain ⟨w1, hw1⟩ : ∃ w1, w.setCell ⟨d, 3, none⟩ (.bool true) = w1 := ⟨_, rfl⟩
  have h1 : Dc w1 d L lf 0 true (.slice none 0 0) (.pointer (some ⟨r, 0, none⟩)) tl fv ah := by rw [← hw1]; exact h.set3 true
  have hf1 : Fr w w1 d none := by rw [← hw1]; exact frL_set 3 _
  have hr1 : Rd w1 r g zs gone := by
    refine hr.same ?_ fun k hk => ?_
    · rw [← hw1]; exact Below.heap_setCell _ _ _ _ hdr.symm
    · rw [← hw1]; exact Below.heap_setCell _ _ _ _ (fun e => hdg (by rw [hk]; exact congrArg some e.symm))
  have CA := lalign_any hr1 (by omega) hg hz
  obtain ⟨Z, hZ⟩ : ∃ Z, (if gone = 0 then zs else zs.drop 1) = Z := ⟨_, rfl⟩
  have hZl : Z.length ≤ 1000000000 := by rw [← hZ]; split; exact hl; rw [List.length_drop]; omega
  rw [hZ] at CA ⊢
  obtain ⟨j0, j1, j2, j3, j4, j5⟩ := h1.head
  have HA : Hid (Dc w1 d L lf 0 true (.slice none 0 0) (.pointer (some ⟨r, 0, none⟩)) tl fv ah ∧ Fr w w1 d none ∧ d ≠ r ∧ some d ≠ g) := ⟨h1, hf1, hdr, hdg⟩
  clear h hr hl hg hz h1 hf1 hr1 hZ hdr hdg
  go_enter Try.func45, Try.ntmps45
  go_wp2_with fail
  refine CA.mono ?_
  clear CA
  rintro e w2 ⟨⟨x, rfl⟩, hr2, hf2⟩
  clear hw1 k0 k1 k2 k3 k4 k5 kf j0 j1 j2 j3 j4 j5
  obtain ⟨h1, hf1, hdr, hdg⟩ := HA.out
  have h2 : Dc w2 d L lf 0 true (.slice none 0 0) (.pointer (some ⟨r, 0, none⟩)) tl fv ah := h1.of (hf2.block d (lt_of_block h1) hdr hdg)
  obtain ⟨k0, k1, k2, k3, k4, k5⟩ := h2.head
  have HHv : Hid (∀ n, Calls Try.prog 52 #[.pointer (some ⟨r, 0, none⟩)] (w2.drewN n) fun e w' => e = .returned (.int .i64 (Z.length * 8 - (0 : Nat))) ∧ ∃ m, w' = (w2.drewN n).drewN m) := fun n => have_any r g Z 0 _ (hr2.drewN n) (by omega) (by omega)
  have HBy : Hid (∀ n x, x = (Z.length : Int) → Calls Try.prog 56 #[.pointer (some ⟨r, 0, none⟩), .int .i64 x] (w2.drewN n) fun e w' => LBytesPost (w2.drewN n) r g Z e w') := fun n x hx => by subst hx; exact lbytes_any r g Z _ (hr2.drewN n) (by omega)
  have HF : Hid (∀ n a c gr w3, Sl w3 5 (.slice a Z.length c) gr (vals Z) → (∀ k, gr = some k → (w2.drewN n).heap.size ≤ k) → Fr (w2.drewN n) w3 r g → Dc w3 d L lf 0 true (.slice none 0 0) (.pointer (some ⟨r, 0, none⟩)) tl fv ah ∧ ∀ w4, w4 = w3.setCell ⟨d, 4, none⟩ (.slice a Z.length c) → Dc w4 d L lf 0 true (.slice a Z.length c) (.pointer (some ⟨r, 0, none⟩)) tl fv ah ∧
      EnP w d r g L lf Z (.returned (.tuple #[])) ((((w4.setCell ⟨d, 5, none⟩ (.pointer none)).setCell ⟨d, 6, none⟩ (.int .i64 0)).setCell ⟨d, 7, none⟩ (.slice none 0 0)).setCell ⟨d, 8, none⟩ (.int .i64 0))) := by
    intro n a c gr w3 q1 q2 q3
    have h3 : Dc w3 d L lf 0 true (.slice none 0 0) (.pointer (some ⟨r, 0, none⟩)) tl fv ah := h2.of (q3.block d (lt_of_block h2) hdr hdg)
    refine ⟨h3, ?_⟩
    rintro w4 rfl
    have hne := h3.neS q1
    have hsl : Sl ((((((w3.setCell ⟨d, 4, none⟩ (.slice a Z.length c)).setCell ⟨d, 5, none⟩ (.pointer none)).setCell ⟨d, 6, none⟩ (.int .i64 0)).setCell ⟨d, 7, none⟩ (.slice none 0 0)).setCell ⟨d, 8, none⟩ (.int .i64 0))) 5 (.slice a Z.length c) gr (vals Z) := q1.same fun k hk => by
      have : k ≠ d := fun e => hne (e ▸ hk)
      exact ((((Below.heap_setCell _ _ _ _ this).trans (Below.heap_setCell _ _ _ _ this)).trans (Below.heap_setCell _ _ _ _ this)).trans (Below.heap_setCell _ _ _ _ this)).trans (Below.heap_setCell _ _ _ _ this)
    refine ⟨h3.set4 _, rfl, a, c, gr, fail_world (h3.set4 _), hsl, fun k hk => ?_, ?_⟩
    · have e1 := q2 k hk; have e2 := hf1.size; have e3 := hf2.size; simp at e1; omega
    · have f1 : LFr (fun k => k = d ∨ k = r ∨ g = some k) w w1 := LFr.of_fr hf1 (.inl rfl) (fun k hk => by cases hk)
      have f2 : LFr (fun k => k = d ∨ k = r ∨ g = some k) w1 w2 := LFr.of_fr hf2 (.inr (.inl rfl)) (fun k hk => .inr (.inr hk))
      have f3 : LFr (fun k => k = d ∨ k = r ∨ g = some k) (w2.drewN n) w3 := LFr.of_fr q3 (.inr (.inl rfl)) (fun k hk => .inr (.inr hk))
      have f3' : LFr (fun k => k = d ∨ k = r ∨ g = some k) w2 w3 := ⟨f3.os, f3.tape, f3.output, f3.size, f3.block⟩
      have f4 : LFr (fun k => k = d ∨ k = r ∨ g = some k) w3 (w3.setCell ⟨d, 4, none⟩ (.slice a Z.length c)) := LFr.of_fr (g := none) (frL_set 4 _) (.inl rfl) (fun k hk => by cases hk)
      have f5 := LFr.of_fr (S := fun k => k = d ∨ k = r ∨ g = some k) (fail_frame (w := w3.setCell ⟨d, 4, none⟩ (.slice a Z.length c)) (d := d) (g := none)) (.inl rfl) (fun k hk => by cases hk)
      exact (((f1.trans f2 (fun k hk => .inl hk)).trans f3' (fun k hk => .inl hk)).trans f4 (fun k hk => .inl hk)).trans f5 (fun k hk => .inl hk)
  obtain ⟨zl, hzl⟩ : ∃ zl, Z.length = zl := ⟨_, rfl⟩
  have Hzl : Hid (Z.length = zl) := hzl
  rw [hzl] at hZl HHv HBy HF
  clear hr2 hf2 HA h1 hf1 hdr hdg h2 hzl
  go_wp2
  go_region_held3 (fun u => u.cell? ⟨d, 5, none⟩ = some (.pointer (some ⟨r, 0, none⟩))) (first | (with_reducible assumption) | go_keep) (first
    | (go_at_call 52; refine Calls.mono (HHv.out 1) ?_; rintro e w4 ⟨rfl, m4, rfl⟩)
    | (go_at_call 56; refine Calls.mono (HBy.out _ _ ?_) ?_; (first | (rw [IntKind.wrap_i64]; omega) | omega); rintro e w5 ⟨av, cv, g1, rfl, hs1, hg1, -, hfr5⟩; rw [Hzl.out] at hs1; obtain ⟨y1, y2⟩ := HF.out _ _ _ _ _ hs1 hg1 hfr5; have q4 := y1.head.2.2.2.2.1; have q5 := y1.head.2.2.2.2.2; have qf := y1.frz; have q5s : (w5.setCell ⟨d, 4, none⟩ (.slice av zl cv)).cell? ⟨d, 5, none⟩ = some (.pointer (some ⟨r, 0, none⟩)) := (y1.set4 (.slice av zl cv)).head.2.2.2.2.2; rw [Hzl.out])
    | fail)
  all_goals
    obtain ⟨w6, hw6⟩ : ∃ w6, w5.setCell ⟨d, 4, none⟩ (.slice av zl cv) = w6 := ⟨_, rfl⟩
    obtain ⟨y3, y4⟩ := y2 w6 hw6.symm
    obtain ⟨p0, p1, p2, p3, p4, p5⟩ := y3.head
    obtain ⟨p6, p7, p8⟩ := y3.tab
    have pf := y3.frz
    have HP : Hid (EnP w d r g L lf Z (.returned (.tuple #[])) ((((w6.setCell ⟨d, 5, none⟩ (.pointer none)).setCell ⟨d, 6, none⟩ (.int .i64 0)).setCell ⟨d, 7, none⟩ (.slice none 0 0)).setCell ⟨d, 8, none⟩ (.int .i64 0))) := y4
    rw [hw6]
    clear y1 y2 y3 y4 hs1 hg1 hfr5 HF HHv HBy q4 q5 q5s qf hw6
    go_wp2
    go_end0
    exact HP.out
end Go.Proofs.Ytcbmlioeeoghkaa
