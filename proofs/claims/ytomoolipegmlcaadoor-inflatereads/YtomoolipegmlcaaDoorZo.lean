/- Joined: Jf Jq Jr. -/
import Derived.Test.YtomoolipegmlcaaDoorZm
import Derived.Test.YtomoolipegmlcaaDoorZn
import Derived.Laws.IdiomStrings
/- The document's three examples, by the machine. -/
namespace Go.Proofs.YtomoolipegmlcaaDoor
open Go.RowKit
theorem nxt_word {ns : List Nat} (hc : Cd ns) {nb : Nat → Nat} {N s : Nat} (hs : s < ns.length) (h0 : hn ns s ≠ 0) (hN : hn ns s ≤ N) (hp : ∀ k, k ≤ hn ns s → pv nb k = hv ns s / 2 ^ (hn ns s - k)) : ∀ f k, k + f = 15 → k < hn ns s → nxt ns nb N f k = ((s : Int), 0, hn ns s)
  | 0, k, hk, hl => by have := hc.le s; omega
  | f + 1, k, hk, hl => by
    rw [nxt, if_neg (by omega)]
    by_cases e : k + 1 = hn ns s
    · have e2 : pv nb (k + 1) = hv ns s := by rw [hp (k + 1) (by omega), e, Nat.sub_self, Nat.pow_zero, Nat.div_one]
      have e3 : ¬ stB (fin ns) ns.length (k + 1) (pv nb (k + 1)) = true := by
        intro hst
        obtain ⟨t, ht, h1, h2, h3⟩ := (stB_iff _ _ _ _).1 hst
        have h2' : k + 1 < hn ns t := h2
        have h3' : hv ns t / 2 ^ (hn ns t - (k + 1)) = pv nb (k + 1) := h3
        rw [e2, e] at h3'
        exact hc.apart h0 (by omega) (fun x => by subst x; omega) (by omega) h3'
      rw [if_neg e3, e2, e, wdF_at hc hs h0]
    · have e3 : stB (fin ns) ns.length (k + 1) (pv nb (k + 1)) = true := by
        refine (stB_iff _ _ _ _).2 ⟨s, hs, by omega, ?_, ?_⟩
        · show k + 1 < hn ns s; omega
        · show hv ns s / 2 ^ (hn ns s - (k + 1)) = _
          rw [hp (k + 1) (by omega)]
      rw [if_pos e3]
      exact nxt_word hc hs h0 hN hp f (k + 1) (by omega) (by omega)
def fxA : List Int := [1, 1, 0, 1, 0, 0, 1, 0, 0, 0, 1, 0, 0, 0, 0, 0, 0, 0, 0, 0, 0, 0, 0, 0]
theorem fxA_eq : bitsL [75, 4, 0] = fxA := by decide
set_option maxRecDepth 100000 in
theorem fx97 : hn fixL 97 = 8 ∧ hv fixL 97 = 145 := by decide +kernel
set_option maxRecDepth 100000 in
theorem fx256 : hn fixL 256 = 7 ∧ hv fixL 256 = 0 := by decide +kernel
theorem fixL_len : fixL.length = 288 := by simp [fixL]
theorem nx97 : nxL fixL (fxA.drop 3) = (97, 0, 8) := by
  have h := nxt_word fixL_cd (nb := fun i => ((fxA.drop 3)[i]?.getD 0).toNat) (N := (fxA.drop 3).length) (s := 97) (by rw [fixL_len]; omega) (by rw [fx97.1]; decide) (by rw [fx97.1]; decide) (by rw [fx97.1, fx97.2]; decide) 15 0 rfl (by rw [fx97.1]; decide)
  rw [fx97.1] at h
  exact h
theorem nx256 : nxL fixL (fxA.drop 11) = (256, 0, 7) := by
  have h := nxt_word fixL_cd (nb := fun i => ((fxA.drop 11)[i]?.getD 0).toNat) (N := (fxA.drop 11).length) (s := 256) (by rw [fixL_len]; omega) (by rw [fx256.1]; decide) (by rw [fx256.1]; decide) (by rw [fx256.1, fx256.2]; decide) 15 0 rfl (by rw [fx256.1]; decide)
  rw [fx256.1] at h
  exact h
theorem item_sym {lim : Nat} {s : St} (h : s.now = 7) (l : List Int) : item lim s l = itSymbol lim s l := by unfold item; rw [h]; rfl
theorem ex_fixed : Runs 10 St.start (bitsL [75, 4, 0]) (.stop ⟨11, [97], true, 0, 0, 0, 0, none, [], 0, none, none, 0, 0, 0⟩ []) := by
  rw [fxA_eq]
  have e1 : item 10 St.start fxA = .ok ⟨7, [], true, 0, 0, 0, 0, none, [], 0, some fixL, some fixD, 0, 0, 0⟩ 3 := rfl
  have e2 : item 10 ⟨7, [], true, 0, 0, 0, 0, none, [], 0, some fixL, some fixD, 0, 0, 0⟩ (fxA.drop 3) = .ok ⟨7, [97], true, 0, 0, 0, 0, none, [], 0, some fixL, some fixD, 0, 0, 0⟩ 8 := by
    rw [item_sym rfl, itSymbol]
    simp only [Option.getD_some, nx97]
    simp
  have e3 : item 10 ⟨7, [97], true, 0, 0, 0, 0, none, [], 0, some fixL, some fixD, 0, 0, 0⟩ ((fxA.drop 3).drop 8) = .ok ⟨11, [97], true, 0, 0, 0, 0, none, [], 0, none, none, 0, 0, 0⟩ 13 := by
    rw [item_sym rfl, itSymbol, show (fxA.drop 3).drop 8 = fxA.drop 11 from rfl]
    simp only [Option.getD_some, nx256]
    simp [endB, fxA]
  exact .ok (by decide) e1 (.ok (by decide) e2 (.ok (by decide) e3 (.fin rfl)))
theorem ex_stored : Runs 10 St.start (bitsL [1, 1, 0, 254, 255, 7]) (.stop ⟨11, [7], true, 0, 0, 0, 0, none, [], 0, none, none, 0, 0, 0⟩ []) := by
  have e1 : item 10 St.start (bitsL [1, 1, 0, 254, 255, 7]) = .ok ⟨1, [], true, 0, 0, 0, 0, none, [], 0, none, none, 0, 0, 0⟩ 8 := rfl
  have e2 : item 10 ⟨1, [], true, 0, 0, 0, 0, none, [], 0, none, none, 0, 0, 0⟩ ((bitsL [1, 1, 0, 254, 255, 7]).drop 8) = .ok ⟨2, [], true, 1, 0, 0, 0, none, [], 0, none, none, 0, 0, 0⟩ 32 := rfl
  have e3 : item 10 ⟨2, [], true, 1, 0, 0, 0, none, [], 0, none, none, 0, 0, 0⟩ (((bitsL [1, 1, 0, 254, 255, 7]).drop 8).drop 32) = .ok ⟨11, [7], true, 0, 0, 0, 0, none, [], 0, none, none, 0, 0, 0⟩ 8 := rfl
  exact .ok (by decide) e1 (.ok (by decide) e2 (.ok (by decide) e3 (.fin rfl)))
theorem ex_form : Runs 10 St.start (bitsL [7]) (.fail 3 []) := .bad (by decide) rfl
end Go.Proofs.YtomoolipegmlcaaDoor
/- The calls whose answers the document fixes. -/
namespace Go.Proofs.YtomoolipegmlcaaDoor
open Go.RowKit
theorem row_lit (w : World) (l : List Int) : Row (w.alloc (.cells (vals l).toArray 5)) (some ⟨w.heap.size, 0, none⟩) l := by
  refine .inr ⟨w.heap.size, 0, rfl, fun i hi => ?_⟩
  simp only [World.cell?, heap_alloc_new]
  simp [vals, hi]
def ExPost (base : Nat) (w : World) (d : Nat) (r0 : Og) (n : Nat) (er : Int) (e : Ending) (w' : World) : Prop :=
  ∃ ax cx, e = .returned (.tuple #[.slice ax n cx, .int .i64 er]) ∧ Row w' ax r0.out ∧ (∃ L' o', Dec base w' d 10 L' o' r0) ∧ Below base w w'
theorem push_lit {base : Nat} {w : World} {d : Nat} {o : Ow} (h : Dec base w d 10 [] o (.stop St.start [])) (bs : List Int) (r0 : Og) (n : Nat) (er : Int) (hn : r0.out.length = n) (he : r0.err = er) (hex : Runs 10 St.start (bitsL bs) r0) (hb : Bytes bs) (hl : bs.length ≤ 100) (hbase : base ≤ w.heap.size) (h1 : 1 ≤ base) (hord : Ord w) :
    Calls Tryd.prog 11 #[.pointer (some ⟨d, 0, none⟩), .slice (some ⟨w.heap.size, 0, none⟩) bs.length bs.length] (w.alloc (.cells (vals bs).toArray 5)) fun e w' => ExPost base w d r0 n er e w' := by
  have hal : Below w.heap.size w (w.alloc (.cells (vals bs).toArray 5)) := (Below.refl _ _).alloc (Nat.le_refl _) _
  refine (push_any (h.old hal) bs (some ⟨w.heap.size, 0, none⟩) bs.length bs.length rfl hb (fun e => by cases e) (row_lit w bs) (Nat.le_trans hbase hal.size) h1 (hord.below hal (Nat.le_trans h1 hbase)) (by decide) (by simp; omega)).mono ?_
  rintro e w' ⟨r', o', tv, tg, rfl, hdec, hpre, hsl, hfr, hst⟩
  have e1 : r' = r0 := by have := hdec.runs; rw [List.nil_append] at this; exact this.det hex
  subst e1
  have hsl : Sl w' 5 tv tg (vals r'.out) := hsl
  obtain ⟨ax, cx, hv, _⟩ := hsl.shape
  rw [vals_len] at hv
  refine ⟨ax, cx, by rw [hv, hn, he], hsl.row hv, ⟨_, o', hdec⟩, ?_⟩
  exact (hal.mono hbase).trans ((hst.below h.fr (Nat.le_trans hbase hal.size)))
theorem conv_one {w : World} {ax : Option Addr} {x : Int} (c : Nat) (hx : 0 ≤ x ∧ x < 256) (h : Row w ax [x]) : ∃ ad, ax = some ad ∧ (convert 22 9 (.slice (some ad) 1 c)).run Tryd.prog w = .ok (.string ⟨#[UInt8.ofNat x.toNat]⟩) w := by
  rcases h with h | ⟨b, off, rfl, h⟩
  · cases h
  · refine ⟨_, rfl, ?_⟩
    have := run_convert_bytes_back (P := Tryd.prog) w 22 9 5 ⟨b, off, none⟩ c [UInt8.ofNat x.toNat] Tryd.underlying22 Tryd.underlying5 Tryd.underlying9 (fun j hj => by
      have hj0 : j = 0 := by simpa using hj
      subst hj0
      have := h 0 (by simp)
      simp only [Nat.add_zero, List.getElem?_cons_zero, Option.getD_some] at this
      rw [show (⟨b, off, none⟩ : Addr).add 0 = ⟨b, off, none⟩ by simp [Addr.add], this]
      have hx2 : (UInt8.ofNat x.toNat).toNat = x.toNat := by simp [UInt8.toNat_ofNat']; omega
      simp [hx2]
      omega)
    exact this
set_option maxHeartbeats 1600000 in
set_option maxRecDepth 20000 in
theorem fixed_any (w : World) (hord : Ord w) : Calls Tryd.prog 9 #[] w fun e w' => e = .returned (.bool true) ∧ Below w.heap.size w w' := by
  have HO : Hid (Ord w) := hord
  clear hord
  go_enter Tryd.func9, Tryd.ntmps9
  go_wp2_with fail
  refine (new_any 10 w (by decide)).mono ?_
  rintro e w1 ⟨rfl, d1, b1⟩
  have HO1 : Hid (Ord w1) := HO.out.below b1 HO.out.pos
  have HD1 := push_lit d1 [1, 1, 0, 254, 255, 7] _ 1 0 rfl rfl ex_stored (by intro z hz; simp at hz; omega) (by decide) b1.size HO.out.pos HO1.out
  have HB1 : Hid (Below w.heap.size w w1) := b1
  clear d1 b1
  go_wp2_with fail
  refine HD1.mono ?_
  rintro e w2 ⟨ax, cx, rfl, rx, ⟨L1, o1, dec1⟩, b2⟩
  have HB2 : Hid (Below w.heap.size w w2) := HB1.out.trans b2
  have HO2 : Hid (Ord w2) := HO.out.below HB2.out HO.out.pos
  have HX : Hid (Row w2 ax [7] ∧ Dec w.heap.size w2 w.heap.size 10 L1 o1 (.stop ⟨11, [7], true, 0, 0, 0, 0, none, [], 0, none, none, 0, 0, 0⟩ [])) := ⟨rx, dec1⟩
  clear HD1 HB1 HO1 rx dec1 b2
  go_wp2_with fail
  refine (new_any 10 w2 (by decide)).mono ?_
  rintro e w3 ⟨rfl, d3, b3⟩
  have HO3 : Hid (Ord w3) := HO2.out.below b3 HO2.out.pos
  have HD3 := push_lit d3 [75, 4, 0] _ 1 0 rfl rfl ex_fixed (by intro z hz; simp at hz; omega) (by decide) b3.size HO2.out.pos HO3.out
  have HB3 : Hid (Below w2.heap.size w2 w3) := b3
  clear d3 b3
  go_wp2_with fail
  refine HD3.mono ?_
  rintro e w4 ⟨ay, cy, rfl, ry, ⟨L3, o3, dec3⟩, b4⟩
  have HB4 : Hid (Below w2.heap.size w2 w4) := HB3.out.trans b4
  have HO4 : Hid (Ord w4) := HO2.out.below HB4.out HO2.out.pos
  have HY : Hid (Row w4 ay [97]) := ry
  clear HD3 HB3 HO3 ry dec3 b4
  go_wp2_with fail
  refine (new_any 10 w4 (by decide)).mono ?_
  rintro e w5 ⟨rfl, d5, b5⟩
  have HO5 : Hid (Ord w5) := HO4.out.below b5 HO4.out.pos
  have HD5 := push_lit d5 [7] _ 0 3 rfl rfl ex_form (by intro z hz; simp at hz; omega) (by decide) b5.size HO4.out.pos HO5.out
  have HB5 : Hid (Below w4.heap.size w4 w5) := b5
  clear d5 b5
  go_wp2_with fail
  refine HD5.mono ?_
  rintro e w6 ⟨az, cz, rfl, rz, _, b6⟩
  have HB6 : Hid (Below w4.heap.size w4 w6) := HB5.out.trans b6
  have HB26 : Hid (Below w2.heap.size w2 w6) := HB4.out.trans (HB6.out.mono HB4.out.size)
  have HB06 : Hid (Below w.heap.size w w6) := HB2.out.trans (HB26.out.mono HB2.out.size)
  obtain ⟨adx, rfl, hcx⟩ := conv_one cx (by decide) (HX.out.1.old HB26.out)
  obtain ⟨ady, rfl, hcy⟩ := conv_one cy (by decide) (HY.out.old HB6.out)
  have HDn := done_any (HX.out.2.old HB26.out)
  have e1 : (⟨#[UInt8.ofNat (7 : Int).toNat]⟩ : ByteArray) = ⟨#[7]⟩ := rfl
  have e2 : (⟨#[UInt8.ofNat (97 : Int).toNat]⟩ : ByteArray) = ⟨#[97]⟩ := rfl
  rw [e1] at hcx
  rw [e2] at hcy
  clear HD5 HB5 HO5 rz b6 HB2 HB4 HB6 HO HO2 HO4 HX HY e1 e2
  go_wp2_with fail
  refine HDn.mono ?_
  rintro e w7 ⟨rfl, hw7⟩
  rw [hw7]
  go_wp2
  go_ret
  exact ⟨rfl, HB06.out⟩
end Go.Proofs.YtomoolipegmlcaaDoor
/- No more is told than there is room for. -/
namespace Go.Proofs.YtomoolipegmlcaaDoor
open Go.RowKit
theorem cpy_le (lim dist : Nat) : ∀ n out, out.length ≤ lim → (cpy lim dist n out).1.length ≤ lim
  | 0, out, h => h
  | n + 1, out, h => by
    rw [cpy]
    split
    · exact h
    · rename_i he
      exact cpy_le lim dist n _ (by rw [List.length_append, List.length_singleton]; omega)
def Rs.le (lim : Nat) : Rs → Prop
  | .short => True
  | .bad _ o => o.length ≤ lim
  | .ok s _ => s.out.length ≤ lim
theorem endB_le {s : St} {l : List Int} {n lim : Nat} (h : s.out.length ≤ lim) : (endB s l n).le lim := by
  unfold endB
  split <;> exact h
theorem lengL_le {s : St} {v t n lim : Nat} (h : s.out.length ≤ lim) : (lengL s v t n).le lim := by
  unfold lengL endL
  split
  · exact h
  · split
    · exact h
    · split <;> exact h
theorem item_le (lim : Nat) (s : St) (l : List Int) (hr : s.out.length ≤ lim) : (item lim s l).le lim := by
  have ha : ¬ s.out.length = lim → ∀ x : Int, (s.out ++ [x]).length ≤ lim := fun h x => by rw [List.length_append, List.length_singleton]; omega
  unfold item
  split
  · unfold itHead; repeat' split
    all_goals first | trivial | exact hr
  · unfold itSize
    split
    · trivial
    · split
      · exact hr
      · split
        · exact endB_le hr
        · exact hr
  · unfold itStored
    split
    · trivial
    · split
      · exact hr
      · rename_i h
        split
        · exact endB_le (ha h _)
        · exact ha h _
  · unfold itCounts; repeat' split
    all_goals first | trivial | exact hr
  · unfold itCode; repeat' split
    all_goals first | trivial | exact hr
  · unfold itLens
    simp only
    repeat' split
    all_goals first | trivial | exact hr | exact lengL_le hr
  · unfold itAgain
    split
    · trivial
    · exact lengL_le hr
  · unfold itSymbol
    simp only
    repeat' split
    all_goals first | trivial | exact hr | exact endB_le hr | (rename_i h; exact ha h _)
  · unfold itLength; repeat' split
    all_goals first | trivial | exact hr
  · unfold itDist
    simp only
    repeat' split
    all_goals first | trivial | exact hr
  · unfold itFar
    repeat' split
    all_goals first | trivial | exact hr | exact cpy_le _ _ _ _ hr
theorem Runs.le {lim : Nat} {s : St} {l : List Int} {r : Og} (h : Runs lim s l r) : s.out.length ≤ lim → r.out.length ≤ lim := by
  induction h with
  | fin _ => exact id
  | short _ _ => exact id
  | bad h1 h2 =>
    rename_i s l er out
    intro h
    have := item_le lim s l h
    rw [h2] at this; exact this
  | ok h1 h2 _ ih =>
    rename_i s l s1 n r hr
    intro h
    have := item_le lim s l h
    rw [h2] at this; exact ih this
theorem Dec.le {base : Nat} {w : World} {d lim : Nat} {L : List Int} {o : Ow} {r : Og} (h : Dec base w d lim L o r) : r.out.length ≤ lim := h.runs.le (Nat.zero_le _)
theorem Dec.byt {base : Nat} {w : World} {d lim : Nat} {L : List Int} {o : Ow} {s : St} {l : List Int} (h : Dec base w d lim L o (.stop s l)) : Bytes s.out := by
  obtain ⟨a, V, _, ha, _⟩ := h.stand
  exact ha.hold.byt
end Go.Proofs.YtomoolipegmlcaaDoor
