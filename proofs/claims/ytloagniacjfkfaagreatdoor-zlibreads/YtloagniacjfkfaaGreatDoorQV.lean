/- Joined: Jf Jq. -/
import Derived.Test.YtloagniacjfkfaaGreatDoorQM
import Derived.Test.YtloagniacjfkfaaGreatDoorQN
import Derived.Laws.IdiomStrings
/- The document's three examples, by the machine. -/
namespace Go.Proofs.YtloagniacjfkfaaGreatDoor
open Go.RowKit
theorem nxt_word {ns : List Nat} (hc : Cd ns) {nb : Nat → Nat} {N s : Nat} (hs : s < ns.length) (h0 : hn ns s ≠ 0) (hN : hn ns s ≤ N) (hp : ∀ k, k ≤ hn ns s → pv nb k = hv ns s / 2 ^ (hn ns s - k)) : ∀ f k, k + f = 15 → k < hn ns s → nxt ns nb N f k = ((s : Int), 0, hn ns s)
  | 0, k, hk, hl => by have := hc.le s; omega
  | f + 1, k, hk, hl => by
    rw [nxt, if_neg (by omega)]
    by_cases e : k + 1 = hn ns s
    · have e2 : pv nb (k + 1) = hv ns s := by rw [hp (k + 1) (by omega), e, Nat.sub_self, Nat.pow_zero, Nat.div_one]
      have e3 : ¬ stB (fin ns) ns.length (k + 1) (pv nb (k + 1)) = true := by
        intro hst
        obtain ⟨t, ht, h1, h2, h3⟩ := (stB_iff _ _ _ _).1 hst
        have h2' : k + 1 < hn ns t := h2
        have h3' : hv ns t / 2 ^ (hn ns t - (k + 1)) = pv nb (k + 1) := h3
        rw [e2, e] at h3'
        exact hc.apart h0 (by omega) (fun x => by subst x; omega) (by omega) h3'
      rw [if_neg e3, e2, e, wdF_at hc hs h0]
    · have e3 : stB (fin ns) ns.length (k + 1) (pv nb (k + 1)) = true := by
        refine (stB_iff _ _ _ _).2 ⟨s, hs, by omega, ?_, ?_⟩
        · show k + 1 < hn ns s; omega
        · show hv ns s / 2 ^ (hn ns s - (k + 1)) = _
          rw [hp (k + 1) (by omega)]
      rw [if_pos e3]
      exact nxt_word hc hs h0 hN hp f (k + 1) (by omega) (by omega)
def fxA : List Int := [1, 1, 0, 1, 0, 0, 1, 0, 0, 0, 1, 0, 0, 0, 0, 0, 0, 0, 0, 0, 0, 0, 0, 0]
theorem fxA_eq : bitsL [75, 4, 0] = fxA := by decide
set_option maxRecDepth 100000 in
theorem fx97 : hn fixL 97 = 8 ∧ hv fixL 97 = 145 := by decide +kernel
set_option maxRecDepth 100000 in
theorem fx256 : hn fixL 256 = 7 ∧ hv fixL 256 = 0 := by decide +kernel
theorem fixL_len : fixL.length = 288 := by simp [fixL]
theorem nx97 : nxL fixL (fxA.drop 3) = (97, 0, 8) := by
  have h := nxt_word fixL_cd (nb := fun i => ((fxA.drop 3)[i]?.getD 0).toNat) (N := (fxA.drop 3).length) (s := 97) (by rw [fixL_len]; omega) (by rw [fx97.1]; decide) (by rw [fx97.1]; decide) (by rw [fx97.1, fx97.2]; decide) 15 0 rfl (by rw [fx97.1]; decide)
  rw [fx97.1] at h
  exact h
theorem nx256 : nxL fixL (fxA.drop 11) = (256, 0, 7) := by
  have h := nxt_word fixL_cd (nb := fun i => ((fxA.drop 11)[i]?.getD 0).toNat) (N := (fxA.drop 11).length) (s := 256) (by rw [fixL_len]; omega) (by rw [fx256.1]; decide) (by rw [fx256.1]; decide) (by rw [fx256.1, fx256.2]; decide) 15 0 rfl (by rw [fx256.1]; decide)
  rw [fx256.1] at h
  exact h
theorem item_sym {lim : Nat} {s : St} (h : s.now = 7) (l : List Int) : item lim s l = itSymbol lim s l := by unfold item; rw [h]; rfl
theorem ex_fixed : Runs 10 St.start (bitsL [75, 4, 0]) (.stop ⟨11, [97], true, 0, 0, 0, 0, none, [], 0, none, none, 0, 0, 0⟩ []) := by
  rw [fxA_eq]
  have e1 : item 10 St.start fxA = .ok ⟨7, [], true, 0, 0, 0, 0, none, [], 0, some fixL, some fixD, 0, 0, 0⟩ 3 := rfl
  have e2 : item 10 ⟨7, [], true, 0, 0, 0, 0, none, [], 0, some fixL, some fixD, 0, 0, 0⟩ (fxA.drop 3) = .ok ⟨7, [97], true, 0, 0, 0, 0, none, [], 0, some fixL, some fixD, 0, 0, 0⟩ 8 := by
    rw [item_sym rfl, itSymbol]
    simp only [Option.getD_some, nx97]
    simp
  have e3 : item 10 ⟨7, [97], true, 0, 0, 0, 0, none, [], 0, some fixL, some fixD, 0, 0, 0⟩ ((fxA.drop 3).drop 8) = .ok ⟨11, [97], true, 0, 0, 0, 0, none, [], 0, none, none, 0, 0, 0⟩ 13 := by
    rw [item_sym rfl, itSymbol, show (fxA.drop 3).drop 8 = fxA.drop 11 from rfl]
    simp only [Option.getD_some, nx256]
    simp [endB, fxA]
  exact .ok (by decide) e1 (.ok (by decide) e2 (.ok (by decide) e3 (.fin rfl)))
theorem ex_stored : Runs 10 St.start (bitsL [1, 1, 0, 254, 255, 7]) (.stop ⟨11, [7], true, 0, 0, 0, 0, none, [], 0, none, none, 0, 0, 0⟩ []) := by
  have e1 : item 10 St.start (bitsL [1, 1, 0, 254, 255, 7]) = .ok ⟨1, [], true, 0, 0, 0, 0, none, [], 0, none, none, 0, 0, 0⟩ 8 := rfl
  have e2 : item 10 ⟨1, [], true, 0, 0, 0, 0, none, [], 0, none, none, 0, 0, 0⟩ ((bitsL [1, 1, 0, 254, 255, 7]).drop 8) = .ok ⟨2, [], true, 1, 0, 0, 0, none, [], 0, none, none, 0, 0, 0⟩ 32 := rfl
  have e3 : item 10 ⟨2, [], true, 1, 0, 0, 0, none, [], 0, none, none, 0, 0, 0⟩ (((bitsL [1, 1, 0, 254, 255, 7]).drop 8).drop 32) = .ok ⟨11, [7], true, 0, 0, 0, 0, none, [], 0, none, none, 0, 0, 0⟩ 8 := rfl
  exact .ok (by decide) e1 (.ok (by decide) e2 (.ok (by decide) e3 (.fin rfl)))
theorem ex_form : Runs 10 St.start (bitsL [7]) (.fail 3 []) := .bad (by decide) rfl
end Go.Proofs.YtloagniacjfkfaaGreatDoor
/- The calls whose answers the document fixes. -/
namespace Go.Proofs.YtloagniacjfkfaaGreatDoor
open Go.RowKit
theorem row_lit (w : World) (l : List Int) : Row (w.alloc (.cells (vals l).toArray 5)) (some ⟨w.heap.size, 0, none⟩) l := by
  refine .inr ⟨w.heap.size, 0, rfl, fun i hi => ?_⟩
  simp only [World.cell?, heap_alloc_new]
  simp [vals, hi]
def ExPost (base : Nat) (w : World) (d : Nat) (r0 : Og) (n : Nat) (er : Int) (e : Ending) (w' : World) : Prop :=
  ∃ ax cx, e = .returned (.tuple #[.slice ax n cx, .int .i64 er]) ∧ Row w' ax r0.out ∧ (∃ L' o', Dec base w' d 10 L' o' r0) ∧ Below base w w'
theorem push_lit {base : Nat} {w : World} {d : Nat} {o : Ow} (h : Dec base w d 10 [] o (.stop St.start [])) (bs : List Int) (r0 : Og) (n : Nat) (er : Int) (hn : r0.out.length = n) (he : r0.err = er) (hex : Runs 10 St.start (bitsL bs) r0) (hb : Bytes bs) (hl : bs.length ≤ 100) (hbase : base ≤ w.heap.size) (h1 : 3 ≤ base) (hord : Ord w) :
    Calls Tryz.prog 40 #[.pointer (some ⟨d, 0, none⟩), .slice (some ⟨w.heap.size, 0, none⟩) bs.length bs.length] (w.alloc (.cells (vals bs).toArray 5)) fun e w' => ExPost base w d r0 n er e w' := by
  have hal : Below w.heap.size w (w.alloc (.cells (vals bs).toArray 5)) := (Below.refl _ _).alloc (Nat.le_refl _) _
  refine (push_any (h.old hal) bs (some ⟨w.heap.size, 0, none⟩) bs.length bs.length rfl hb (fun e => by cases e) (row_lit w bs) (Nat.le_trans hbase hal.size) h1 (hord.below hal (Nat.le_trans h1 hbase)) (by decide) (by simp; omega)).mono ?_
  rintro e w' ⟨r', o', tv, tg, rfl, hdec, hpre, hsl, hfr, hst⟩
  have e1 : r' = r0 := by have := hdec.runs; rw [List.nil_append] at this; exact this.det hex
  subst e1
  have hsl : Sl w' 5 tv tg (vals r'.out) := hsl
  obtain ⟨ax, cx, hv, _⟩ := hsl.shape
  rw [vals_len] at hv
  refine ⟨ax, cx, by rw [hv, hn, he], hsl.row hv, ⟨_, o', hdec⟩, ?_⟩
  exact (hal.mono hbase).trans ((hst.below h.fr (Nat.le_trans hbase hal.size)))
theorem conv_one {w : World} {ax : Option Addr} {x : Int} (c : Nat) (hx : 0 ≤ x ∧ x < 256) (h : Row w ax [x]) : ∃ ad, ax = some ad ∧ (convert 22 9 (.slice (some ad) 1 c)).run Tryz.prog w = .ok (.string ⟨#[UInt8.ofNat x.toNat]⟩) w := by
  rcases h with h | ⟨b, off, rfl, h⟩
  · cases h
  · refine ⟨_, rfl, ?_⟩
    have := run_convert_bytes_back (P := Tryz.prog) w 22 9 5 ⟨b, off, none⟩ c [UInt8.ofNat x.toNat] Tryz.underlying22 Tryz.underlying5 Tryz.underlying9 (fun j hj => by
      have hj0 : j = 0 := by simpa using hj
      subst hj0
      have := h 0 (by simp)
      simp only [Nat.add_zero, List.getElem?_cons_zero, Option.getD_some] at this
      rw [show (⟨b, off, none⟩ : Addr).add 0 = ⟨b, off, none⟩ by simp [Addr.add], this]
      have hx2 : (UInt8.ofNat x.toNat).toNat = x.toNat := by simp [UInt8.toNat_ofNat']; omega
      simp [hx2]
      omega)
    exact this
end Go.Proofs.YtloagniacjfkfaaGreatDoor
