/- Joined: LxA LxB LxC LxE. -/
import Derived.Test.YtcbmlioeeoghkaaLzY
import Derived.Test.YtcbmlioeeoghkaaLzOd
import Derived.Test.YtcbmlioeeoghkaaLzW
import Derived.Test.YtcbmlioeeoghkaaRwC
import Derived.Deep.DeepCutAuto
import Derived.Deep.CutBlock
import Derived.Deep.RegionHeld3
import Derived.Test.YtcbmlioeeoghkaaLzOe
/- LZW: a decoder of any least bits between two pushes. -/
namespace Go.Proofs.Ytcbmlioeeoghkaa
open Go.RowKit
theorem lzC_er {L : Nat} {s : Lz} {c : Nat} (h : s.er ≠ 2) : (lzC L s c).er ≠ 2 := by
  unfold lzC
  split
  · exact h
  split
  · exact h
  split
  · show (6 : Int) ≠ 2; decide
  · unfold lzT
    split
    · exact h
    · show (9 : Int) ≠ 2; decide
theorem lzO_er {L : Nat} (hL : L ≤ 8) (n : Nat) (bs : List Int) : (lzO L n bs).er ≠ 2 :=
  lzG_ind hL (fun t => t.er ≠ 2) (fun a b h _ e => by
    unfold lzS at e
    split at e
    · cases e
    · injection e with e; subst e
      exact lzC_er (s := lzP a _) h) _ _ (Nat.lt_succ_self _) (by
        show (((lz0 n).fed bs)).er ≠ 2
        have : ((lz0 n).fed bs).er = 0 := rfl
        rw [this]; decide)
/-- What a decoder tells whose least bits may not be. -/
def lzB0 : Lz := ⟨2, 0, [], 0, [], 0, 1, [], []⟩
def lzX (l lim : Int) (bs : List Int) : Lz := if 2 ≤ l ∧ l ≤ 8 then lzO l.toNat lim.toNat bs else lzB0
def LX (base : Nat) (w : World) (d : Nat) (l lim : Int) (bs : List Int) (S : Nat → Prop) : Prop :=
  ((2 ≤ l ∧ l ≤ 8) ∧ LMem base w d l.toNat (lzX l lim bs) S) ∨ (¬ (2 ≤ l ∧ l ≤ 8) ∧ LBad w d l ∧ S d ∧ ∀ k, S k → base ≤ k ∧ k < w.heap.size)
theorem lzX_yes {l lim : Int} {bs : List Int} (h : 2 ≤ l ∧ l ≤ 8) : lzX l lim bs = lzO l.toNat lim.toNat bs := if_pos h
theorem lzX_no {l lim : Int} {bs : List Int} (h : ¬ (2 ≤ l ∧ l ≤ 8)) : lzX l lim bs = lzB0 := if_neg h
theorem lzX_nil (l lim : Int) : (lzX l lim []).out = [] ∧ ((lzX l lim []).er != 0) = decide (¬ (2 ≤ l ∧ l ≤ 8)) := by
  by_cases h : 2 ≤ l ∧ l ≤ 8
  · rw [lzX_yes h, lzO_nil (by omega)]
    refine ⟨rfl, ?_⟩
    rw [decide_eq_false (by omega)]; rfl
  · rw [lzX_no h, decide_eq_true h]
    exact ⟨rfl, rfl⟩
theorem lzX_rest (l lim : Int) (bs : List Int) : (lzX l lim bs).rest.length ≤ bs.length := by
  by_cases h : 2 ≤ l ∧ l ≤ 8
  · rw [lzX_yes h]; exact lzO_rest (by omega) _ _
  · rw [lzX_no h]; exact Nat.zero_le _
/-- What the document's error is beside the program's. -/
def clE (s : Lz) : Int := if (if s.k = 0 then 2 else s.er) = 2 then 0 else (if s.k = 0 then 2 else s.er)
section
variable {base : Nat} {w w' : World} {d : Nat} {l lim : Int} {bs : List Int} {S : Nat → Prop}
theorem LX.sb (h : LX base w d l lim bs S) : ∀ k, S k → base ≤ k ∧ k < w.heap.size := by
  rcases h with ⟨_, h⟩ | ⟨_, _, _, h⟩
  · exact h.sb
  · exact h
theorem LX.keep (h : LX base w d l lim bs S) (hk : ∀ k, S k → w'.heap[k]? = w.heap[k]?) (hz : w.heap.size ≤ w'.heap.size) : LX base w' d l lim bs S := by
  rcases h with ⟨h1, h⟩ | ⟨h1, ⟨lf, h2⟩, h3, h4⟩
  · exact .inl ⟨h1, h.keep hk hz⟩
  · exact .inr ⟨h1, ⟨lf, (hk d h3).trans h2⟩, h3, fun k e => ⟨(h4 k e).1, Nat.lt_of_lt_of_le (h4 k e).2 hz⟩⟩
theorem LX.old (h : LX base w d l lim bs S) (hb : Below w.heap.size w w') : LX base w' d l lim bs S := h.keep (fun k hk => hb.block k (h.sb k hk).2) hb.size
theorem LX.k2 (h : LX base w d l lim bs S) : (lzX l lim bs).k = 2 ↔ (lzX l lim bs).er ≠ 0 := by
  rcases h with ⟨h1, h⟩ | ⟨h1, -⟩
  · obtain ⟨B, r, g, hle⟩ := h.le
    exact hle.cells.2.2.2
  · rw [lzX_no h1]; decide
theorem LX.clE (h : LX base w d l lim bs S) : clE (lzX l lim bs) = (lzX l lim bs).er := by
  have h2 := h.k2
  have h3 : (lzX l lim bs).er ≠ 2 := by
    by_cases hl : 2 ≤ l ∧ l ≤ 8
    · rw [lzX_yes hl]; exact lzO_er (by omega) _ _
    · rw [lzX_no hl]; decide
  unfold Go.Proofs.Ytcbmlioeeoghkaa.clE
  by_cases hk : (lzX l lim bs).k = 0
  · rw [if_pos hk, if_pos rfl]
    have : ¬ (lzX l lim bs).k = 2 := by omega
    have : ¬ (lzX l lim bs).er ≠ 0 := fun e => this (h2.2 e)
    omega
  · rw [if_neg hk, if_neg h3]
theorem LX.err (h : LX base w d l lim bs S) (he : (lzX l lim bs).er ≠ 0) (m : List Int) : lzX l lim (bs ++ m) = lzX l lim bs := by
  by_cases hl : 2 ≤ l ∧ l ≤ 8
  · have := h.k2.2 he
    rw [lzX_yes hl] at this ⊢
    rw [lzX_yes hl]
    exact lzO_err (by omega) _ _ _ this
  · rw [lzX_no hl, lzX_no hl]
end
theorem lxnew (l lim : Int) (hlim : lim ≤ 9223372036854775807) (w : World) : Calls Try.prog 10 #[.int .i64 l, .int .i64 lim] w fun e w' => ∃ S, e = .returned (.pointer (some ⟨w.heap.size, 0, none⟩)) ∧ LX w.heap.size w' w.heap.size l lim [] S ∧ Below w.heap.size w w' := by
  by_cases hl : 2 ≤ l ∧ l ≤ 8
  · obtain ⟨L, rfl⟩ : ∃ L : Nat, l = (L : Int) := ⟨l.toNat, by omega⟩
    have hL : 2 ≤ L ∧ L ≤ 8 := by omega
    refine (lnew_yes hL lim hlim w).mono ?_
    rintro e w1 ⟨S, rfl, hd, hb⟩
    refine ⟨S, rfl, .inl ⟨hl, ?_⟩, hb⟩
    rw [lzX_yes hl, lzO_nil (by omega)]
    exact hd
  · refine (lnew_no l hl lim w).mono ?_
    rintro e w1 ⟨rfl, hd, hb⟩
    refine ⟨fun k => k = w.heap.size, rfl, .inr ⟨hl, hd, rfl, fun k hk => ?_⟩, hb⟩
    subst hk
    obtain ⟨lf, h⟩ := hd
    exact ⟨Nat.le_refl _, lt_of_block h⟩
def LxPost (base : Nat) (w : World) (d : Nat) (l lim : Int) (bs zs : List Int) (S : Nat → Prop) (e : Ending) (w' : World) : Prop :=
  ∃ S' T tv tg, e = .returned (.tuple #[tv, .int .i64 (lzX l lim (bs ++ zs)).er]) ∧ (lzX l lim (bs ++ zs)).out = (lzX l lim bs).out ++ T ∧ LX base w' d l lim (bs ++ zs) S' ∧ Sl w' 5 tv tg (vals T) ∧ (∀ k, tg = some k → w.heap.size ≤ k ∧ ¬ S' k) ∧ (∀ k, S' k → S k ∨ w.heap.size ≤ k) ∧ LFr S w w'
section
variable {base : Nat} {w : World} {d : Nat} {l lim : Int} {bs : List Int} {S : Nat → Prop}
theorem lxpush (h : LX base w d l lim bs S) (zs : List Int) (a : Option Addr) (m c : Nat) (hm : zs.length = m) (hc : a = none → c = 0) (hrow : Row w a zs) (hby : Bytes zs) (hsm : bs.length + m ≤ 900000) : Calls Try.prog 11 #[.pointer (some ⟨d, 0, none⟩), .slice a m c] w fun e w' => LxPost base w d l lim bs zs S e w' := by
  rcases h with ⟨h1, h⟩ | ⟨h1, h2, h3, h4⟩
  · obtain ⟨L, rfl⟩ : ∃ L : Nat, l = (L : Int) := ⟨l.toNat, by omega⟩
    have hL : 2 ≤ L ∧ L ≤ 8 := by omega
    have e := lzX_yes (lim := lim) (bs := bs) h1
    have e2 := lzX_yes (lim := lim) (bs := bs ++ zs) h1
    rw [Int.toNat_natCast] at h e e2
    rw [e] at h
    refine (lpush_any hL h zs a m c hm hc hrow hby (fun h0 => ?_) (fun _ => ?_)).mono ?_
    · have := lzO_zs hL.2 lim.toNat bs h0; omega
    · have := lzO_rest hL.2 lim.toNat bs; omega
    · rintro e9 w2 ⟨z', S', T, tv, tg, rfl, hz', hT, hm2, hs2, hg2, hS2, hf2⟩
      rw [lzO_more hL.2] at hz'
      subst hz'
      refine ⟨S', T, tv, tg, by rw [e2], by rw [e2, e]; exact hT, .inl ⟨h1, by rw [e2, Int.toNat_natCast]; exact hm2⟩, hs2, hg2, hS2, hf2⟩
  · refine (lpush_bad h2 h1 _).mono ?_
    rintro e w2 ⟨rfl, rfl⟩
    refine ⟨S, [], .slice none 0 0, none, by rw [lzX_no h1]; rfl, by rw [lzX_no h1, lzX_no h1]; rfl, .inr ⟨h1, h2, h3, h4⟩, Sl.nil _ _, (fun k hk => by cases hk), fun k hk => .inl hk, LFr.refl _ _⟩
theorem lxdone (h : LX base w d l lim bs S) : Calls Try.prog 15 #[.pointer (some ⟨d, 0, none⟩)] w fun e w' => e = .returned (.bool ((lzX l lim bs).k == 1)) ∧ w' = w := by
  rcases h with ⟨h1, h⟩ | ⟨h1, h2, h3, h4⟩
  · exact ldone_any h
  · rw [lzX_no h1]; exact ldone_bad h2
theorem lxrest (h : LX base w d l lim bs S) (hb : bs.length ≤ 900000) : Calls Try.prog 16 #[.pointer (some ⟨d, 0, none⟩)] w fun e w' => LrPost w (lzX l lim bs).rest e w' := by
  rcases h with ⟨h1, h⟩ | ⟨h1, h2, h3, h4⟩
  · exact lrest_any h (by have := lzX_rest l lim bs; omega)
  · rw [lzX_no h1]; exact lrest_bad h2
end
set_option maxHeartbeats 1600000 in
set_option maxRecDepth 100000 in
theorem rof9_bad {l : Int} (hl : ¬ (2 ≤ l ∧ l ≤ 8)) (v : Value) (lim : Int) (w : World) : Calls Try.prog 12 #[v, .int .i64 l, .int .i64 lim] w fun e w' => OfP w lzB0 e w' := by
  obtain ⟨w9, hw9⟩ : ∃ w9, w.alloc (.cells #[.slice none 0 0, .slice none 0 0, .int .i64 1, .bool false] 30) = w9 := ⟨_, rfl⟩
  have HP : OfP w lzB0 (.returned (.agg #[.slice none 0 0, .slice none 0 0, .int .i64 1, .bool false])) w9 := ⟨none, 0, none, 0, rfl, .inl rfl, .inl rfl, Nat.zero_le _, by decide, fun _ => rfl, by rw [← hw9]; exact (Below.refl _ _).alloc (Nat.le_refl _) _⟩
  have hr : RC9 w9 w.heap.size (.slice none 0 0) (.slice none 0 0) 1 false := by rw [← hw9]; exact heap_alloc_new _ _
  have HH : Hid (OfP w lzB0 (.returned (.agg #[.slice none 0 0, .slice none 0 0, .int .i64 1, .bool false])) w9 ∧ RC9 w9 w.heap.size (.slice none 0 0) (.slice none 0 0) 1 false ∧ w.alloc (.cells #[.slice none 0 0, .slice none 0 0, .int .i64 1, .bool false] 30) = w9) := ⟨HP, hr, hw9⟩
  clear HP hr hw9
  rcases (show l < 2 ∨ (¬ l < 2 ∧ 8 < l) by omega) with h | ⟨h, h2⟩
  all_goals
    clear hl
    go_enter Try.func12, Try.ntmps12
    go_wp2
    rw [HH.out.2.2]
    obtain ⟨z0, z1, z2, z3, zf⟩ := HH.out.2.1.cells
    refine bodyPost_ret (v := .agg #[.slice none 0 0, .slice none 0 0, .int .i64 1, .bool false]) ?_ rfl HH.out.1
    rw [results_cell9 rfl]
    go_simp
/-- The document's Of, of all least bits. -/
def LOf : Prop := ∀ (a : Option Addr) (n cap : Nat) (zs : List Int) (l lim : Int) (w : World), zs.length = n → n ≤ 30000 → Bytes zs → Row w a zs → lim ≤ 9223372036854775807 →
  Calls Try.prog 12 #[.slice a n cap, .int .i64 l, .int .i64 lim] w fun e w' => OfP w (lzX l lim zs) e w'
end Go.Proofs.Ytcbmlioeeoghkaa
/- LZW: bytes in pieces, and what the document says of them. -/
namespace Go.Proofs.Ytcbmlioeeoghkaa
open Go.RowKit
theorem lclear_any (E : Int) (w : World) : Calls Try.prog 13 #[.int .i64 E] w fun e w' => e = .returned (.int .i64 (if E = 2 then 0 else E)) ∧ w' = w := by
  by_cases h : E = 2
  · subst h
    go_enter Try.func13, Try.ntmps13
    go_wp2
    go_ret
    exact ⟨rfl, rfl⟩
  · have hb : (E == 2) = false := by simpa using h
    rw [if_neg h]
    go_enter Try.func13, Try.ntmps13
    go_wp2
    go_ret
    exact ⟨rfl, rfl⟩
theorem Row.takeN {w : World} {a : Option Addr} {l : List Int} (h : Row w a l) (k : Nat) : Row w a (l.take k) := h.take k
theorem LFr.set {g : Nat} {w w' : World} (h : LFr (fun k => some g = some k) w w') (i : Nat) (v : Value) : LFr (fun k => some g = some k) w (w'.setCell ⟨g, i, none⟩ v) :=
  ⟨h.os, h.tape, h.output, by simpa [World.setCell] using h.size, fun k hk hn => (Below.heap_setCell _ _ _ _ (fun (e : k = g) => hn (by rw [e]))).trans (h.block k hk hn)⟩
/-- Between two pieces. -/
def LxRel (w : World) (base d : Nat) (l lim : Int) (bs : List Int) (A T : Nat) (bad : Bool) (wr : World) : Prop :=
  ∃ S, A ≤ bs.length ∧ LX base wr d l lim (bs.take A) S ∧ T = (lzX l lim (bs.take A)).out.length ∧ (bad = true → (lzX l lim (bs.take A)).er ≠ 0) ∧ Below w.heap.size w wr ∧ base ≤ wr.heap.size
set_option maxHeartbeats 6400000 in
set_option maxRecDepth 20000 in
theorem lreads_walk (hof : LOf) (a1 : Option Addr) (len1 cap1 : Nat) (a2 : Option Addr) (len2 cap2 : Nat) (l x : Int) (w : World) (ha1 : BArg w a1 len1 cap1) (ha2 : BArg w a2 len2 cap2) (_wl : (Lit.int .i64 l).wf = true) (wx : (Lit.int .i64 x).wf = true) :
    Calls Try.prog 3 #[.slice a1 len1 cap1, .slice a2 len2 cap2, .int .i64 l, .int .i64 x] w fun e w' => e = .returned (.bool true) ∧ Below w.heap.size w w' := by
  have hx := bounds_i64 wx
  clear wx
  obtain ⟨bs, hbs, rfl, hn1, hc1, hc10, hr1⟩ := ha1
  obtain ⟨cs, hcs, rfl, hn2, hc2, hc20, hr2⟩ := ha2
  have HA : Hid (Bytes bs ∧ Row w a1 bs ∧ (a1 = none → cap1 = 0) ∧ LOf ∧ Bytes cs ∧ Row w a2 cs) := ⟨hbs, hr1, hc10, hof, hcs, hr2⟩
  clear hbs hr1 hc10 hcs hr2 hc20 hof
  by_cases hbig : 400 < (bs.length : Int)
  · go_enter Try.func3, Try.ntmps3
    go_wp2_with (go_at_call 9; refine (lfixed_any _).mono ?_; rintro e w1 ⟨rfl, hbel⟩)
    go_ret
    exact ⟨rfl, hbel⟩
  by_cases hbig2 : 6 < (cs.length : Int)
  · go_enter Try.func3, Try.ntmps3
    go_wp2_with (go_at_call 9; refine (lfixed_any _).mono ?_; rintro e w1 ⟨rfl, hbel⟩)
    go_ret
    exact ⟨rfl, hbel⟩
  go_enter Try.func3, Try.ntmps3
  go_wp2_with fail
  refine (lfixed_any _).mono ?_
  rintro e w1 ⟨rfl, b1⟩
  have HB1 : Hid (Below w.heap.size w w1) := b1
  clear b1
  have HNw := lxnew l x (by omega) w1
  go_wp2_with fail
  refine HNw.mono ?_
  rintro e w2 ⟨S0, rfl, hd, b2⟩
  obtain ⟨D, hD⟩ : ∃ D, w1.heap.size = D := ⟨_, rfl⟩
  rw [hD] at hd
  have HK : Hid (LxRel w D D l x bs 0 0 false w2 ∧ w.heap.size ≤ D) := by
    refine ⟨⟨S0, Nat.zero_le _, by rw [List.take_zero]; exact hd, by rw [List.take_zero, (lzX_nil l x).1]; rfl, (fun h => by cases h), HB1.out.trans (b2.mono HB1.out.size), by rw [← hD]; exact b2.size⟩, by rw [← hD]; exact HB1.out.size⟩
  clear HNw hd b2 HB1
  go_wp2
  clear hD
  go_loopg [10, 11, 12, 13, 14, 15, 16, 17, 18, 19] (cs.length + 1) (fun fu told att bad i _ _ _ _ _ _ wr => ∃ (A T t : Nat) (bb : Bool), told = .int .i64 T ∧ att = .int .i64 A ∧ bad = .bool bb ∧ i = .int .i64 t ∧ t ≤ cs.length + 1 ∧ fu = cs.length + 1 - t ∧ Hid (LxRel w D D l x bs A T bb wr))
  case atStart => exact ⟨0, 0, 0, false, rfl, rfl, rfl, rfl, Nat.zero_le _, rfl, HK.out.1⟩
  case round =>
    obtain ⟨A, T, t, bb, rfl, rfl, rfl, rfl, ht, hfu, HX⟩ := hrel
    have HDl : Hid (w.heap.size ≤ D) := HK.out.2
    clear HK
    by_cases htl : t ≤ cs.length
    · have htli : (t : Int) ≤ (cs.length : Int) := by omega
      have hA : A ≤ bs.length := by obtain ⟨r, h, _⟩ := HX.out; exact h
      obtain ⟨M, hM⟩ : ∃ M, bs.length - A = M := ⟨_, rfl⟩
      have hMi : (bs.length : Int) - (A : Int) = (M : Int) := by omega
      go_upto_if 46 with fail
      go_cut [14] (fun v wx => wr = wx ∧ ∃ N : Nat, v = .int .i64 N ∧ A + N ≤ bs.length)
      case first =>
        by_cases htc : t < cs.length
        · have htci : (t : Int) < (cs.length : Int) := by omega
          obtain ⟨b2, off2, ha2, hcell⟩ : ∃ b off, a2 = some ⟨b, off, none⟩ ∧ wr.cell? ⟨b, off + t, none⟩ = some (.int .u8 (cs[t]?.getD 0)) := by
            obtain ⟨r, _, _, _, _, hbel, _⟩ := HX.out
            rcases HA.out.2.2.2.2.2 with h | ⟨b, off, rfl, hc⟩
            · rw [h] at htc; simp at htc
            · refine ⟨b, off, rfl, ?_⟩
              rw [← hc t htc]
              exact hbel.cell (p := ⟨b, off + t, none⟩) (cell_lt (hc t htc))
          subst ha2
          have hcb := HA.out.2.2.2.2.1.at t
          obtain ⟨c, hcn⟩ : ∃ c : Nat, cs[t]?.getD 0 = (c : Int) := ⟨(cs[t]?.getD 0).toNat, by omega⟩
          rw [hcn] at hcell hcb
          clear HX hcn
          rcases Nat.lt_trichotomy M c with h | h | h
          · have hi : (M : Int) < (c : Int) := by omega
            have hi2 : ¬ (c : Int) < (M : Int) := by omega
            go_wp2
            go_meet
            exact ⟨rfl, M, rfl, by omega⟩
          · subst h
            go_wp2
            go_meet
            exact ⟨rfl, M, rfl, by omega⟩
          · have hi : (c : Int) < (M : Int) := by omega
            have hi2 : ¬ (M : Int) < (c : Int) := by omega
            go_wp2
            go_meet
            exact ⟨rfl, c, rfl, by omega⟩
        · have htci : ¬ (t : Int) < (cs.length : Int) := by omega
          clear HX
          go_wp2
          go_meet
          exact ⟨rfl, M, rfl, by omega⟩
      case rest =>
        obtain ⟨rfl, N, rfl, hAN⟩ := hcut
        obtain ⟨zs, hzs⟩ : ∃ zs, (bs.drop A).take N = zs := ⟨_, rfl⟩
        have hzl : zs.length = N := by rw [← hzs, List.length_take, List.length_drop]; omega
        have HZB : Hid (Bytes zs ∧ bs.take A ++ zs = bs.take (A + N)) := by
          rw [← hzs]
          exact ⟨fun z hz => HA.out.1 z (List.mem_of_mem_drop (List.mem_of_mem_take hz)), by rw [← List.take_add]⟩
        have HRz : Hid (Row wr (if cap1 = A then a1 else Option.map (fun x => x.add A) a1) zs) := by
          obtain ⟨r, _, _, _, _, hbel, _⟩ := HX.out
          have h := ((HA.out.2.1.old hbel).cut A cap1 hA hn1).takeN N
          rw [hzs] at h
          exact h
        clear hzs
        go_upto_region 14 with fail
        go_cut [0, 15, 22] (fun v0 v v22 wx => v0 = .slice a1 bs.length cap1 ∧ v22 = .slice a1 bs.length cap1 ∧ ∃ a' c', v = .slice a' N c' ∧ Hid (∃ g, Sl wx 5 (.slice a' N c') g (vals zs) ∧ (∀ k, g = some k → wr.heap.size ≤ k) ∧ Below wr.heap.size wr wx))
        case first =>
          have hANi : (A : Int) + (N : Int) ≤ (bs.length : Int) := by omega
          have hANc : (A : Int) + (N : Int) ≤ (cap1 : Int) := by omega
          have hNc : A + N ≤ cap1 := by omega
          by_cases hca : cap1 = A
          · rw [if_pos hca] at HRz
            obtain rfl : N = 0 := by omega
            have hA0 : cap1 - A = 0 := by omega
            clear HX
            go_wp2_with (at_builtin; refine wpList_copy rfl _ _ rfl a1 0 0 zs rfl rfl (fun _ => rfl) hzl HRz.out (by omega) ?_)
            intro a' c' w' g' h1 h2 h3
            have HP : Hid _ := (⟨g', h1, h2, h3⟩ : ∃ g, Sl w' 5 (.slice a' 0 c') g (vals zs) ∧ (∀ k, g = some k → wr.heap.size ≤ k) ∧ Below wr.heap.size wr w')
            clear h1 h2 h3
            go_wp2
            go_meet
            exact ⟨by rw [hca], by rw [hca], a', c', rfl, HP.out⟩
          · rw [if_neg hca] at HRz
            have hmn : Option.map (fun x : Addr => x.add A) a1 = none → cap1 - A = 0 := by
              intro h
              cases a1 with
              | none => have := HA.out.2.2.1 rfl; omega
              | some q => cases h
            have HMN : Hid (Option.map (fun x : Addr => x.add A) a1 = none → cap1 - A = 0) := hmn
            clear HX hmn
            go_wp2_with (at_builtin; refine wpList_copy rfl _ _ rfl (Option.map (fun x => x.add A) a1) (A + N - A) (cap1 - A) zs rfl rfl HMN.out (by omega) HRz.out (by omega) ?_)
            intro a' c' w' g' h1 h2 h3
            have hANA : A + N - A = N := by omega
            try rw [hANA] at h1
            try rw [hANA]
            clear hANA
            have HP : Hid _ := (⟨g', h1, h2, h3⟩ : ∃ g, Sl w' 5 (.slice a' N c') g (vals zs) ∧ (∀ k, g = some k → wr.heap.size ≤ k) ∧ Below wr.heap.size wr w')
            clear h1 h2 h3
            go_wp2
            go_meet
            exact ⟨rfl, rfl, a', c', rfl, HP.out⟩
        case rest =>
          obtain ⟨rfl, rfl, ay, cy, rfl, HY⟩ := hcut
          obtain ⟨g, hsl, hgf, hbw⟩ := HY.out
          obtain ⟨r, _, hd, hT, hbad, hbel, hbase⟩ := HX.out
          have hdc := hd.old hbw
          obtain ⟨ayy, cyy, hvv, hle1, hle2, hle3⟩ := hsl.shape
          rw [vals_len, hzl] at hvv
          simp only [Value.slice.injEq] at hvv
          obtain ⟨rfl, _, rfl⟩ := hvv
          have hSw : ∀ k, r k → D ≤ k ∧ k < wr.heap.size := hd.sb
          have hgS : ∀ k, g = some k → ¬ r k := fun k hk hS => by have h1 := hgf k hk; have h2 := (hSw k hS).2; omega
          have HPu := lxpush hdc zs ay N cy hzl (fun e => hle3 e) (hsl.row rfl) HZB.out.1 (by rw [List.length_take]; omega)
          have HW : Hid (Sl wc 5 (.slice ay N cy) g (vals zs) ∧ (∀ k, g = some k → wr.heap.size ≤ k) ∧ Below w.heap.size w wc ∧ LX D wr D l x (bs.take A) r ∧ T = (lzX l x (bs.take A)).out.length ∧ (bb = true → (lzX l x (bs.take A)).er ≠ 0) ∧ D ≤ wr.heap.size ∧ w.heap.size ≤ wr.heap.size ∧ Below wr.heap.size wr wc ∧ (∀ k, g = some k → ¬ r k)) := ⟨hsl, hgf, hbel.trans (hbw.mono hbel.size), hd, hT, hbad, hbase, hbel.size, hbw, hgS⟩
          clear HY HX hsl hgf hbw hd hT hbad hbel hbase hdc hle1 hle2 hle3 HRz hSw hgS
          go_wp2_with fail
          refine HPu.mono ?_
          rintro e w4 ⟨S', TT, tv, tg, rfl, hT4, hd4, hsl4, htg, hS4, hst⟩
          rw [HZB.out.2] at hT4 hd4 ⊢
          obtain ⟨ax, cx, hv4, hq1, hq2, hq3⟩ := hsl4.shape
          obtain ⟨Q, hQ⟩ : ∃ Q, (vals TT).length = Q := ⟨_, rfl⟩
          rw [hQ] at hv4 hq1
          subst hv4
          obtain ⟨z', hz'⟩ : ∃ z', lzX l x (bs.take (A + N)) = z' := ⟨_, rfl⟩
          rw [hz'] at hT4 ⊢
          obtain ⟨ER, hER⟩ : ∃ ER, z'.er = ER := ⟨_, rfl⟩
          have hgw : ∀ k, g = some k → k < wc.heap.size := fun k hk => HW.out.1.lt hk
          have hslo : Sl w4 5 (.slice ay N cy) g (vals zs) := HW.out.1.same fun k hk => hst.block k (hgw k hk) (HW.out.2.2.2.2.2.2.2.2.2 k hk)
          have hSD : ∀ k, r k → D ≤ k := fun k hk => (HW.out.2.2.2.1.sb k hk).1
          have hbel4 : Below w.heap.size w w4 := by
            have hb := HW.out.2.2.1
            have hDl := HDl.out
            refine ⟨hst.os.trans hb.os, hst.tape.trans hb.tape, hst.output.trans hb.output, Nat.le_trans hb.size hst.size, fun k hk => (hst.block k (Nat.lt_of_lt_of_le hk hb.size) fun hS => ?_).trans (hb.block k hk)⟩
            have := hSD k hS
            omega
          have HI0 : Hid (∃ zs', zs'.length = N ∧ Sl w4 5 (.slice ay N cy) g (vals zs') ∧ LFr (fun k => g = some k) w4 w4) := ⟨zs, hzl, hslo, LFr.refl _ _⟩
          have htgg : ∀ k, tg = some k → g ≠ some k := fun k hk e => by
            have h1 := (htg k hk).1
            have h2 := HW.out.1.lt e
            omega
          have HP4 : Hid (∀ w5, LFr (fun k => g = some k) w4 w5 → LX D w5 D l x (bs.take (A + N)) S' ∧ Row w5 ax TT ∧ Below w.heap.size w w5 ∧ w4.heap.size ≤ w5.heap.size) := by
            intro w5 h5
            refine ⟨hd4.keep (fun k hk => h5.block k (hd4.sb k hk).2 (fun e => ?_)) h5.size, (hsl4.same fun k hk => h5.block k (hsl4.lt hk) (htgg k hk)).row rfl, ⟨h5.os.trans hbel4.os, h5.tape.trans hbel4.tape, h5.output.trans hbel4.output, Nat.le_trans hbel4.size h5.size, fun k hk => (h5.block k (by have := hbel4.size; omega) (fun e => ?_)).trans (hbel4.block k hk)⟩, h5.size⟩
            · rcases hS4 k hk with h | h
              · exact HW.out.2.2.2.2.2.2.2.2.2 k e h
              · have := hgw k e; omega
            · have h1 := HW.out.2.1 k e
              have h2 := HW.out.2.2.2.2.2.2.2.1
              omega
          have HQ : Hid (Q = TT.length ∧ z'.er = ER ∧ z'.out = (lzX l x (bs.take A)).out ++ TT ∧ D ≤ w4.heap.size ∧ lzX l x (bs.take (A + N)) = z') := ⟨by rw [← hQ, vals_len], hER, hT4, Nat.le_trans HW.out.2.2.2.2.2.2.1 (Nat.le_trans HW.out.2.2.2.2.2.2.2.2.1.size hst.size), hz'⟩
          rw [hER]
          have hQb : Q ≤ 9223372036854775807 := by unfold maxLen at hq2; omega
          clear HPu hd4 hT4 hsl4 htg hst hQ hER hslo hbel4 htgg hq1 hq2 hq3 hgw hSD hS4 hz'
          go_wp2
          go_loopg [18, 73] N (fun fu _ i wq => ∃ k : Nat, k ≤ N ∧ fu = N - k ∧ i = .int .i64 k ∧ Hid (∃ zs', zs'.length = N ∧ Sl wq 5 (.slice ay N cy) g (vals zs') ∧ LFr (fun k => g = some k) w4 wq))
          case atStart => exact ⟨0, Nat.zero_le _, rfl, rfl, HI0.out⟩
          case round =>
            clear HI0
            obtain ⟨k, hk, hfk, rfl, HZ⟩ := hrel
            by_cases hkN : k < N
            · have hkNi : (k : Int) < (N : Int) := by omega
              obtain ⟨zs', hz1, hz2, hz3⟩ := HZ.out
              obtain ⟨bq, offq, rfl, hcq⟩ : ∃ b off, ay = some ⟨b, off, none⟩ ∧ wr.cell? ⟨b, off + k, none⟩ = some (.int .u8 (zs'[k]?.getD 0)) := by
                rcases hz2.row rfl with h | ⟨b, off, rfl, hc⟩
                · rw [h] at hz1; simp at hz1; omega
                · exact ⟨b, off, rfl, hc k (by omega)⟩
              have hgq : g = some bq := by
                rcases hz2 with ⟨h, _⟩ | ⟨b', off', cap', cur, h, hg, _⟩
                · cases h
                · simp only [Value.slice.injEq, Option.some.injEq, Addr.mk.injEq] at h
                  rw [hg, h.1.1]
              have hfq : wr.frozen? ⟨bq, offq + k, none⟩ = false := by
                obtain ⟨c, e⟩ := Sl.tagB9 hz2 hgq
                simp [World.frozen?, e]
              obtain ⟨z, hz⟩ : ∃ z, zs'[k]?.getD 0 = z := ⟨_, rfl⟩
              rw [hz] at hcq
              have HN1 : Hid (∀ v : Int, ∃ zs', zs'.length = N ∧ Sl (wr.setCell ⟨bq, offq + k, none⟩ (.int .u8 v)) 5 (.slice (some ⟨bq, offq, none⟩) N cy) g (vals zs') ∧ LFr (fun k => g = some k) w4 (wr.setCell ⟨bq, offq + k, none⟩ (.int .u8 v))) := by
                intro v
                refine ⟨zs'.set k v, by simpa using hz1, by rw [vals_setC]; exact hz2.setAt k _, ?_⟩
                rw [hgq] at hz3 ⊢
                exact hz3.set _ _
              have hki : (0 : Int) ≤ (k : Int) := by omega
              clear HZ hz1 hz2 hz3 hgq hz
              go_wp2
              go_roundg (N - (k + 1))
              case rel => exact ⟨k + 1, by omega, rfl, by go_num, HN1.out _⟩
              case measure => omega
            · obtain rfl : N = k := by omega
              have hkNi : ¬ (N : Int) < (N : Int) := by omega
              obtain ⟨zs', -, -, hon⟩ := HZ.out
              obtain ⟨hd5, hrow5, hbel5, hsz5⟩ := HP4.out wr hon
              obtain ⟨AN, hANe⟩ : ∃ AN, A + N = AN := ⟨_, rfl⟩
              have hANi : (A : Int) + (N : Int) = (AN : Int) := by omega
              rw [hANe] at hd5
              have hANl : (AN : Int) ≤ (bs.length : Int) ∧ (AN : Int) ≤ (cap1 : Int) ∧ (0 : Int) ≤ (AN : Int) := by omega
              have HOf := HA.out.2.2.2.1 a1 AN cap1 (bs.take AN) l x wr (by rw [List.length_take]; omega) (by omega) (fun z hz => HA.out.1 z (List.mem_of_mem_take hz)) ((HA.out.2.1.old hbel5).takeN AN) (by omega)
              have H5 : Hid (LX D wr D l x (bs.take AN) S' ∧ Row wr ax TT ∧ Below w.heap.size w wr ∧ D ≤ wr.heap.size) := ⟨hd5, hrow5, hbel5, Nat.le_trans HQ.out.2.2.2.1 hsz5⟩
              have HAN : Hid (AN ≤ bs.length) := (by omega : AN ≤ bs.length)
              have HANe : Hid (A + N = AN) := hANe
              have hzn := HQ.out.2.2.2.2
              rw [hANe] at hzn
              rw [hzn] at HOf
              have HZN : Hid (lzX l x (bs.take AN) = z') := hzn
              obtain ⟨E, hE⟩ : ∃ E, (if z'.k = 0 then 2 else z'.er) = E := ⟨_, rfl⟩
              obtain ⟨dn, hdn⟩ : ∃ dn, (z'.k == 1) = dn := ⟨_, rfl⟩
              have hcl := hd5.clE
              rw [hzn, HQ.out.2.1] at hcl
              unfold clE at hcl
              rw [hE] at hcl
              have HDN : Hid ((z'.k == 1) = dn) := hdn
              obtain ⟨OL, hOL⟩ : ∃ OL, z'.out.length = OL := ⟨_, rfl⟩
              obtain ⟨RL, hRL⟩ : ∃ RL, z'.rest.length = RL := ⟨_, rfl⟩
              unfold OfP at HOf
              rw [hE, hdn, hOL, hRL] at HOf
              have HOL : Hid (z'.out.length = OL ∧ z'.rest.length = RL) := ⟨hOL, hRL⟩
              clear HZ hon hd5 hrow5 hbel5 hsz5 HP4 hANe hzn hE hdn hOL hRL
              go_upto_region 23 with (go_at_call 12; refine HOf.mono ?_; rintro e w6 ⟨ao, co, ar, cr, rfl, hro, hrr, hco1, hco2, hco3, hbe6⟩; have H6' : Hid _ := (⟨hro, hrr, hbe6⟩ : Row w6 ao z'.out ∧ Row w6 ar z'.rest ∧ Below wr.heap.size wr w6); clear hro hrr hbe6 hco3)
              obtain ⟨W7, hW7⟩ : ∃ W7, w6.alloc (.cells #[.slice ao OL co, .slice ar RL cr, .int .i64 E, .bool dn] 30) = W7 := ⟨_, rfl⟩
              have hz7 : RC9 W7 w6.heap.size (.slice ao OL co) (.slice ar RL cr) E dn := by rw [← hW7]; exact heap_alloc_new w6 _
              have hb67 : Below w6.heap.size w6 W7 := by rw [← hW7]; exact (Below.refl _ w6).alloc (Nat.le_refl _) _
              rw [hW7]
              have hb57 : Below wr.heap.size wr W7 := H6'.out.2.2.trans (hb67.mono H6'.out.2.2.size)
              obtain ⟨R, hR⟩ : ∃ R, w6.heap.size = R := ⟨_, rfl⟩
              rw [hR] at hz7
              rw [hR]
              obtain ⟨k0, k1, k2, k3, kf⟩ := hz7.cells
              have HCl := lclear_any E W7
              rw [hcl] at HCl
              have H6 : Hid (LX D W7 D l x (bs.take AN) S' ∧ Row W7 ax TT ∧ Row W7 ao z'.out ∧ Row W7 ar z'.rest ∧ Below w.heap.size w W7 ∧ D ≤ W7.heap.size ∧ RC9 W7 R (.slice ao OL co) (.slice ar RL cr) E dn) := ⟨H5.out.1.old hb57, H5.out.2.1.old hb57, H6'.out.1.old hb67, H6'.out.2.1.old hb67, H5.out.2.2.1.trans (hb57.mono H5.out.2.2.1.size), Nat.le_trans H5.out.2.2.2 hb57.size, hz7⟩
              have HE2 : Hid ((if E = 2 then 0 else E) = ER) := hcl
              have hcc : (ER != ER) = false := by simp
              clear HOf H5 H6' hcl hz7 hb67 hb57 hW7 hR
              cases bb with
              | true =>
                have hrr : lzX l x (bs.take AN) = lzX l x (bs.take A) := by
                  have h1 := HW.out.2.2.2.1.err (HW.out.2.2.2.2.2.1 rfl) zs
                  rw [HZB.out.2, HANe.out] at h1
                  exact h1
                have hTT : TT = [] := by
                  have := HQ.out.2.2.1
                  rw [← HZN.out, hrr] at this
                  exact List.append_cancel_left (by rw [List.append_nil]; exact this.symm)
                obtain rfl : Q = 0 := by rw [HQ.out.1, hTT]; rfl
                have HF : Hid (LxRel w D D l x bs AN T true W7) := ⟨S', HAN.out, H6.out.1, by rw [hrr]; exact HW.out.2.2.2.2.1, by rw [hrr]; exact HW.out.2.2.2.2.2.1, H6.out.2.2.2.2.1, H6.out.2.2.2.2.2.1⟩
                clear hrr hTT H6 HE2 HW HQ HZB
                go_wp2_with fail
                refine HCl.mono ?_
                rintro e w7 ⟨rfl, hw7⟩
                rw [hw7]
                clear hw7 HCl
                go_wp2
                go_roundg (cs.length + 1 - (t + 1))
                case rel => exact ⟨AN, T, t + 1, true, rfl, rfl, rfl, by go_num, by omega, rfl, HF.out⟩
                case measure => omega
              | false =>
                have hTr := HW.out.2.2.2.2.1
                have hz9 := HQ.out.2.2.1
                have hO9 := HOL.out.1
                have hTP : T ≤ OL := by
                  rw [hTr, ← hO9, hz9, List.length_append]; omega
                obtain rfl : Q = OL - T := by rw [HQ.out.1, hTr, ← hO9, hz9, List.length_append]; omega
                have hdr : TT = z'.out.drop T := by rw [hz9, hTr, List.drop_left]
                have hTPi : (T : Int) ≤ (OL : Int) := by omega
                have hTP2 : decide (OL < T) = false := by simp; omega
                have hTP3 : ¬ (OL : Int) < (T : Int) := by omega
                have hPP : ((OL : Int) != (OL : Int)) = false := by simp
                have hdd : (dn != dn) = false := by simp
                have hPc : (OL : Int) ≤ (co : Int) := by omega
                have hco1' : z'.out.length ≤ co := by rw [HOL.out.1]; exact hco1
                have HF : Hid (∀ w9, Below W7.heap.size W7 w9 → LxRel w D D l x bs AN OL (ER != 0) w9) := by
                  intro w9 h9
                  exact ⟨S', HAN.out, H6.out.1.old h9, by rw [HZN.out]; exact HOL.out.1.symm, fun h => by rw [HZN.out, HQ.out.2.1]; simpa using h, H6.out.2.2.2.2.1.trans (h9.mono H6.out.2.2.2.2.1.size), Nat.le_trans H6.out.2.2.2.2.2.1 h9.size⟩
                have HCr : Hid (∀ u, Calls Try.prog 13 #[.int .i64 E] u fun e w' => e = .returned (.int .i64 ER) ∧ w' = u) := fun u => by
                  have := lclear_any E u
                  rw [HE2.out] at this
                  exact this
                have HDn : Hid (Calls Try.prog 15 #[.pointer (some ⟨D, 0, none⟩)] W7.drew fun e w' => e = .returned (.bool dn) ∧ w' = W7.drew) := by
                  have := lxdone (H6.out.1.old (w' := W7.drew) ⟨rfl, rfl, rfl, Nat.le_refl _, fun _ _ => rfl⟩)
                  rw [HZN.out, HDN.out] at this
                  exact this
                have HRs : Hid (Calls Try.prog 16 #[.pointer (some ⟨D, 0, none⟩)] W7.drew fun e w7 => ∃ au cu, e = .returned (.slice au RL cu) ∧ Hid (Row w7 au z'.rest ∧ Row w7 ar z'.rest ∧ Below W7.heap.size W7 w7) ∧ w7.cell? ⟨R, 0, none⟩ = some (.slice ao OL co) ∧ w7.cell? ⟨R, 1, none⟩ = some (.slice ar RL cr) ∧ w7.cell? ⟨R, 2, none⟩ = some (.int .i64 E) ∧ w7.cell? ⟨R, 3, none⟩ = some (.bool dn)) := by
                  refine (lxrest (H6.out.1.old (w' := W7.drew) ⟨rfl, rfl, rfl, Nat.le_refl _, fun _ _ => rfl⟩) (by rw [List.length_take]; omega)).mono ?_
                  rintro e w7 ⟨v, g7, rfl, hs, hg, h3⟩
                  have hb : Below W7.heap.size W7 w7 := ⟨h3.os, h3.tape, h3.output, h3.size, h3.block⟩
                  rw [HZN.out] at hs
                  obtain ⟨au, cu, hv, -⟩ := hs.shape
                  rw [vals_len, HOL.out.2] at hv
                  obtain ⟨e0, e1, e2, e3, _⟩ := (show RC9 w7 R _ _ _ _ from (hb.block _ (lt_of_block H6.out.2.2.2.2.2.2)).trans H6.out.2.2.2.2.2.2).cells
                  exact ⟨au, cu, by rw [hv], ⟨hs.row hv, H6.out.2.2.2.1.old hb, hb⟩, e0, e1, e2, e3⟩
                have HS1 : Hid (Calls Try.prog 14 #[.slice ax (OL - T) cx, .slice (if co = T then ao else Option.map (fun x => x.add T) ao) (OL - T) (co - T)] W7.drew fun e w' => e = .returned (.bool true) ∧ w' = W7.drew) := by
                  have h1 := H6.out.2.1
                  rw [hdr] at h1
                  exact same_any ax _ (OL - T) cx (co - T) (z'.out.drop T) W7.drew (by rw [List.length_drop, HOL.out.1]) h1 (H6.out.2.2.1.cut T co (by rw [HOL.out.1]; exact hTP) hco1' )
                have HRL : Hid (z'.rest.length = RL) := HOL.out.2
                clear H6 HE2 HW HQ HZB HCl hdr hTr hz9 hO9 HOL hco1'
                by_cases hcT : co = T
                · obtain rfl : OL = T := by omega
                  obtain rfl : co = OL := hcT
                  rw [if_pos rfl] at HS1
                  simp only [Nat.sub_self] at HS1
                  go_wp2
                  go_region_held3 (fun u => u.cell? ⟨R, 0, none⟩ = some (.slice ao co co) ∧ u.cell? ⟨R, 1, none⟩ = some (.slice ar RL cr) ∧ u.cell? ⟨R, 2, none⟩ = some (.int .i64 E) ∧ u.cell? ⟨R, 3, none⟩ = some (.bool dn)) (first | go_keep | exact ⟨by assumption, by assumption, by assumption, by assumption⟩) (first
                    | (go_at_call 13; refine Calls.mono (HCr.out _) ?_; rintro e w7 ⟨rfl, hw7⟩; subst hw7)
                    | (go_at_call 15; refine Calls.mono HDn.out ?_; rintro e w7 ⟨rfl, hw7⟩; subst hw7)
                    | (go_at_call 16; refine Calls.mono HRs.out ?_; rintro e w7 ⟨au, cu, rfl, hq7, hc7a, hc7b, hc7c, hc7d⟩)
                    | (go_at_call 14; refine Calls.mono (same_any au ar RL cu cr z'.rest _ HRL.out hq7.out.1 hq7.out.2.1) ?_; rintro e w9 ⟨rfl, hw9⟩; subst hw9)
                    | (go_at_call 14; refine Calls.mono HS1.out ?_; rintro e w7 ⟨rfl, hw7⟩; subst hw7)
                    | fail)
                  have HFF : Hid _ := HF.out _ hq7.out.2.2
                  clear hq7 hc7a hc7b hc7c hc7d HF HCr HDn HRs HS1
                  go_wp2
                  go_roundg (cs.length + 1 - (t + 1))
                  case rel => exact ⟨AN, co, t + 1, (ER != 0), rfl, rfl, rfl, by go_num, by omega, rfl, HFF.out⟩
                  case measure => omega
                · have hcTi : ¬ (co : Int) = (T : Int) := by omega
                  rw [if_neg hcT] at HS1
                  go_wp2
                  go_region_held3 (fun u => u.cell? ⟨R, 0, none⟩ = some (.slice ao OL co) ∧ u.cell? ⟨R, 1, none⟩ = some (.slice ar RL cr) ∧ u.cell? ⟨R, 2, none⟩ = some (.int .i64 E) ∧ u.cell? ⟨R, 3, none⟩ = some (.bool dn)) (first | go_keep | exact ⟨by assumption, by assumption, by assumption, by assumption⟩) (first
                    | (go_at_call 13; refine Calls.mono (HCr.out _) ?_; rintro e w7 ⟨rfl, hw7⟩; subst hw7)
                    | (go_at_call 15; refine Calls.mono HDn.out ?_; rintro e w7 ⟨rfl, hw7⟩; subst hw7)
                    | (go_at_call 16; refine Calls.mono HRs.out ?_; rintro e w7 ⟨au, cu, rfl, hq7, hc7a, hc7b, hc7c, hc7d⟩)
                    | (go_at_call 14; refine Calls.mono (same_any au ar RL cu cr z'.rest _ HRL.out hq7.out.1 hq7.out.2.1) ?_; rintro e w9 ⟨rfl, hw9⟩; subst hw9)
                    | (go_at_call 14; refine Calls.mono HS1.out ?_; rintro e w7 ⟨rfl, hw7⟩; subst hw7)
                    | fail)
                  have HFF : Hid _ := HF.out _ hq7.out.2.2
                  clear hq7 hc7a hc7b hc7c hc7d HF HCr HDn HRs HS1
                  go_wp2
                  go_roundg (cs.length + 1 - (t + 1))
                  case rel => exact ⟨AN, OL, t + 1, (ER != 0), rfl, rfl, rfl, by go_num, by omega, rfl, HFF.out⟩
                  case measure => omega
    · have htli : ¬ (t : Int) ≤ (cs.length : Int) := by omega
      have HP : Hid (Below w.heap.size w wr) := by obtain ⟨r, _, _, _, _, h, _⟩ := HX.out; exact h
      clear HX
      go_wp2
      go_ret
      exact ⟨rfl, HP.out⟩
end Go.Proofs.Ytcbmlioeeoghkaa
/- LZW: the document's Of, of all least bits. -/
namespace Go.Proofs.Ytcbmlioeeoghkaa
open Go.RowKit
theorem lof_all : LOf := by
  intro a n cap zs l lim w hn hn3 hby hrow hlim
  by_cases hl : 2 ≤ l ∧ l ≤ 8
  · obtain ⟨L, rfl⟩ : ∃ L : Nat, l = (L : Int) := ⟨l.toNat, by omega⟩
    rw [lzX_yes hl, Int.toNat_natCast]
    exact rof9_try (by omega) hn hn3 hby hrow hlim
  · rw [lzX_no hl]
    exact rof9_bad hl _ lim w
end Go.Proofs.Ytcbmlioeeoghkaa
/- LZW: LzwReads, whole. -/
namespace Go.Proofs.Ytcbmlioeeoghkaa
open Go.RowKit
theorem lreads_all (a1 : Option Addr) (len1 cap1 : Nat) (a2 : Option Addr) (len2 cap2 : Nat) (l x : Int) (w : World) (ha1 : BArg w a1 len1 cap1) (ha2 : BArg w a2 len2 cap2) (wl : (Lit.int .i64 l).wf = true) (wx : (Lit.int .i64 x).wf = true) :
    Calls Try.prog 3 #[.slice a1 len1 cap1, .slice a2 len2 cap2, .int .i64 l, .int .i64 x] w fun e w' => e = .returned (.bool true) ∧ Below w.heap.size w w' :=
  lreads_walk lof_all a1 len1 cap1 a2 len2 cap2 l x w ha1 ha2 wl wx
end Go.Proofs.Ytcbmlioeeoghkaa
