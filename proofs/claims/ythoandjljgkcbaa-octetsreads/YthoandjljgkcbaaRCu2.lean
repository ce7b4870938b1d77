import Derived.Test.YthoandjljgkcbaaRCu
import Derived.Deep.Slices
import Derived.Deep.RegionHeld3
namespace Go.Proofs.Ythoandjljgkcbaa
open Go.RowKit Go.ChangeShapes Go.WideShapes

theorem byt_num {zs : List Int} {err n : Int} (hn : ¬ (n < 1 ∨ 4 < n)) : bytL zs n = numL zs n ∧ bytZ zs err n = numZ zs err n ∧ bytE zs err n = numE zs err n := by
  have h0 : ¬ n < 0 := by omega
  unfold bytL bytZ bytE numL numZ numE
  rw [if_neg h0, if_neg h0, if_neg h0, if_neg hn, if_neg hn, if_neg hn]
  exact ⟨rfl, rfl, rfl⟩
theorem byt_bad {zs : List Int} {err n : Int} (hi : Inv zs err) (hn : n < 1 ∨ 4 < n) : bytL (failZ zs err 1) n = numL zs n ∧ bytZ (failZ zs err 1) (failE err 1) n = numZ zs err n ∧ bytE (failZ zs err 1) (failE err 1) n = numE zs err n := by
  have he : failE err 1 ≠ 0 := by
    unfold failE
    by_cases c : err ≠ 0 ∨ (1 : Int) = 0
    · rw [if_pos c]; omega
    · rw [if_neg c]; omega
  have hb := byt_failed (n := n) (inv_fail (x := 1) hi) he
  unfold numL numZ numE
  rw [if_pos hn, if_pos hn, if_pos hn]
  exact hb
def RNumPost (w : World) (c : Nat) (v : Int) (zs : List Int) (err : Int) (e : Ending) (w' : World) : Prop :=
  e = .returned (.int .i64 v) ∧ RCur w' c zs err ∧ w.grownBy w' (some c)

set_option maxHeartbeats 800000 in
theorem rbig_any (c : Nat) (zs : List Int) (err n : Int) (w : World) (h : RCur w c zs err) (hi : Inv zs err) (hb : Bytes zs) (hl : zs.length ≤ 140737488351232) :
    Calls Try.prog 21 #[.pointer (some ⟨c, 0, none⟩), .int .i64 n] w fun e w' => RNumPost w c (bigN (numL zs n)) (numZ zs err n) (numE zs err n) e w' := by
  have HB : Hid (Bytes (numL zs n) ∧ (numL zs n).length ≤ 4) := ⟨numL_bytes hb n, numL_len zs n⟩
  by_cases hn : n < 1 ∨ 4 < n
  · have F := rfail_any c zs err 1 w h
    have C : ∀ w1, RCur w1 c (failZ zs err 1) (failE err 1) → Calls Try.prog 25 #[.pointer (some ⟨c, 0, none⟩), .int .i64 n] w1 fun e w' => RBytesPost w1 c (numL zs n) (numZ zs err n) (numE zs err n) e w' := by
      intro w1 h1
      have := rbytes_any c _ _ n w1 h1 (inv_fail hi) (by unfold failZ; split; exact hl; simp)
      have hq := byt_bad (n := n) hi hn
      rw [hq.1, hq.2.1, hq.2.2] at this
      exact this
    have HC : Hid (∀ w1, RCur w1 c (failZ zs err 1) (failE err 1) → Calls Try.prog 25 #[.pointer (some ⟨c, 0, none⟩), .int .i64 n] w1 fun e w' => RBytesPost w1 c (numL zs n) (numZ zs err n) (numE zs err n) e w') := C
    clear C h hi hb hl
    generalize numL zs n = l at *
    generalize numZ zs err n = z at *
    generalize numE zs err n = r at *
    by_cases h1 : n < 1
    · clear hn
      go_enter Try.func21, Try.ntmps21
      go_wp2_with fail
      refine F.mono ?_
      rintro e w1 ⟨rfl, h1c, hg1⟩
      go_wp2_with fail
      refine (HC.out _ h1c).mono ?_
      rintro e w2 ⟨a2, c2, rfl, r2, k2, hg2⟩
      go_wp2_with fail
      refine (number_any a2 _ c2 l _ rfl HB.out.2 HB.out.1 r2).mono ?_
      rintro e w3 ⟨rfl, rfl⟩
      go_wp2
      go_ret
      exact ⟨rfl, k2, grownBy_trans hg1 hg2⟩
    · have h4 : 4 < n := by omega
      clear hn
      go_enter Try.func21, Try.ntmps21
      go_wp2_with fail
      refine F.mono ?_
      rintro e w1 ⟨rfl, h1c, hg1⟩
      go_wp2_with fail
      refine (HC.out _ h1c).mono ?_
      rintro e w2 ⟨a2, c2, rfl, r2, k2, hg2⟩
      go_wp2_with fail
      refine (number_any a2 _ c2 l _ rfl HB.out.2 HB.out.1 r2).mono ?_
      rintro e w3 ⟨rfl, rfl⟩
      go_wp2
      go_ret
      exact ⟨rfl, k2, grownBy_trans hg1 hg2⟩
  · have C := rbytes_any c zs err n w h hi hl
    have hq := byt_num (zs := zs) (err := err) hn
    rw [hq.1, hq.2.1, hq.2.2] at C
    have b1 : 1 ≤ n := by omega
    have b2 : n ≤ 4 := by omega
    clear h hi hb hl hn hq
    generalize numL zs n = l at *
    generalize numZ zs err n = z at *
    generalize numE zs err n = r at *
    go_enter Try.func21, Try.ntmps21
    go_wp2_with fail
    refine C.mono ?_
    rintro e w2 ⟨a2, c2, rfl, r2, k2, hg2⟩
    go_wp2_with fail
    refine (number_any a2 _ c2 l _ rfl HB.out.2 HB.out.1 r2).mono ?_
    rintro e w3 ⟨rfl, rfl⟩
    go_wp2
    go_ret
    exact ⟨rfl, k2, hg2⟩

set_option maxHeartbeats 800000 in
theorem rlittle_any (c : Nat) (zs : List Int) (err n : Int) (w : World) (h : RCur w c zs err) (hi : Inv zs err) (hb : Bytes zs) (hl : zs.length ≤ 140737488351232) :
    Calls Try.prog 23 #[.pointer (some ⟨c, 0, none⟩), .int .i64 n] w fun e w' => RNumPost w c (litN (numL zs n)) (numZ zs err n) (numE zs err n) e w' := by
  have HB : Hid (Bytes (numL zs n) ∧ (numL zs n).length ≤ 4) := ⟨numL_bytes hb n, numL_len zs n⟩
  by_cases hn : n < 1 ∨ 4 < n
  · have F := rfail_any c zs err 1 w h
    have C : ∀ w1, RCur w1 c (failZ zs err 1) (failE err 1) → Calls Try.prog 25 #[.pointer (some ⟨c, 0, none⟩), .int .i64 n] w1 fun e w' => RBytesPost w1 c (numL zs n) (numZ zs err n) (numE zs err n) e w' := by
      intro w1 h1
      have := rbytes_any c _ _ n w1 h1 (inv_fail hi) (by unfold failZ; split; exact hl; simp)
      have hq := byt_bad (n := n) hi hn
      rw [hq.1, hq.2.1, hq.2.2] at this
      exact this
    have HC : Hid (∀ w1, RCur w1 c (failZ zs err 1) (failE err 1) → Calls Try.prog 25 #[.pointer (some ⟨c, 0, none⟩), .int .i64 n] w1 fun e w' => RBytesPost w1 c (numL zs n) (numZ zs err n) (numE zs err n) e w') := C
    clear C h hi hb hl
    generalize numL zs n = l at *
    generalize numZ zs err n = z at *
    generalize numE zs err n = r at *
    by_cases h1 : n < 1
    · clear hn
      go_enter Try.func23, Try.ntmps23
      go_wp2_with fail
      refine F.mono ?_
      rintro e w1 ⟨rfl, h1c, hg1⟩
      go_wp2_with fail
      refine (HC.out _ h1c).mono ?_
      rintro e w2 ⟨a2, c2, rfl, r2, k2, hg2⟩
      go_wp2_with fail
      refine (turned_any a2 _ c2 l _ rfl (by have := HB.out.2; omega) r2).mono ?_
      rintro e w3 ⟨a3, c3, rfl, _, _, r3, b3⟩
      go_wp2_with fail
      refine (number_any a3 _ c3 l.reverse _ (by simp) (by have := HB.out.2; simpa using this) HB.out.1.reverse r3).mono ?_
      rintro e w4 ⟨rfl, rfl⟩
      go_wp2
      go_ret
      exact ⟨by rw [← bigN_reverse]; rfl, k2.below b3, grownBy_trans (grownBy_trans hg1 hg2) (grownBy_of_below b3 _)⟩
    · have h4 : 4 < n := by omega
      clear hn
      go_enter Try.func23, Try.ntmps23
      go_wp2_with fail
      refine F.mono ?_
      rintro e w1 ⟨rfl, h1c, hg1⟩
      go_wp2_with fail
      refine (HC.out _ h1c).mono ?_
      rintro e w2 ⟨a2, c2, rfl, r2, k2, hg2⟩
      go_wp2_with fail
      refine (turned_any a2 _ c2 l _ rfl (by have := HB.out.2; omega) r2).mono ?_
      rintro e w3 ⟨a3, c3, rfl, _, _, r3, b3⟩
      go_wp2_with fail
      refine (number_any a3 _ c3 l.reverse _ (by simp) (by have := HB.out.2; simpa using this) HB.out.1.reverse r3).mono ?_
      rintro e w4 ⟨rfl, rfl⟩
      go_wp2
      go_ret
      exact ⟨by rw [← bigN_reverse]; rfl, k2.below b3, grownBy_trans (grownBy_trans hg1 hg2) (grownBy_of_below b3 _)⟩
  · have C := rbytes_any c zs err n w h hi hl
    have hq := byt_num (zs := zs) (err := err) hn
    rw [hq.1, hq.2.1, hq.2.2] at C
    have b1 : 1 ≤ n := by omega
    have b2 : n ≤ 4 := by omega
    clear h hi hb hl hn hq
    generalize numL zs n = l at *
    generalize numZ zs err n = z at *
    generalize numE zs err n = r at *
    go_enter Try.func23, Try.ntmps23
    go_wp2_with fail
    refine C.mono ?_
    rintro e w2 ⟨a2, c2, rfl, r2, k2, hg2⟩
    go_wp2_with fail
    refine (turned_any a2 _ c2 l _ rfl (by have := HB.out.2; omega) r2).mono ?_
    rintro e w3 ⟨a3, c3, rfl, _, _, r3, b3⟩
    go_wp2_with fail
    refine (number_any a3 _ c3 l.reverse _ (by simp) (by have := HB.out.2; simpa using this) HB.out.1.reverse r3).mono ?_
    rintro e w4 ⟨rfl, rfl⟩
    go_wp2
    go_ret
    exact ⟨by rw [← bigN_reverse]; rfl, k2.below b3, grownBy_trans (hg2) (grownBy_of_below b3 _)⟩

theorem Try.cells40 : Try.prog.cellsOf 40 = 3 := by kernel_rfl
theorem Try.cells3 : Try.prog.cellsOf 3 = 1 := by kernel_rfl
theorem Try.cells24 : Try.prog.cellsOf 24 = 1 := by kernel_rfl
/-- Questions that came in: kind, N, E. -/
def AArg (W : World) (a : Option Addr) (len cap : Nat) (F : Nat → Int × Int × Int) : Prop :=
  len ≤ cap ∧ cap ≤ maxLen ∧ (0 < len → ∃ b off, a = some ⟨b, off, none⟩ ∧ ∀ i, i < len → W.cell? ⟨b, off + i * 3, none⟩ = some (.int .u8 (F i).1) ∧ W.cell? ⟨b, off + i * 3 + 1, none⟩ = some (.int .i64 (F i).2.1) ∧ W.cell? ⟨b, off + i * 3 + 2, none⟩ = some (.int .i64 (F i).2.2) ∧ 0 ≤ (F i).1 ∧ (F i).1 < 256)

theorem open_asks {H : Type} {enc : TypeId × Value → H} {W : World} {a : Option Addr} {len cap : Nat} {d : DataW H} {p : List MemPlace}
    (h0 : DataW.Trod enc Try.prog W 0 (fun _ => true) true 33 (.slice a len cap) d p) : ∃ F, AArg W a len cap F := by
  obtain ⟨fuel, hf⟩ := h0
  rcases Deep.open_slice Try.underlying33 hf with ⟨hcs, _⟩ | ⟨x, l, c, m, n, D, Pl, hcs, _, hl, hm, hmm, _, hx⟩
  · simp [Value.cells] at hcs
    obtain ⟨rfl, rfl, rfl⟩ := hcs
    exact ⟨fun _ => (0, 0, 0), Nat.le_refl _, by unfold maxLen; omega, fun h => absurd h (by omega)⟩
  · simp [Value.cells] at hcs
    obtain ⟨rfl, rfl, rfl⟩ := hcs
    have hml : len ≤ m := by rw [hmm]; simp; exact hl
    have each : ∀ i, i < len → ∃ q : Int × Int × Int, W.cell? (x.add (i * 3)) = some (.int .u8 q.1) ∧ W.cell? (x.add (i * 3 + 1)) = some (.int .i64 q.2.1) ∧ W.cell? (x.add (i * 3 + 2)) = some (.int .i64 q.2.2) ∧ 0 ≤ q.1 ∧ q.1 < 256 := by
      intro i hi
      obtain ⟨cs', h1, h2⟩ := hx i (by omega)
      rw [Try.cells40] at h1
      obtain ⟨_, hlen, hcell⟩ := World.cells?_some h1
      obtain ⟨xs, k, hk, hxy, _, hxl, hff⟩ := DataW.trod_struct Try.underlying40 h2
      match xs, hxl, cs', hlen with
      | [y0, y1, y2], _, [v0, v1, v2], _ =>
        have g0 := hff 0 _ rfl
        have g1 := hff 1 _ rfl
        have g2 := hff 2 _ rfl
        simp [Try.cells3, Try.cells5, Try.cells24] at g0 g1 g2
        obtain ⟨n0, e0, _, w0⟩ := DataW.trod_int Try.underlying5 g0
        obtain ⟨n1, e1, _⟩ := DataW.trod_int Try.underlying3 g1
        obtain ⟨n2, e2, _⟩ := DataW.trod_int Try.underlying24 g2
        simp at e0 e1 e2
        subst e0 e1 e2
        have c0 := hcell 0 (by omega)
        have c1 := hcell 1 (by omega)
        have c2 := hcell 2 (by omega)
        rw [Deep.add_add] at c0 c1 c2
        have hb := bounds_u8 w0
        exact ⟨(n0, n1, n2), by simpa using c0, by simpa using c1, by simpa using c2, by omega, by omega⟩
    obtain ⟨F, hF⟩ := Deep.choose_lt each
    refine ⟨F, hl, hm, fun hpos => ?_⟩
    obtain ⟨b, off, spot⟩ := x
    have hc := (hF 0 hpos).1
    have hspot : spot = none := by simpa [Addr.add] using World.cell?_spot hc
    subst hspot
    refine ⟨b, off, rfl, fun i hi => ?_⟩
    have := hF i hi
    simpa [Addr.add_lit, Nat.add_assoc] using this

/-- Both cursors, in one state, apart from each other. -/
structure PC (w wr : World) (c x : Nat) (zs : List Int) (err : Int) : Prop where
  one : ∃ U, Cur wr c U zs err
  two : RCur wr x zs err
  ne : c ≠ x
  c0 : w.heap.size ≤ c
  x0 : w.heap.size ≤ x
  bel : Below w.heap.size w wr
/-- The first has gone on. -/
structure PC1 (w wr : World) (c x : Nat) (zs zs' : List Int) (err err' : Int) : Prop where
  one : ∃ U, Cur wr c U zs' err'
  two : RCur wr x zs err
  ne : c ≠ x
  c0 : w.heap.size ≤ c
  x0 : w.heap.size ≤ x
  bel : Below w.heap.size w wr
theorem PC.first {w wr w' : World} {c x U : Nat} {zs zs' : List Int} {err err' : Int} (p : PC w wr c x zs err) (hc : Cur w' c U zs' err') (hg : wr.grownBy w' (some c)) : PC1 w w' c x zs zs' err err' := by
  obtain ⟨U0, a, cap, hh, _⟩ := p.one
  exact ⟨⟨U, hc⟩, p.two.grown hg hh (fun e => p.ne e.symm), p.ne, p.c0, p.x0, p.bel.grown hg p.bel.size (fun k hk => by simp at hk; have := p.c0; omega)⟩
theorem PC1.second {w wr w' : World} {c x : Nat} {zs zs' : List Int} {err err' : Int} (p : PC1 w wr c x zs zs' err err') (hx : RCur w' x zs' err') (hg : wr.grownBy w' (some x)) : PC w w' c x zs' err' := by
  obtain ⟨U, a, cap, hh, h1, h2, hr, hu⟩ := p.one
  obtain ⟨a', cap', hh', _⟩ := p.two
  refine ⟨⟨U, a, cap, (hg.block c (lt_of_block hh) (fun e => p.ne (by simpa using e))).trans hh, h1, h2, hr.grown hg (hr.ne hh'), hu⟩, hx, p.ne, p.c0, p.x0, p.bel.grown hg p.bel.size (fun k hk => by simp at hk; have := p.x0; omega)⟩
theorem PC.old {w wr w' : World} {c x : Nat} {zs : List Int} {err : Int} (p : PC w wr c x zs err) (hb : Below wr.heap.size wr w') : PC w w' c x zs err := by
  obtain ⟨U, hc⟩ := p.one
  exact ⟨⟨U, hc.below hb⟩, p.two.below hb, p.ne, p.c0, p.x0, p.bel.trans (hb.mono p.bel.size)⟩
end Go.Proofs.Ythoandjljgkcbaa
