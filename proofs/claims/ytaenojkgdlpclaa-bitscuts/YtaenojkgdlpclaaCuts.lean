import Derived.Test.YtaenojkgdlpclaaFixB
import Derived.Test.YtaenojkgdlpclaaArgB
namespace Go.Proofs.Ytaenojkgdlpclaa
open Go.RowKit

theorem Rd.sep2 {w : World} {r x : Nat} {g h : Option Nat} {A B : List Int} {a b : Nat} (h1 : Rd w r g A a) (h2 : Rd w x h B b) : g ≠ some x := by
  obtain ⟨v, hh, _⟩ := h2
  obtain ⟨v', _, hs⟩ := h1
  rintro rfl
  rcases hs with ⟨_, h, _⟩ | ⟨b', off, cap, cur, _, h, hb, _⟩
  · cases h
  · cases h; rw [hh] at hb; simp at hb
/-- Two readers of the call's own, apart from each other. -/
structure Pair (w wr : World) (r x : Nat) (g h : Option Nat) (A B : List Int) (a b : Nat) : Prop where
  one : Rd wr r g A a
  two : Rd wr x h B b
  ne : r ≠ x
  r0 : w.heap.size ≤ r
  x0 : w.heap.size ≤ x
  g0 : ∀ k, g = some k → w.heap.size ≤ k
  h0 : ∀ k, h = some k → w.heap.size ≤ k
  gh : g = none ∨ g ≠ h
  bel : Below w.heap.size w wr
theorem Pair.first {w wr w' : World} {r x : Nat} {g g' h : Option Nat} {A A' B : List Int} {a a' b : Nat} (p : Pair w wr r x g h A B a b) (hf : Fr wr w' r g) (hr : Rd w' r g' A' a') (hg : g' = g ∨ ∃ k, g' = some k ∧ wr.heap.size ≤ k) : Pair w w' r x g' h A' B a' b := by
  have hx : Rd w' x h B b := p.two.other hf (fun e => p.ne e.symm) (fun e => p.one.sep2 p.two e.symm) (p.two.sep2 p.one) (by
    rcases p.gh with e | e
    · cases h with
      | none => exact .inl rfl
      | some k => exact .inr (by rw [e]; simp)
    · exact .inr (fun e' => e e'.symm))
  refine ⟨hr, hx, p.ne, p.r0, p.x0, ?_, p.h0, ?_, Fr.below p.bel hf p.r0 p.g0 p.bel.size⟩
  · intro k hk
    rcases hg with e | ⟨q, e, hq⟩
    · exact p.g0 k (by rw [← e]; exact hk)
    · rw [e] at hk; cases hk; have := p.bel.size; omega
  · rcases hg with e | ⟨q, e, hq⟩
    · rw [e]; exact p.gh
    · refine .inr fun e' => ?_
      have := p.two.glt (k := q) (by rw [← e', e])
      omega
theorem Pair.swap {w wr : World} {r x : Nat} {g h : Option Nat} {A B : List Int} {a b : Nat} (p : Pair w wr r x g h A B a b) : Pair w wr x r h g B A b a :=
  ⟨p.two, p.one, fun e => p.ne e.symm, p.x0, p.r0, p.h0, p.g0, by
    rcases p.gh with e | e
    · cases h with
      | none => exact .inl rfl
      | some k => exact .inr (by rw [e]; simp)
    · exact .inr (fun e' => e e'.symm), p.bel⟩
theorem Pair.drewN {w wr : World} {r x : Nat} {g h : Option Nat} {A B : List Int} {a b : Nat} (p : Pair w wr r x g h A B a b) (n : Nat) : Pair w (wr.drewN n) r x g h A B a b :=
  ⟨p.one.drewN n, p.two.drewN n, p.ne, p.r0, p.x0, p.g0, p.h0, p.gh, ⟨p.bel.os, p.bel.tape, p.bel.output, p.bel.size, p.bel.block⟩⟩

theorem Row.cells {w : World} {a : Option Addr} {l : List Int} (h : Row w a l) (k : Nat) (hk : k < l.length) : ∃ b off, a = some ⟨b, off, none⟩ ∧ w.cell? ⟨b, off + k, none⟩ = some (.int .u8 (l[k]?.getD 0)) := by
  rcases h with rfl | ⟨b, off, e, hc⟩
  · simp at hk
  · exact ⟨b, off, e, hc k hk⟩
theorem Row.take {w : World} {a : Option Addr} {l : List Int} (h : Row w a l) (k : Nat) : Row w a (l.take k) := by
  rcases h with rfl | ⟨b, off, e, hc⟩
  · exact .inl (by simp)
  · refine .inr ⟨b, off, e, fun i hi => ?_⟩
    rw [List.length_take] at hi
    have hi' : i < k := by omega
    rw [hc i (by omega)]
    simp [hi']
theorem Row.cut {w : World} {a : Option Addr} {l : List Int} (h : Row w a l) (k cap : Nat) (hk : k ≤ l.length) (hc : l.length ≤ cap) : Row w (if cap = k then a else Option.map (fun x => x.add k) a) (l.drop k) := by
  by_cases hkl : k = l.length
  · exact .inl (by rw [hkl]; simp)
  · rcases h with rfl | ⟨b, off, rfl, hr⟩
    · simp at hk; exact absurd hk hkl
    · rw [if_neg (by omega)]
      refine .inr ⟨b, off + k, by simp [Addr.add_lit], fun i hi => ?_⟩
      rw [List.length_drop] at hi
      rw [Nat.add_assoc, hr (k + i) (by omega)]
      simp

/-- Taking from two readers that have the same bits. -/
theorem take_pair (w : World) {wr : World} {r x : Nat} {g h : Option Nat} {L : List Int} {gone : Nat} (n : Int) (p : Pair w wr r x g h L L gone gone) (hb : Bytes L) (hl : L.length ≤ 3000) (hg : gone < 8) (h0 : 0 ≤ n) (h32 : n ≤ 32) :
    ∃ (u : Int) (ok : Bool) (L' : List Int) (gone' : Nat), Bytes L' ∧ L'.length ≤ 3000 ∧ gone' < 8 ∧
      Calls Try.prog 13 #[.pointer (some ⟨r, 0, none⟩), .int .i64 n] wr (fun e w1 => e = .returned (.tuple #[.int .i64 u, .bool ok]) ∧ Pair w w1 r x g h L' L gone' gone) ∧
      ∀ w1, Pair w w1 r x g h L' L gone' gone → Calls Try.prog 13 #[.pointer (some ⟨x, 0, none⟩), .int .i64 n] w1 (fun e w2 => e = .returned (.tuple #[.int .i64 u, .bool ok]) ∧ Pair w w2 r x g h L' L' gone' gone') := by
  obtain ⟨n, rfl⟩ := Int.eq_ofNat_of_zero_le h0
  by_cases hn : gone + n ≤ 8 * L.length
  · refine ⟨bitV L gone % 2 ^ n, true, L.drop ((gone + n) / 8), (gone + n) % 8, hb.drop _, by rw [List.length_drop]; omega, by omega, (take_yes r g L gone n wr p.one hb (by omega) hg (by omega) hn).mono ?_, fun w1 q => (take_yes x h L gone n w1 q.two hb (by omega) hg (by omega) hn).mono ?_⟩
    · rintro e w1 ⟨rfl, hr, hf⟩
      exact ⟨rfl, p.first hf hr (.inl rfl)⟩
    · rintro e w2 ⟨rfl, hr, hf⟩
      exact ⟨rfl, (q.swap.first hf hr (.inl rfl)).swap⟩
  · refine ⟨0, false, L, gone, hb, hl, hg, (take_no r g L gone n wr p.one (by omega) hg (by omega)).mono ?_, fun w1 q => (take_no x h L gone n w1 q.two (by omega) hg (by omega)).mono ?_⟩
    · rintro e w1 ⟨rfl, nn, rfl⟩
      exact ⟨rfl, p.drewN nn⟩
    · rintro e w2 ⟨rfl, nn, rfl⟩
      exact ⟨rfl, q.drewN nn⟩

/-- The first loop's relation. -/
def CRel (w : World) (r x : Nat) (zs : List Int) (rest : Value) (wr : World) : Prop :=
  ∃ (A R : List Int) (ar : Option Addr) (cr : Nat) (g h : Option Nat), A ++ R = zs ∧ rest = .slice ar R.length cr ∧ R.length ≤ cr ∧ cr ≤ 140737488351232 ∧ (ar = none → cr = 0) ∧ Row w ar R ∧ Pair w wr r x g h A zs 0 0
/-- The second one's. -/
def TRel (w : World) (r x : Nat) (wr : World) : Prop :=
  ∃ (L : List Int) (gone : Nat) (g h : Option Nat), Bytes L ∧ L.length ≤ 3000 ∧ gone < 8 ∧ Pair w wr r x g h L L gone gone

set_option maxHeartbeats 1600000 in
theorem cuts_walk (a0 : Option Addr) (len0 cap0 : Nat) (a1 : Option Addr) (len1 cap1 : Nat) (a2 : Option Addr) (len2 cap2 : Nat) (w : World) (h0 : BArg w a0 len0 cap0) (h1 : BArg w a1 len1 cap1) (h2 : BArg w a2 len2 cap2) :
    Calls Try.prog 6 #[.slice a0 len0 cap0, .slice a1 len1 cap1, .slice a2 len2 cap2] w fun e w' => e = .returned (.bool true) ∧ Below w.heap.size w w' := by
  obtain ⟨zs, hb0, rfl, hl0, hm0, hn0, hr0⟩ := h0
  obtain ⟨cs, hb1, hs1, hl1, hm1, hn1, hr1⟩ := h1
  obtain ⟨ss, hb2, hs2, hl2, hm2, hn2, hr2⟩ := h2
  have H0 : Hid (Bytes zs ∧ (a0 = none → cap0 = 0) ∧ Row w a0 zs) := ⟨hb0, hn0, hr0⟩
  have H1 : Hid (Bytes cs ∧ cs.length = len1 ∧ Row w a1 cs) := ⟨hb1, hs1, hr1⟩
  have H2 : Hid (Bytes ss ∧ ss.length = len2 ∧ Row w a2 ss) := ⟨hb2, hs2, hr2⟩
  clear hb0 hn0 hr0 hb1 hs1 hn1 hr1 hb2 hs2 hn2 hr2
  by_cases c0 : 3000 < (zs.length : Int)
  · go_enter Try.func6, Try.ntmps6
    go_wp2_with (go_at_call 8; refine (fixed_any _).mono ?_; rintro e w1 ⟨rfl, hbel⟩)
    go_ret
    exact ⟨rfl, hbel⟩
  by_cases c1 : 3000 < (len1 : Int)
  · go_enter Try.func6, Try.ntmps6
    go_wp2_with (go_at_call 8; refine (fixed_any _).mono ?_; rintro e w1 ⟨rfl, hbel⟩)
    go_ret
    exact ⟨rfl, hbel⟩
  by_cases c2 : 3000 < (len2 : Int)
  · go_enter Try.func6, Try.ntmps6
    go_wp2_with (go_at_call 8; refine (fixed_any _).mono ?_; rintro e w1 ⟨rfl, hbel⟩)
    go_ret
    exact ⟨rfl, hbel⟩
  have d0 : zs.length ≤ 3000 := by omega
  have d1 : len1 ≤ 3000 := by omega
  have d2 : len2 ≤ 3000 := by omega
  go_enter Try.func6, Try.ntmps6
  go_wp2_with fail
  refine (fixed_any _).mono ?_
  rintro e w1 ⟨rfl, hb1⟩
  go_wp2_with fail
  refine (new_any _).mono ?_
  rintro e w2 ⟨r, rfl, hr, hrd, hb2⟩
  go_wp2_with fail
  refine (new_any _).mono ?_
  rintro e w3 ⟨x, rfl, hx, hxd, hb3⟩
  have P0 : Pair w w3 r x none none [] [] 0 0 := by
    have hB2 := hb1.trans (hb2.mono hb1.size)
    refine ⟨hrd.old hb3, hxd, ?_, Nat.le_trans hb1.size hr, ?_, (by intro k hk; cases hk), (by intro k hk; cases hk), .inl rfl, hB2.trans (hb3.mono hB2.size)⟩
    · have := hrd.lt; omega
    · exact Nat.le_trans hB2.size hx
  clear hrd hxd hb1 hb2 hb3 hr hx
  go_wp2_with fail
  refine (feed_any x none [] zs 0 a0 _ cap0 _ P0.two rfl H0.out.2.1 (H0.out.2.2.old P0.bel) (by simp; omega)).mono ?_
  rintro e w4 ⟨rfl, h4, hx4, hg4, hf4⟩
  have P4 := (P0.swap.first hf4 hx4 hg4).swap
  have HC : Hid (CRel w r x zs (.slice a0 zs.length cap0) w4) := ⟨[], zs, a0, cap0, none, h4, rfl, rfl, hl0, by omega, H0.out.2.1, H0.out.2.2, P4⟩
  clear P0 hx4 hg4 hf4 P4
  go_wp2
  go_loopw [9, 11, 12, 42] (fun rest _ _ i wr => ∃ k : Nat, k ≤ len1 ∧ i = .int .i64 k ∧ CRel w r x zs rest wr) (fun _ _ _ i _ => len1 - (intOf i).toNat)
  case atStart => exact ⟨0, Nat.zero_le _, rfl, HC.out⟩
  case round =>
    clear HC
    obtain ⟨k, hk, rfl, A, R, ar, cr, g, h, hz, rfl, hrc, hcr, hnr, hrow, P⟩ := hrel
    have hlen : A.length + R.length ≤ 3000 := by have := congrArg List.length hz; simp at this; omega
    have HZ : Hid (A ++ R = zs) := hz
    have HR : Hid (Row w ar R) := hrow
    have HNR : Hid (ar = none → cr = 0) := hnr
    clear hz hrow hnr
    by_cases hlt : k < len1
    · have hcb := H1.out.1.at k
      obtain ⟨b, off, hab, hck0⟩ := H1.out.2.2.cells k (by have := H1.out.2.1; omega)
      have hck : wr.cell? ⟨b, off + k, none⟩ = some (.int .u8 (cs[k]?.getD 0)) := (P.bel.cell (p := ⟨b, off + k, none⟩) (cell_lt hck0)).trans hck0
      subst hab
      clear hck0
      generalize cs[k]?.getD 0 = n at *
      obtain ⟨n, rfl⟩ := Int.eq_ofNat_of_zero_le hcb.1
      have STEP : ∀ (m : Nat) (w5 : World) (g' : Option Nat), m ≤ R.length → Rd w5 r g' (A ++ R.take m) 0 → (g' = g ∨ ∃ k, g' = some k ∧ wr.heap.size ≤ k) → Fr wr w5 r g → CRel w r x zs (.slice (if cr = m then ar else Option.map (fun x => x.add m) ar) (R.length - m) (cr - m)) w5 := by
        intro m w5 g' hm hrd hg hf
        refine ⟨A ++ R.take m, R.drop m, _, cr - m, g', h, by rw [List.append_assoc, List.take_append_drop]; exact HZ.out, by rw [List.length_drop], by rw [List.length_drop]; omega, by omega, ?_, HR.out.cut m cr hm hrc, P.first hf hrd hg⟩
        intro e
        by_cases hc : cr = m
        · omega
        · rw [if_neg hc] at e
          cases ar with
          | none => have := HNR.out rfl; omega
          | some y => simp at e
      have HST : Hid _ := STEP
      clear STEP
      by_cases hnr2 : n ≤ R.length
      · go_wp2_with (go_at_call 11; refine (feed_any r g A (R.take n) 0 ar n cr _ P.one (by simp; omega) HNR.out ((HR.out.take n).old P.bel) (by omega)).mono ?_; rintro e w5 ⟨rfl, g5, hr5, hg5, hf5⟩)
        go_roundw
        case rel => exact ⟨k + 1, by omega, by go_num, HST.out n w5 g5 hnr2 hr5 hg5 hf5⟩
        case measure => simp [intOf]; omega
      · go_wp2_with (go_at_call 11; refine (feed_any r g A R 0 ar R.length cr _ P.one rfl HNR.out (HR.out.old P.bel) (by omega)).mono ?_; rintro e w5 ⟨rfl, g5, hr5, hg5, hf5⟩)
        go_roundw
        case rel =>
          have := HST.out R.length w5 g5 (Nat.le_refl _) (by rw [List.take_length]; exact hr5) hg5 hf5
          rw [Nat.sub_self] at this
          exact ⟨k + 1, by omega, by go_num, this⟩
        case measure => simp [intOf]; omega
    · go_wp2_with fail
      refine (feed_any r g A R 0 ar _ cr _ P.one rfl HNR.out (HR.out.old P.bel) (by omega)).mono ?_
      rintro e w5 ⟨rfl, g5, hr5, hg5, hf5⟩
      rw [HZ.out] at hr5
      have P5 := P.first hf5 hr5 hg5
      have HT : Hid (TRel w r x w5) := ⟨zs, 0, g5, h, H0.out.1, d0, by omega, P5⟩
      clear P hr5 hg5 hf5 P5
      go_wp2
      go_loopw [14, 15, 16, 17, 18, 65] (fun _ _ _ _ _ i wr => ∃ k : Nat, k ≤ len2 ∧ i = .int .i64 k ∧ TRel w r x wr) (fun _ _ _ _ _ i _ => len2 - (intOf i).toNat)
      case atStart => exact ⟨0, Nat.zero_le _, rfl, HT.out⟩
      case round =>
        clear HT
        obtain ⟨j, hj, rfl, L, gone, g', h', hbL, hlL, hgo, P'⟩ := hrel
        by_cases hlt2 : j < len2
        · have hcb := H2.out.1.at j
          obtain ⟨b, off, hab, hck0⟩ := H2.out.2.2.cells j (by have := H2.out.2.1; omega)
          have hck : wr.cell? ⟨b, off + j, none⟩ = some (.int .u8 (ss[j]?.getD 0)) := (P'.bel.cell (p := ⟨b, off + j, none⟩) (cell_lt hck0)).trans hck0
          subst hab
          clear hck0
          generalize ss[j]?.getD 0 = n at *
          obtain ⟨u, ok, L', gone', hb', hl', hg', C1, C2⟩ := take_pair w (n % 33) P' hbL hlL hgo (by omega) (by omega)
          have HC2 : Hid (∀ w1, Pair w w1 r x g' h' L' L gone' gone → Calls Try.prog 13 #[.pointer (some ⟨x, 0, none⟩), .int .i64 (n % 33)] w1 (fun e w2 => e = .returned (.tuple #[.int .i64 u, .bool ok]) ∧ Pair w w2 r x g' h' L' L' gone' gone')) := C2
          clear C2
          go_wp2_with fail
          refine C1.mono ?_
          rintro e w6 ⟨rfl, P6⟩
          clear C1 P'
          go_wp2_with fail
          refine (HC2.out _ P6).mono ?_
          rintro e w7 ⟨rfl, P7⟩
          clear P6
          go_wp2_with fail
          refine (have_any r g' L' gone' _ P7.one (by omega) hg').mono ?_
          rintro e w8 ⟨rfl, n8, rfl⟩
          have P8 := P7.drewN n8
          clear P7
          generalize w7.drewN n8 = w8 at *
          go_wp2_with fail
          refine (have_any x h' L' gone' _ P8.two (by omega) hg').mono ?_
          rintro e w9 ⟨rfl, n9, rfl⟩
          have P9 := P8.drewN n9
          clear P8
          generalize w8.drewN n9 = w9 at *
          have HT9 : Hid (TRel w r x w9) := ⟨L', gone', g', h', hb', hl', hg', P9⟩
          clear P9
          go_wp2
          go_roundw
          case rel => exact ⟨j + 1, by omega, by go_num, HT9.out⟩
          case measure => simp [intOf]; omega
        · have HB9 : Hid (Below w.heap.size w wr) := P'.bel
          clear P'
          go_wp2
          go_ret
          exact ⟨rfl, HB9.out⟩
end Go.Proofs.Ytaenojkgdlpclaa
