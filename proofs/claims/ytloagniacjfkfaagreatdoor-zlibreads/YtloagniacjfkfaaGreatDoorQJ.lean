/- Joined: Iq Is It. -/
import Derived.Test.YtloagniacjfkfaaGreatDoorQH
import Derived.Test.YtloagniacjfkfaaGreatDoorQI
/- The counts of a told block. -/
namespace Go.Proofs.YtloagniacjfkfaaGreatDoor
open Go.RowKit
section
variable {w : World} {d lim n0 : Nat} {s : St} {L : List Int} {a : Nat} {o : Ow} {V : Vs}
/-- The lengths are let go, three numbers are set. -/
theorem Live.lens0 {w w' : World} (h : Live w d lim n0 s L a o V) (x y z nw : Nat) (hw : w' = ((((((w.setCell ⟨d, 32778, none⟩ (.int .i64 x)).setCell ⟨d, 32779, none⟩ (.int .i64 y)).setCell ⟨d, 32780, none⟩ (.int .i64 z)).setCell ⟨d, 32781, none⟩ (.pointer none)).setCell ⟨d, 32782, none⟩ (.slice none 0 0)).setCell ⟨d, 32783, none⟩ (.int .i64 0)).setCell ⟨d, 2, none⟩ (.int .i64 nw)) :
    Live w' d lim n0 { clr s with lits := x, all := y, cl := z, now := nw } L a { o with q := none } { V with code := .pointer none, row := .slice none 0 0 } ∧ Step w w' d o { o with q := none } := by
  subst hw
  have hf : Fr w (((((((w.setCell ⟨d, 32778, none⟩ (.int .i64 x)).setCell ⟨d, 32779, none⟩ (.int .i64 y)).setCell ⟨d, 32780, none⟩ (.int .i64 z)).setCell ⟨d, 32781, none⟩ (.pointer none)).setCell ⟨d, 32782, none⟩ (.slice none 0 0)).setCell ⟨d, 32783, none⟩ (.int .i64 0)).setCell ⟨d, 2, none⟩ (.int .i64 nw)) d o.g := (((((((Fr.refl _ _ _).snoc _ _).snoc _ _).snoc _ _).snoc _ _).snoc _ _).snoc _ _).snoc _ _
  have hh := Hold.via h hf
  obtain ⟨⟨zs, gone, hd, hr⟩, _, hll⟩ := h
  have hs := hf.step (o := o)
  refine ⟨⟨⟨zs, gone, ((((((hd.s_lits x).s_all y).s_cl z).s_code _).s_row _).s_again 0).s_now nw, hr⟩, ⟨hh.le, hh.nle, hh.win, hh.byt, hh.told, rfl, Sl.nil _ _, hh.c1, hh.c2, hh.fx, hh.sep⟩, hll⟩, ⟨hs.os, hs.tape, hs.output, hs.size, hs.block, hs.g, ?_, hs.t⟩⟩
  intro k hk; cases hk
set_option maxHeartbeats 1600000 in
set_option maxRecDepth 20000 in
theorem readCounts_any (h : Live w d lim n0 s L a o V) (hnow : s.now = 3) :
    Calls Tryz.prog 111 #[.pointer (some ⟨d, 0, none⟩)] w fun e w' => ItPost w d lim n0 s L a o (itCounts s (L.drop a)) e w' := by
  have hle2 := h.ale
  have HHV := live_have h
  by_cases hl : L.length < a + 14
  · have e1 : itCounts s (L.drop a) = .short := by unfold itCounts; rw [if_pos (by rw [List.length_drop]; omega)]
    rw [e1]
    have HL : Hid (Live w d lim n0 s L a o V) := h
    have hli : ((L.length - a : Nat) : Int) < 14 := by omega
    generalize L.length - a = M at HHV hli
    clear e1 h hl
    go_enter Tryz.func111, Tryz.ntmps111
    go_wp2_with fail
    refine HHV.mono ?_
    rintro e w2 ⟨rfl, n2, rfl⟩
    go_wp2
    go_ret
    exact ⟨rfl, o, V, LiveA.of (HL.out.drewN n2) (by omega), (Step.refl _ _ _).drewN n2⟩
  · have HO : Hid (itCounts s (L.drop a) = if 286 < bV (L.drop a) 0 5 + 257 ∨ 30 < bV (L.drop a) 5 5 + 1 then .bad 5 s.out else .ok { clr s with lits := bV (L.drop a) 0 5 + 257, all := bV (L.drop a) 0 5 + 257 + (bV (L.drop a) 5 5 + 1), cl := bV (L.drop a) 10 4 + 4, now := 4 } 14) := by
      show _ = _
      unfold itCounts
      rw [if_neg (by rw [List.length_drop]; omega)]
    have hbit := h.bit.drop a
    have hA : bV (L.drop a) 0 5 < 32 := bV_small hbit 0 5
    have hB : bV (L.drop a) 5 5 < 32 := bV_small hbit 5 5
    have hC : bV (L.drop a) 10 4 < 16 := bV_small hbit 10 4
    have hLM : ¬ ((L.length - a : Nat) : Int) < 14 := by omega
    have hLM2 : (14 : Int) ≤ ((L.length - a : Nat) : Int) := by omega
    have T1 : Hid (∀ w2, Live w2 d lim n0 s L a o V → Calls Tryz.prog 124 #[.pointer (some ⟨d, 0, none⟩), .int .i64 5] w2 fun e w' => RdPost w2 d lim n0 s L o V (.tuple #[.int .i64 (bV (L.drop a) 0 5), .bool true]) (a + 5) e w') := fun w2 h2 => live_take 5 h2 (by omega) (by omega)
    have T2 : Hid (∀ w2, Live w2 d lim n0 s L (a + 5) o V → Calls Tryz.prog 124 #[.pointer (some ⟨d, 0, none⟩), .int .i64 5] w2 fun e w' => RdPost w2 d lim n0 s L o V (.tuple #[.int .i64 (bV (L.drop a) 5 5), .bool true]) (a + 5 + 5) e w') := fun w2 h2 => by
      have := live_take 5 h2 (by omega) (by omega)
      rw [show bV (L.drop (a + 5)) 0 5 = bV (L.drop a) 5 5 by unfold bV; rw [List.drop_drop, List.drop_drop]] at this
      exact this
    have T3 : Hid (∀ w2, Live w2 d lim n0 s L (a + 5 + 5) o V → Calls Tryz.prog 124 #[.pointer (some ⟨d, 0, none⟩), .int .i64 4] w2 fun e w' => RdPost w2 d lim n0 s L o V (.tuple #[.int .i64 (bV (L.drop a) 10 4), .bool true]) (a + 14) e w') := fun w2 h2 => by
      have := live_take 4 h2 (by omega) (by omega)
      rw [show bV (L.drop (a + 5 + 5)) 0 4 = bV (L.drop a) 10 4 by unfold bV; rw [List.drop_drop, List.drop_drop], show a + 5 + 5 + 4 = a + 14 by omega] at this
      exact this
    have HL : Hid (Live w d lim n0 s L a o V) := h
    generalize L.length - a = M at HHV hLM hLM2
    generalize bV (L.drop a) 0 5 = A at *
    generalize bV (L.drop a) 5 5 = B at *
    generalize bV (L.drop a) 10 4 = C at *
    clear h hbit hl hle2
    go_enter Tryz.func111, Tryz.ntmps111
    go_wp2_with fail
    refine HHV.mono ?_
    rintro e w2 ⟨rfl, n2, rfl⟩
    go_wp2_with fail
    refine (T1.out _ (HL.out.drewN n2)).mono ?_
    rintro e w3 ⟨rfl, l3, s3⟩
    have S3 : Hid (Step w w3 d o o) := s3.of_drewN
    clear s3 T1
    go_wp2_with fail
    refine (T2.out _ l3).mono ?_
    rintro e w4 ⟨rfl, l4, s4⟩
    have S4 : Hid (Step w w4 d o o) := S3.out.trans s4
    clear s4 T2 l3 S3
    go_wp2_with fail
    refine (T3.out _ l4).mono ?_
    rintro e w5 ⟨rfl, l5, s5⟩
    have HL5 : Hid (Live w5 d lim n0 s L (a + 14) o V ∧ Step w w5 d o o) := ⟨l5, S4.out.trans s5⟩
    obtain ⟨g, zs, gone, hd⟩ := l5.dk
    have k2 := hd.k2
    have q1 := hd.lits
    have q2 := hd.all
    have q3 := hd.cl
    have q4 := hd.code
    have q5 := hd.row
    have q6 := hd.again
    have fz := hd.fz
    clear hd s5 T3 l4 S4 l5 HL HHV
    have HBAD : Hid (286 < A + 257 ∨ 30 < B + 1 → ItPost w d lim n0 s L a o (itCounts s (L.drop a)) (.returned (.int .i64 5)) w5) := fun hx => by
      rw [HO.out, if_pos hx]
      exact ⟨rfl, by decide, by decide, s, _, o, V, HL5.out.1, rfl, by omega, HL5.out.2⟩
    by_cases h1 : 286 < A + 257
    · have h1i : (286 : Int) < (A : Int) + 257 := by omega
      have HP : Hid (ItPost w d lim n0 s L a o (itCounts s (L.drop a)) (.returned (.int .i64 5)) w5) := HBAD.out (.inl h1)
      clear HO HL5 HBAD
      go_wp2
      go_ret
      exact HP.out
    · have h1i : (A : Int) + 257 ≤ 286 := by omega
      by_cases h2 : 30 < B + 1
      · have h2i : (30 : Int) < (B : Int) + 1 := by omega
        have HP : Hid (ItPost w d lim n0 s L a o (itCounts s (L.drop a)) (.returned (.int .i64 5)) w5) := HBAD.out (.inr h2)
        clear HO HL5 HBAD
        go_wp2
        go_ret
        exact HP.out
      · have h2i : (B : Int) + 1 ≤ 30 := by omega
        have HP : Hid (∀ w6, w6 = ((((((w5.setCell ⟨d, 32778, none⟩ (.int .i64 ((A + 257 : Nat) : Int))).setCell ⟨d, 32779, none⟩ (.int .i64 ((A + 257 + (B + 1) : Nat) : Int))).setCell ⟨d, 32780, none⟩ (.int .i64 ((C + 4 : Nat) : Int))).setCell ⟨d, 32781, none⟩ (.pointer none)).setCell ⟨d, 32782, none⟩ (.slice none 0 0)).setCell ⟨d, 32783, none⟩ (.int .i64 0)).setCell ⟨d, 2, none⟩ (.int .i64 ((4 : Nat) : Int)) → ItPost w d lim n0 s L a o (itCounts s (L.drop a)) (.returned (.int .i64 0)) w6) := fun w6 hw => by
          obtain ⟨l6, s6⟩ := HL5.out.1.lens0 (A + 257) (A + 257 + (B + 1)) (C + 4) 4 hw
          rw [HO.out, if_neg (by omega)]
          exact ⟨rfl, _, _, AtS.of l6 (by simp) (by simp), HL5.out.2.trans s6⟩
        clear HO HL5 HBAD h1 h2
        go_wp2
        go_ret
        refine HP.out _ ?_
        rfl
end
end Go.Proofs.YtloagniacjfkfaaGreatDoor
/- The lengths of a told block: their end. -/
namespace Go.Proofs.YtloagniacjfkfaaGreatDoor
open Go.RowKit
def LgPost (w : World) (d lim n0 : Nat) (L : List Int) (a : Nat) (o : Ow) (r : Rs) (e : Ending) (w' : World) : Prop :=
  match r with
  | .short => False
  | .bad er out => e = .returned (.int .i64 er) ∧ er ≠ 0 ∧ er ≠ 2 ∧ ∃ s' a' o' V', Live w' d lim n0 s' L a' o' V' ∧ s'.out = out ∧ s'.now ≠ 11 ∧ Step w w' d o o'
  | .ok s2 _ => e = .returned (.int .i64 0) ∧ ∃ o' V', Live w' d lim n0 s2 L a o' V' ∧ Step w w' d o o'
section
variable {w : World} {d lim n0 : Nat} {s : St} {L : List Int} {a : Nat} {o : Ow} {V : Vs}
theorem irow_take {w : World} {ad : Option Addr} {l : List Int} (h : IRow w ad l) (k : Nat) : IRow w ad (l.take k) := by
  rcases h with rfl | ⟨b, off, rfl, hc⟩
  · exact .inl (by simp)
  · refine .inr ⟨b, off, rfl, fun i hi => ?_⟩
    rw [List.length_take] at hi
    rw [hc i (by omega), List.getElem?_take_of_lt (by omega)]
theorem irow_drop {w : World} {b off : Nat} {l : List Int} (h : IRow w (some ⟨b, off, none⟩) l) (k : Nat) : IRow w (some ⟨b, off + k, none⟩) (l.drop k) := by
  rcases h with rfl | ⟨b', off', he, hc⟩
  · exact .inl (by simp)
  · simp only [Option.some.injEq, Addr.mk.injEq] at he
    obtain ⟨rfl, rfl, _⟩ := he
    refine .inr ⟨b, off + k, rfl, fun i hi => ?_⟩
    rw [List.length_drop] at hi
    rw [show off + k + i = off + (k + i) by omega, hc (k + i) (by omega), List.getElem?_drop]
theorem ok_ints {row : List Nat} (h : ∀ x ∈ row, x ≤ 15) (hl : row.length ≤ 288) : okLens (ints row) = true := by
  unfold okLens
  rw [ints_len]
  simp only [hl, decide_true, Bool.true_and, List.all_eq_true]
  intro x hx
  unfold ints at hx
  rw [List.mem_map] at hx
  obtain ⟨y, hy, rfl⟩ := hx
  have := h y hy
  unfold okOne
  simp
  omega
/-- The world behind 'd.lens = lens{}'. -/
def wLens (w : World) (d : Nat) : World := (((((w.setCell ⟨d, 32778, none⟩ (.int .i64 0)).setCell ⟨d, 32779, none⟩ (.int .i64 0)).setCell ⟨d, 32780, none⟩ (.int .i64 0)).setCell ⟨d, 32781, none⟩ (.pointer none)).setCell ⟨d, 32782, none⟩ (.slice none 0 0)).setCell ⟨d, 32783, none⟩ (.int .i64 0)
theorem Live.lensC {w : World} (h : Live w d lim n0 s L a o V) : Live (wLens w d) d lim n0 (clr s) L a { o with q := none } { V with code := .pointer none, row := .slice none 0 0 } ∧ Step w (wLens w d) d o { o with q := none } := by
  have hf : Fr w (wLens w d) d o.g := ((((((Fr.refl _ _ _).snoc _ _).snoc _ _).snoc _ _).snoc _ _).snoc _ _).snoc _ _
  have hh := Hold.via h hf
  obtain ⟨⟨zs, gone, hd, hr⟩, _, hll⟩ := h
  have hs := hf.step (o := o)
  refine ⟨⟨⟨zs, gone, (((((hd.s_lits 0).s_all 0).s_cl 0).s_code _).s_row _).s_again 0, hr⟩, ⟨hh.le, hh.nle, hh.win, hh.byt, hh.told, rfl, Sl.nil _ _, hh.c1, hh.c2, hh.fx, hh.sep⟩, hll⟩, ⟨hs.os, hs.tape, hs.output, hs.size, hs.block, hs.g, ?_, hs.t⟩⟩
  intro k hk; cases hk
theorem Live.codesN {w : World} {c1 c2 : Nat} {ns1 ns2 : List Nat} (h : Live w d lim n0 s L a o V) (h1 : CodeAt w c1 ns1) (d1 : Cd ns1) (h2 : CodeAt w c2 ns2) (d2 : Cd ns2) :
    Live (((w.setCell ⟨d, 32784, none⟩ (.pointer (some ⟨c1, 0, none⟩))).setCell ⟨d, 32785, none⟩ (.pointer (some ⟨c2, 0, none⟩))).setCell ⟨d, 2, none⟩ (.int .i64 7)) d lim n0 { s with la := some ns1, da := some ns2, now := 7 } L a o { V with c1 := .pointer (some ⟨c1, 0, none⟩), c2 := .pointer (some ⟨c2, 0, none⟩) } ∧ Step w (((w.setCell ⟨d, 32784, none⟩ (.pointer (some ⟨c1, 0, none⟩))).setCell ⟨d, 32785, none⟩ (.pointer (some ⟨c2, 0, none⟩))).setCell ⟨d, 2, none⟩ (.int .i64 7)) d o o := by
  have hf : Fr w (((w.setCell ⟨d, 32784, none⟩ (.pointer (some ⟨c1, 0, none⟩))).setCell ⟨d, 32785, none⟩ (.pointer (some ⟨c2, 0, none⟩))).setCell ⟨d, 2, none⟩ (.int .i64 7)) d o.g := (((Fr.refl _ _ _).snoc _ _).snoc _ _).snoc _ _
  have hh := Hold.via h hf
  have ht := h.tame hf.step
  obtain ⟨⟨zs, gone, hd, hr⟩, _, hll⟩ := h
  exact ⟨⟨⟨zs, gone, ((hd.s_c1 _).s_c2 _).s_now 7, hr⟩, ⟨hh.le, hh.nle, hh.win, hh.byt, hh.told, hh.code, hh.row, ⟨c1, rfl, h1.tame ht, d1⟩, ⟨c2, rfl, h2.tame ht, d2⟩, hh.fx, hh.sep⟩, hll⟩, hf.step⟩
theorem ints_take (ns : List Nat) (k : Nat) : ints (ns.take k) = (ints ns).take k := by unfold ints; rw [List.map_take]
theorem ints_drop (ns : List Nat) (k : Nat) : ints (ns.drop k) = (ints ns).drop k := by unfold ints; rw [List.map_drop]
/-- New, of lengths that may be. -/
theorem new_row (ad : Option Addr) (len cap : Nat) (ns : List Nat) (w : World) (hn : ns.length = len) (hl : len ≤ 288) (hr : IRow w ad (ints ns)) (h15 : ∀ x ∈ ns, x ≤ 15) :
    Calls Tryz.prog 121 #[.slice ad len cap] w fun e w' => (wholeB (ints ns) = false ∧ e = .returned (.tuple #[.pointer none, .int .i64 5]) ∧ w' = w) ∨ (wholeB (ints ns) = true ∧ Cd ns ∧ NewPost w ns e w') := by
  have hk := ok_ints h15 (by rw [hn]; exact hl)
  cases hw : wholeB (ints ns) with
  | false => exact (new_code ad len cap (ints ns) w (by rw [ints_len]; exact hn) (by omega) hr hk hw).mono fun e w' h => .inl ⟨rfl, h⟩
  | true =>
    have N := new_yes ad len cap (ints ns) w (by rw [ints_len]; exact hn) (by omega) hr hk hw
    have C := whole_cd hk hw
    rw [ints_back] at N C
    exact N.mono fun e w' h => .inr ⟨rfl, C, h⟩
set_option maxHeartbeats 1600000 in
set_option maxRecDepth 20000 in
theorem endLens_any (n : Nat) (h : Live w d lim n0 s L a o V) (hnow : s.now = 5) (hlen : s.row.length = s.all) (hl1 : 257 ≤ s.lits) (hl2 : s.lits ≤ 286) (hl3 : s.lits < s.all) (hl4 : s.all ≤ s.lits + 30) (h15 : ∀ x ∈ s.row, x ≤ 15) :
    Calls Tryz.prog 151 #[.pointer (some ⟨d, 0, none⟩)] w fun e w' => LgPost w d lim n0 L a o (endL s n) e w' := by
  have HL : Hid (Live w d lim n0 s L a o V) := h
  obtain ⟨g, zs, gone, hd⟩ := h.dk
  have hrow := h.2.1.row
  obtain ⟨av, cv, hv, hc1, hc2, _⟩ := hrow.shape
  rw [ivals_len, ints_len] at hv hc1
  have hir : IRow w av (ints s.row) := hrow.irow hv
  have q5 : w.cell? ⟨d, 32782, none⟩ = some (.slice av s.row.length cv) := by rw [← hv]; exact hd.row
  have q1 : w.cell? ⟨d, 32778, none⟩ = some (.int .i64 s.lits) := hd.lits
  have q2 := hd.all
  have q3 := hd.cl
  have q4 := hd.code
  have q6 := hd.again
  have fz := hd.fz
  have hne : ∃ b off, av = some ⟨b, off, none⟩ := by
    rcases hir with h | ⟨b, off, h, _⟩
    · have := congrArg List.length h; rw [ints_len, List.length_nil] at this; omega
    · exact ⟨b, off, h⟩
  obtain ⟨b, off, rfl⟩ := hne
  have hbd : b ≠ d := by
    obtain ⟨n1, _⟩ := h.neq
    rcases hrow with ⟨h, _⟩ | ⟨b', off', cap', cur, h, hq, _⟩
    · rw [hv] at h; cases h
    · rw [hv] at h
      simp only [Value.slice.injEq, Option.some.injEq, Addr.mk.injEq] at h
      have := (n1 b' hq).1
      rw [← h.1.1] at this
      exact this
  have kx : w.cell? ⟨b, off + 256, none⟩ = some (.int .i64 ((s.row[256]?.getD 0 : Nat) : Int)) := by
    obtain ⟨b', off', he, hc⟩ := hir.at 256 (by rw [ints_len]; omega)
    simp only [Option.some.injEq, Addr.mk.injEq] at he
    obtain ⟨rfl, rfl, _⟩ := he
    rw [hc, ints_at]
    rfl
  have HIR : Hid (IRow w (some ⟨b, off, none⟩) (ints s.row)) := hir
  have HLEN : Hid (s.row.length = s.all) := hlen
  have H15 : Hid (∀ x ∈ s.row, x ≤ 15) := h15
  unfold maxLen at hc2
  clear hd h hrow hir hv h15
  obtain ⟨N, hN⟩ : ∃ N, s.row.length = N := ⟨_, rfl⟩
  rw [hN] at q5 hc1 hlen
  have HN : Hid (s.row.length = N) := hN
  obtain ⟨M, hM⟩ : ∃ M, s.lits = M := ⟨_, rfl⟩
  rw [hM] at q1 hl1 hl2 hl3 hl4
  have HM : Hid (s.lits = M) := hM
  have hMN : M < N := by omega
  have hN2 : N ≤ 316 := by omega
  clear hN hM hlen hl3 hl4
  go_enter Tryz.func151, Tryz.ntmps151
  go_wp2
  go_quiet (fail)
  obtain ⟨w2, hw2⟩ : ∃ w2, w.drewN nq = w2 := ⟨_, rfl⟩
  have hcw : ∀ x, w2.cell? x = w.cell? x := fun x => by rw [← hw2]; rfl
  have hfw : ∀ x, w2.frozen? x = w.frozen? x := fun x => by rw [← hw2]; rfl
  have HL2 : Hid (Live w2 d lim n0 s L a o V ∧ Step w w2 d o o) := by rw [← hw2]; exact ⟨HL.out.drewN nq, (Step.refl _ _ _).drewN nq⟩
  have HIR2 : Hid (IRow w2 (some ⟨b, off, none⟩) (ints s.row)) := by rw [← hw2]; exact HIR.out.old ⟨rfl, rfl, rfl, Nat.le_refl _, fun _ _ => rfl⟩
  rw [hw2]
  have r1 := (hcw _).trans q1
  have r2 := (hcw _).trans q2
  have r3 := (hcw _).trans q3
  have r4 := (hcw _).trans q4
  have r5 := (hcw _).trans q5
  have r6 := (hcw _).trans q6
  have rx := (hcw _).trans kx
  have rf : ∀ j, w2.frozen? ⟨d, j, none⟩ = false := fun j => (hfw _).trans (fz j)
  clear hw2 hcw hfw q1 q2 q3 q4 q5 q6 kx fz HL HIR
  obtain ⟨Z, hZ⟩ : ∃ Z, s.row[256]?.getD 0 = Z := ⟨_, rfl⟩
  rw [hZ] at rx
  have HZ : Hid (s.row[256]?.getD 0 = Z) := hZ
  clear hZ
  have hbd1 : ¬ b = d := hbd
  have hbd2 : ¬ d = b := fun e => hbd e.symm
  have h256 : (256 : Int) < (N : Int) := by omega
  have HIR3 : Hid (IRow (wLens w2 d) (some ⟨b, off, none⟩) (ints s.row)) := HIR2.out.same fun x hx _ => by
    cases hx
    unfold wLens
    rw [Below.heap_setCell _ _ _ _ hbd, Below.heap_setCell _ _ _ _ hbd, Below.heap_setCell _ _ _ _ hbd, Below.heap_setCell _ _ _ _ hbd, Below.heap_setCell _ _ _ _ hbd, Below.heap_setCell _ _ _ _ hbd]
  have HL3 : Hid (Live (wLens w2 d) d lim n0 (clr s) L a { o with q := none } { V with code := .pointer none, row := .slice none 0 0 } ∧ Step w (wLens w2 d) d o { o with q := none }) := ⟨HL2.out.1.lensC.1, HL2.out.2.trans HL2.out.1.lensC.2⟩
  have HBAD : Hid ((Z = 0 ∨ wholeB (ints (s.row.take M)) = false ∨ wholeB (ints (s.row.drop M)) = false) → ∀ w', Live w' d lim n0 (clr s) L a { o with q := none } { V with code := .pointer none, row := .slice none 0 0 } → Step w w' d o { o with q := none } → LgPost w d lim n0 L a o (endL s n) (.returned (.int .i64 5)) w') := fun hx w' hl hs => by
    unfold endL
    rw [HZ.out, HM.out, if_pos hx]
    exact ⟨rfl, by decide, by decide, clr s, a, _, _, hl, rfl, by show s.now ≠ 11; omega, hs⟩
  by_cases hz : Z = 0
  · subst hz
    have HP : Hid (LgPost w d lim n0 L a o (endL s n) (.returned (.int .i64 5)) (wLens w2 d)) := HBAD.out (.inl rfl) _ HL3.out.1 HL3.out.2
    clear HL3 HBAD HIR3 HL2 HIR2
    unfold wLens at HP
    go_wp2
    go_ret
    exact HP.out
  · have hzb : ((Z : Int) == 0) = false := by simp; omega
    have N1 := new_row (some ⟨b, off, none⟩) M cv (s.row.take M) (wLens w2 d) (by rw [List.length_take, HN.out]; omega) (by omega) (by rw [ints_take]; exact irow_take HIR3.out M) (fun x hx => H15.out x (List.mem_of_mem_take hx))
    have hcM : ¬ cv = M := by omega
    have hMN' : (M : Int) ≤ (N : Int) := by omega
    have hNcv : (N : Int) ≤ (cv : Int) := by omega
    have hMcv : (M : Int) ≤ (cv : Int) := by omega
    clear HL2 HIR2
    unfold wLens at N1
    go_wp2_with fail
    refine N1.mono ?_
    rintro e w4 (⟨hwh, rfl, hw4⟩ | ⟨hwh, hcd, c1, rfl, hc1, hca1, hb4⟩)
    · rw [hw4]
      have HP : Hid (LgPost w d lim n0 L a o (endL s n) (.returned (.int .i64 5)) (wLens w2 d)) := HBAD.out (.inr (.inl hwh)) _ HL3.out.1 HL3.out.2
      clear HL3 HBAD HIR3 N1 hw4 hwh
      unfold wLens at HP
      go_wp2
      go_ret
      exact HP.out
    · have hb4' : Below (wLens w2 d).heap.size (wLens w2 d) w4 := hb4
      have HL4 : Hid (Live w4 d lim n0 (clr s) L a { o with q := none } { V with code := .pointer none, row := .slice none 0 0 } ∧ Step w w4 d o { o with q := none } ∧ CodeAt w4 c1 (s.row.take M) ∧ Cd (s.row.take M)) := ⟨HL3.out.1.old hb4', HL3.out.2.trans (Below.step hb4'), hca1, hcd⟩
      have N2 := new_row (some ⟨b, off + M, none⟩) (N - M) (cv - M) (s.row.drop M) w4 (by rw [List.length_drop, HN.out]) (by omega) (by rw [ints_drop]; exact irow_drop (HIR3.out.old hb4') M) (fun x hx => H15.out x (List.mem_of_mem_drop hx))
      obtain ⟨g, zs, gone, hd⟩ := HL4.out.1.dk
      have p2 := hd.k2
      have p3 := hd.c1
      have p4 := hd.c2
      have pf := hd.fz
      clear hd hb4 hb4' hca1 hcd HL3 HIR3 N1 r1 r2 r3 r4 r5 r6 rx rf
      go_wp2_with fail
      refine N2.mono ?_
      rintro e w6 (⟨hwh2, rfl, hw6⟩ | ⟨hwh2, hcd2, c2, rfl, hc2, hca2, hb6⟩)
      · rw [hw6]
        have HP : Hid (LgPost w d lim n0 L a o (endL s n) (.returned (.int .i64 5)) w4) := HBAD.out (.inr (.inr hwh2)) _ HL4.out.1 HL4.out.2.1
        clear HL4 HBAD N2 hw6 hwh2
        go_wp2
        go_ret
        exact HP.out
      · obtain ⟨l7, s7⟩ := (HL4.out.1.old hb6).codesN (HL4.out.2.2.1.old hb6) HL4.out.2.2.2 hca2 hcd2
        have HP : Hid (LgPost w d lim n0 L a o (endL s n) (.returned (.int .i64 0)) (((w6.setCell ⟨d, 32784, none⟩ (.pointer (some ⟨c1, 0, none⟩))).setCell ⟨d, 32785, none⟩ (.pointer (some ⟨c2, 0, none⟩))).setCell ⟨d, 2, none⟩ (.int .i64 7))) := by
          show LgPost _ _ _ _ _ _ _ _ _ _
          unfold endL
          rw [HZ.out, HM.out, if_neg (by rw [hwh, hwh2]; simp; exact hz)]
          exact ⟨rfl, _, _, l7, (HL4.out.2.1.trans (Below.step hb6)).trans s7⟩
        obtain ⟨g, zs, gone, hd⟩ := (HL4.out.1.old hb6).dk
        have t2 := hd.k2
        have t3 := hd.c1
        have t4 := hd.c2
        have tf := hd.fz
        clear hd HL4 HBAD N2 hwh hwh2 hcd2 hca2 hb6 l7 s7 p2 p3 p4 pf
        go_wp2
        go_ret
        exact HP.out
end
end Go.Proofs.YtloagniacjfkfaaGreatDoor
/- The lengths of a told block: one behind the other. -/
namespace Go.Proofs.YtloagniacjfkfaaGreatDoor
open Go.RowKit
section
variable {w : World} {d lim n0 : Nat} {s : St} {L : List Int} {a : Nat} {o : Ow} {V : Vs}
theorem ints_snoc (ns : List Nat) (k : Nat) (x : Nat) : ints (ns ++ List.replicate (k + 1) x) = ints (ns ++ List.replicate k x) ++ [(x : Int)] := by
  unfold ints
  rw [List.replicate_succ', ← List.append_assoc, List.map_append]
  rfl
theorem one_irow (w : World) (b : Int) : IRow (w.alloc (.cells #[.int .i64 b] 3)) (some ⟨w.heap.size, 0, none⟩) [b] := by
  refine .inr ⟨w.heap.size, 0, rfl, fun i hi => ?_⟩
  rw [Nat.zero_add, World.cell?_alloc_at _ _ _ _ rfl]
  simp at hi
  subst hi
  rfl
theorem len_row {w w4 : World} {m : Nat} {av : Value} {g' : Option Nat} {ob : Obj} (h : Live w d lim n0 s L a o V) (hsl : Sl w4 3 av g' (ivals (ints s.row) ++ ivals [(m : Int)])) (hg : g' = o.q ∨ ∃ j, g' = some j ∧ (w.alloc ob).heap.size ≤ j) (hgrow : (w.alloc ob).grownBy w4 o.q) :
    (∃ zs gone, Dk w4 d o.g zs gone (mkT s lim V)) ∧ Live (w4.setCell ⟨d, 32782, none⟩ av) d lim n0 { s with row := s.row ++ [m] } L a { o with q := g' } { V with row := av } ∧ Step w (w4.setCell ⟨d, 32782, none⟩ av) d o { o with q := g' } := by
  obtain ⟨n1, n2, n3⟩ := h.neq
  obtain ⟨tg, tgg, tq, tt⟩ := h.tags
  have hal : Below w.heap.size w (w.alloc ob) := (Below.refl _ _).alloc (Nat.le_refl _) _
  have hdl := h.lt
  have keep : ∀ k, k < w.heap.size → some k ≠ o.q → w4.heap[k]? = w.heap[k]? := fun k hk hq => (hgrow.block k (by simp only [World.alloc, Array.size_push]; omega) hq).trans (hal.block k hk)
  have hg2 : ∀ j, g' = some j → o.q = some j ∨ w.heap.size ≤ j := by
    intro j hj
    rcases hg with e | ⟨q, e, hq⟩
    · exact .inl (e.symm.trans hj)
    · rw [e] at hj; cases hj
      simp only [World.alloc, Array.size_push] at hq
      exact .inr (by omega)
  have hgd : ∀ j, g' = some j → j ≠ d := by
    intro j hj
    rcases hg2 j hj with e | e
    · exact (n1 j e).1
    · omega
  have hst : Step w (w4.setCell ⟨d, 32782, none⟩ av) d o { o with q := g' } := by
    refine ⟨hgrow.os.trans hal.os, hgrow.tape.trans hal.tape, hgrow.output.trans hal.output, ?_, fun j hj h1 _ h3 _ => ?_, fun j hj => .inl hj, hg2, fun j hj => .inl hj⟩
    · have := hgrow.size
      simp only [World.alloc, Array.size_push, World.setCell, Array.size_modify] at this ⊢
      omega
    · rw [Below.heap_setCell _ _ _ _ h1, keep j hj h3]
  have ht := h.tame hst
  have hh := h.2.1
  obtain ⟨⟨zs, gone, hd, hr⟩, _, hll⟩ := h
  have hd4 : Dk w4 d o.g zs gone (mkT s lim V) := hd.same (keep d hd.lt (fun e => (n1 d e.symm).1 rfl)) fun j hj => by obtain ⟨c, e⟩ := tgg j hj; exact keep j (lt_of_block e) (n3 j hj).2.2
  refine ⟨⟨zs, gone, hd4⟩, ⟨⟨zs, gone, hd4.s_row av, hr⟩, ⟨hh.le, hh.nle, hh.win, hh.byt, ?_, hh.code.tame ht, ?_, hh.c1.tame ht, hh.c2.tame ht, hh.fx.imp_right (fun x => ⟨x.1.tame ht, x.2.tame ht⟩), hh.sep⟩, hll⟩, hst⟩
  · exact hh.told.same fun k hk => by
      obtain ⟨c, e⟩ := tt k hk
      rw [Below.heap_setCell _ _ _ _ (n2 k hk).1, keep k (lt_of_block e) (n2 k hk).2.2]
  · show Sl _ 3 av g' (ivals (ints (s.row ++ [m])))
    have e : ints (s.row ++ [m]) = ints s.row ++ [(m : Int)] := by unfold ints; rw [List.map_append]; rfl
    rw [e, ivals_append]
    exact hsl.same fun j hj => Below.heap_setCell _ _ _ _ (hgd j hj)
set_option maxHeartbeats 1600000 in
set_option maxRecDepth 20000 in
theorem lengthen_any (v times n : Nat) (h : Live w d lim n0 s L a o V) (hnow : s.now = 5) (hlen : s.row.length < s.all) (ht1 : 1 ≤ times) (ht2 : times ≤ 1000) (hv : v ≤ 15) (hl1 : 257 ≤ s.lits) (hl2 : s.lits ≤ 286) (hl3 : s.lits < s.all) (hl4 : s.all ≤ s.lits + 30) (h15 : ∀ x ∈ s.row, x ≤ 15) :
    Calls Tryz.prog 131 #[.pointer (some ⟨d, 0, none⟩), .int .i64 v, .int .i64 times] w fun e w' => LgPost w d lim n0 L a o (lengL s v times n) e w' := by
  have HL : Hid (Live w d lim n0 s L a o V) := h
  obtain ⟨i0, hi, hz0, hz1, hz2⟩ := info_parts Tryz.info3
  obtain ⟨g, zs, gone, hd⟩ := h.dk
  obtain ⟨av, cv, hvv, hc1, hc2, _⟩ := h.2.1.row.shape
  rw [ivals_len, ints_len] at hvv hc1
  have q5 : w.cell? ⟨d, 32782, none⟩ = some (.slice av s.row.length cv) := by rw [← hvv]; exact hd.row
  have q2 : w.cell? ⟨d, 32779, none⟩ = some (.int .i64 s.all) := hd.all
  have H15 : Hid (∀ x ∈ s.row, x ≤ 15) := h15
  clear hd h hvv h15
  obtain ⟨N, hN⟩ : ∃ N, s.row.length = N := ⟨_, rfl⟩
  rw [hN] at q5 hlen
  have HN : Hid (s.row.length = N) := hN
  obtain ⟨A, hA⟩ : ∃ A, s.all = A := ⟨_, rfl⟩
  rw [hA] at q2 hlen hl3 hl4
  have HA : Hid (s.all = A) := hA
  have hA2 : A ≤ 316 := by omega
  clear hN hA hc1
  by_cases hbig : A < N + times
  · have hbigi : (A : Int) < (N : Int) + times := by omega
    have HP : Hid (∀ m, LgPost w d lim n0 L a o (lengL s v times n) (.returned (.int .i64 5)) (w.drewN m)) := fun m => by
      unfold lengL
      rw [HN.out, HA.out, if_pos hbig]
      exact ⟨rfl, by decide, by decide, s, a, o, V, HL.out.drewN m, rfl, by omega, (Step.refl _ _ _).drewN m⟩
    clear HL hbig
    go_enter Tryz.func131, Tryz.ntmps131
    go_wp2
    go_quiet (fail)
    go_wp2
    go_ret
    exact HP.out _
  · have hbigi : (N : Int) + times ≤ (A : Int) := by omega
    have hdec : decide ((A : Int) < (N : Int) + times) = false := by simp; omega
    have HLE : Hid (lengL s v times n = if N + times < A then .ok { s with row := s.row ++ List.replicate times v } n else endL { s with row := s.row ++ List.replicate times v } n) := by
      show _ = _
      unfold lengL
      rw [HN.out, HA.out, if_neg hbig]
    go_enter Tryz.func131, Tryz.ntmps131
    go_wp2
    go_quiet (fail)
    go_wp2
    have HL2 : Hid (Live (w.drewN nq) d lim n0 s L a o V ∧ Step w (w.drewN nq) d o o) := ⟨HL.out.drewN nq, (Step.refl _ _ _).drewN nq⟩
    generalize w.drewN nq = w2 at HL2 ⊢
    clear HL q5 q2
    go_loopw [22] (fun i wr => ∃ (t : Nat) (o' : Ow) (V' : Vs), t ≤ times ∧ i = .int .i64 t ∧ Hid (Live wr d lim n0 { s with row := s.row ++ List.replicate t v } L a o' V' ∧ Step w wr d o o')) (fun i _ => times - (intOf i).toNat)
    case atStart => exact ⟨0, o, V, by omega, rfl, by simp only [List.replicate_zero, List.append_nil]; exact HL2.out.1, HL2.out.2⟩
    case round =>
      obtain ⟨t, o', V', ht, rfl, HQ⟩ := hrel
      obtain ⟨g, zs, gone, hd⟩ := HQ.out.1.dk
      obtain ⟨av2, cv2, hv2, hc3, hc4, _⟩ := HQ.out.1.2.1.row.shape
      rw [ivals_len, ints_len] at hv2 hc3
      have hlen2 : (s.row ++ List.replicate t v).length = N + t := by rw [List.length_append, List.length_replicate, HN.out]
      simp only at hv2 hc3
      rw [hlen2] at hv2 hc3
      have q5 : wr.cell? ⟨d, 32782, none⟩ = some (.slice av2 (N + t) cv2) := by rw [← hv2]; exact hd.row
      have q2 : wr.cell? ⟨d, 32779, none⟩ = some (.int .i64 A) := by rw [← HA.out]; exact hd.all
      have fz := hd.fz
      clear hd
      by_cases hlt : t < times
      · have hlti : (t : Int) < times := by omega
        have HSL : Hid (Sl (wr.alloc (.cells #[.int .i64 v] 3)) 3 (.slice av2 (N + t) cv2) o'.q (ivals (ints (s.row ++ List.replicate t v)))) := by
          have hb : Below wr.heap.size wr (wr.alloc (.cells #[.int .i64 v] 3)) := (Below.refl _ _).alloc (Nat.le_refl _) _
          rw [← hv2]
          exact HQ.out.1.2.1.row.same fun k hk => hb.block k (HQ.out.1.2.1.row.lt hk)
        have HBN : Hid ((ivals (ints (s.row ++ List.replicate t v))).length ≤ 1400) := by show _ ≤ _; rw [ivals_len, ints_len, hlen2]; omega
        clear hv2 hc3 hc4 hlen2
        go_wp2_with (at_builtin; refine wpList_append_sl rfl _ _ 57 rfl 3 i0 (.int .i64 0) 8 Tryz.underlying57 hi hz0 hz1 hz2 rfl _ o'.q (ivals (ints (s.row ++ List.replicate t v))) rfl HSL.out ⟨wr.heap.size, 0, none⟩ 1 1 (ivals [(v : Int)]) rfl rfl (inews_row (one_irow _ v)) (ivals_one _) (by have := HBN.out; omega) (by unfold maxLen; have := HBN.out; omega) ?_)
        intro v' w4 g' hsl hg' hgrow
        obtain ⟨⟨zs4, gone4, hd4⟩, l5, s5⟩ := len_row HQ.out.1 hsl (by simpa using hg') hgrow
        obtain ⟨av5, cv5, hv5, -, -, -⟩ := hsl.shape
        obtain ⟨m5, hm5⟩ : ∃ m, (ivals (ints (s.row ++ List.replicate t v)) ++ ivals [(v : Int)]).length = m := ⟨_, rfl⟩
        rw [hm5] at hv5
        subst hv5
        have HR : Hid (Live (w4.setCell ⟨d, 32782, none⟩ (.slice av5 m5 cv5)) d lim n0 { s with row := s.row ++ List.replicate (t + 1) v } L a { o' with q := g' } { V' with row := .slice av5 m5 cv5 } ∧ Step w (w4.setCell ⟨d, 32782, none⟩ (.slice av5 m5 cv5)) d o { o' with q := g' }) := by
          refine ⟨?_, HQ.out.2.trans s5⟩
          have e : s.row ++ List.replicate (t + 1) v = s.row ++ List.replicate t v ++ [v] := by rw [List.replicate_succ', List.append_assoc]
          rw [e]
          exact l5
        have p5 := hd4.row
        have pf := hd4.fz
        clear hd4 l5 s5 hsl hg' hgrow HSL HBN HQ hm5 q5 q2 fz
        go_wp2
        go_roundw
        case rel => exact ⟨t + 1, _, _, by omega, by go_num, HR.out⟩
        case measure => simp [intOf]; omega
      · obtain rfl : t = times := by omega
        by_cases hmore : N + t < A
        · have hmorei : (N : Int) + t < (A : Int) := by omega
          have HP : Hid (∀ m, LgPost w d lim n0 L a o (lengL s v t n) (.returned (.int .i64 0)) (wr.drewN m)) := fun m => by
            rw [HLE.out, if_pos hmore]
            exact ⟨rfl, o', V', HQ.out.1.drewN m, HQ.out.2.drewN m⟩
          clear HQ HLE hv2 hc3 hc4 hlen2 hmore hbig
          go_wp2
          go_quiet (fail)
          go_wp2
          go_ret
          exact HP.out _
        · have hmorei : (A : Int) ≤ (N : Int) + t := by omega
          have HE : Hid (∀ m, Calls Tryz.prog 151 #[.pointer (some ⟨d, 0, none⟩)] (wr.drewN m) fun e w' => LgPost (wr.drewN m) d lim n0 L a o' (endL { s with row := s.row ++ List.replicate t v } n) e w') := fun m =>
            endLens_any n (HQ.out.1.drewN m) hnow (by simp only; rw [hlen2, HA.out]; omega) hl1 hl2 (by simp only; rw [HA.out]; exact hl3) (by simp only; rw [HA.out]; exact hl4) (fun x hx => by
              rcases List.mem_append.1 hx with h | h
              · exact H15.out x h
              · rw [List.mem_replicate] at h; rw [h.2]; exact hv)
          have HP : Hid (∀ m e w', LgPost (wr.drewN m) d lim n0 L a o' (endL { s with row := s.row ++ List.replicate t v } n) e w' → LgPost w d lim n0 L a o (lengL s v t n) e w') := fun m e w' hq => by
            rw [HLE.out, if_neg hmore]
            have hs := HQ.out.2
            revert hq
            cases endL { s with row := s.row ++ List.replicate t v } n with
            | short => exact fun h => h
            | bad er out => exact fun ⟨h1, h2, h3, s', a', o2, V2, h4, h5, h6, h7⟩ => ⟨h1, h2, h3, s', a', o2, V2, h4, h5, h6, hs.trans h7.of_drewN⟩
            | ok s2 k => exact fun ⟨h1, o2, V2, h4, h7⟩ => ⟨h1, o2, V2, h4, hs.trans h7.of_drewN⟩
          clear HQ HLE hv2 hc3 hc4 hlen2 hmore hbig
          go_wp2
          go_quiet (fail)
          go_wp2_with fail
          refine (HE.out _).mono ?_
          intro e w5 hq
          have HQ5 := HP.out _ _ _ hq
          have hret : ∃ x : Int, e = .returned (.int .i64 x) := by
            revert hq
            cases endL { s with row := s.row ++ List.replicate t v } n with
            | short => exact fun h => h.elim
            | bad er out => exact fun h => ⟨_, h.1⟩
            | ok s2 k => exact fun h => ⟨_, h.1⟩
          obtain ⟨x, rfl⟩ := hret
          have HQ6 : Hid (LgPost w d lim n0 L a o (lengL s v t n) (.returned (.int .i64 x)) w5) := HQ5
          clear hq HQ5 HP HE
          go_wp2
          go_ret
          exact HQ6.out
end
end Go.Proofs.YtloagniacjfkfaaGreatDoor
