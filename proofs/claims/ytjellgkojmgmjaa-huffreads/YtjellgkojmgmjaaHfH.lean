/- The next symbol, as the program reads it. -/
import Derived.Test.YtjellgkojmgmjaaHfG
import Derived.Test.YtjellgkojmgmjaaRd3
namespace Go.Proofs.Ytjellgkojmgmjaa
open Go.RowKit

/-- The first k bits, the first one the highest. -/
def pv (nb : Nat → Nat) : Nat → Nat
  | 0 => 0
  | k + 1 => pv nb k * 2 + nb k
theorem pv_lt {nb : Nat → Nat} (h : ∀ i, nb i < 2) (k : Nat) : pv nb k < 2 ^ k := by
  induction k with
  | zero => exact Nat.one_pos
  | succ k ih => rw [pv, Nat.pow_succ]; have := h k; omega
/-- The symbol, the error, how many bits are taken; k bits are looked at. -/
def nxt (ns : List Nat) (nb : Nat → Nat) (N : Nat) : Nat → Nat → Int × Int × Nat
  | 0, _ => (0, 6, 0)
  | f + 1, k => if N ≤ k then (0, 2, 0) else if stB (fin ns) ns.length (k + 1) (pv nb (k + 1)) then nxt ns nb N f (k + 1) else match wdF ns ns.length (k + 1) (pv nb (k + 1)) with | some s => (s, 0, k + 1) | none => (0, 6, 0)
def bitF (zs : List Int) (gone : Nat) (i : Nat) : Nat := (bitV zs gone / 2 ^ i % 2).toNat
theorem bitF_lt (zs : List Int) (gone i : Nat) : bitF zs gone i < 2 := by unfold bitF; omega
theorem bitF_int (zs : List Int) (gone i : Nat) : bitV zs gone / 2 ^ i % 2 = (bitF zs gone i : Int) := by unfold bitF; omega
theorem stB_small {ns : List Nat} (hc : Cd ns) {t l b : Nat} (h : stB (fin ns) t l b = true) : l < 15 := by
  obtain ⟨s, _, _, h2, _⟩ := (stB_iff _ _ _ _).1 h
  have := hc.le s
  have h3 : l < hn ns s := h2
  omega
theorem below_drewN' {B : Nat} {w wr : World} (h : Below B w wr) (n : Nat) : Below B w (wr.drewN n) := ⟨h.os, h.tape, h.output, h.size, h.block⟩
def NxRel (w : World) (M j v : Nat) (wr : World) : Prop :=
  wr.heap[M]? = some (.cells #[.int .u16 j, .int .u16 v] 68 (0, 0)) ∧ Below w.heap.size w wr
/-- What Next leaves: of the reader zs' and gone' are left. -/
def NextPost (w : World) (r : Nat) (g : Option Nat) (zs : List Int) (gone : Nat) (o : Int × Int × Nat) (e : Ending) (w' : World) : Prop :=
  e = .returned (.tuple #[.int .i64 o.1, .int .i64 o.2.1]) ∧ Rd w' r g (zs.drop ((gone + o.2.2) / 8)) ((gone + o.2.2) % 8) ∧ Fr w w' r g
theorem NextPost.stay {w wr : World} {r : Nat} {g : Option Nat} {zs : List Int} {gone : Nat} {s e : Int} (hr : Rd w r g zs gone) (hg : gone < 8) (hb : Below w.heap.size w wr) : NextPost w r g zs gone (s, e, 0) (.returned (.tuple #[.int .i64 s, .int .i64 e])) wr := by
  refine ⟨rfl, ?_, Fr.of_heap hb⟩
  rw [show (gone + (s, e, 0).2.2) / 8 = 0 by simp; omega, show (gone + (s, e, 0).2.2) % 8 = gone by simp; omega]
  exact hr.old hb

set_option maxHeartbeats 1600000 in
set_option maxRecDepth 10000 in
theorem next_any (c r : Nat) (g : Option Nat) (ns : List Nat) (zs : List Int) (gone : Nat) (w : World) (h : CodeAt w c ns) (hc : Cd ns) (hr : Rd w r g zs gone) (hb : Bytes zs) (hl : zs.length ≤ 140737488355328) (hg : gone < 8) (hgz : gone ≤ 8 * zs.length) :
    Calls Try.prog 17 #[.pointer (some ⟨c, 0, none⟩), .pointer (some ⟨r, 0, none⟩)] w fun e w' => NextPost w r g zs gone (nxt ns (bitF zs gone) (8 * zs.length - gone) 15 0) e w' := by
  have HC : Hid (Cd ns) := hc
  have HR : Hid (Rd w r g zs gone) := hr
  have HB : Hid (Bytes zs) := hb
  have HCO : Hid (CodeAt w c ns) := h
  have HS : Hid (NxRel w w.heap.size 0 0 (w.alloc (.cells #[.int .u16 0, .int .u16 0] 68))) := ⟨heap_alloc_new _ _, (Below.refl _ _).alloc (Nat.le_refl _) _⟩
  clear h hc hr hb
  have mixed := Try.mixed
  go_enter Try.func17, Try.ntmps17
  go_wp2
  go_step3
  go_wp2
  go_step3
  go_wp2
  generalize hM : w.heap.size = M at HS ⊢
  have HM : Hid (w.heap.size = M) := hM
  clear hM
  go_loopg [7] 15 (fun fu _ wr => ∃ j : Nat, j ≤ 14 ∧ j + fu = 15 ∧ Hid (nxt ns (bitF zs gone) (8 * zs.length - gone) (15 - j) j = nxt ns (bitF zs gone) (8 * zs.length - gone) 15 0) ∧ NxRel w M j (pv (bitF zs gone) j) wr)
  case atStart => exact ⟨0, by omega, by omega, rfl, HS.out⟩
  case round =>
    clear HS
    obtain ⟨j, hj14, hjf, HQ, hMM, hbel⟩ := hrel
    obtain ⟨q0, q1, f0, f1⟩ := two_cells hMM
    have hwj : IntKind.i64.wrap (j : Int) = (j : Int) := by rw [IntKind.wrap_i64]; omega
    have HMM : Hid (wr.heap[M]? = some (.cells #[.int .u16 j, .int .u16 (pv (bitF zs gone) j : Nat)] 68 (0, 0))) := hMM
    have HBL : Hid (Below w.heap.size w wr) := hbel
    clear hMM hbel
    have HST : Hid (nxt ns (bitF zs gone) (8 * zs.length - gone) (15 - j) j = if 8 * zs.length - gone ≤ j then (0, 2, 0) else if stB (fin ns) ns.length (j + 1) (pv (bitF zs gone) (j + 1)) then nxt ns (bitF zs gone) (8 * zs.length - gone) (15 - (j + 1)) (j + 1) else match wdF ns ns.length (j + 1) (pv (bitF zs gone) (j + 1)) with | some s => (s, 0, j + 1) | none => (0, 6, 0)) := by
      show _ = _
      rw [show 15 - j = (15 - (j + 1)) + 1 by omega]
      rfl
    by_cases hN : 8 * zs.length - gone ≤ j
    · have HP : Hid (NextPost w r g zs gone (nxt ns (bitF zs gone) (8 * zs.length - gone) 15 0) (.returned (.tuple #[.int .i64 0, .int .i64 2])) (wr.drewN 0) ∧ ∀ n, NextPost w r g zs gone (nxt ns (bitF zs gone) (8 * zs.length - gone) 15 0) (.returned (.tuple #[.int .i64 0, .int .i64 2])) (wr.drewN n)) := by
        have : ∀ n, NextPost w r g zs gone (nxt ns (bitF zs gone) (8 * zs.length - gone) 15 0) (.returned (.tuple #[.int .i64 0, .int .i64 2])) (wr.drewN n) := fun n => by
          rw [← HQ.out, HST.out, if_pos hN]
          exact NextPost.stay HR.out hg (below_drewN' HBL.out n)
        exact ⟨this 0, this⟩
      go_wp2_with fail
      refine (look_no r g zs gone j _ (HR.out.old HBL.out) hl hg (.inr (by omega))).mono ?_
      rintro e w2 ⟨rfl, n2, rfl⟩
      go_wp2
      rw [Exit.noGoto_ret]
      go_ret2
      exact HP.out.2 n2
    · go_wp2_with fail
      refine (look_yes r g zs gone j _ (HR.out.old HBL.out) HB.out hl hg (by omega)).mono ?_
      rintro e w2 ⟨rfl, n2, rfl⟩
      rw [bitF_int]
      have hbj := bitF_lt zs gone j
      obtain ⟨w2, hw2⟩ : ∃ w2, wr.drewN n2 = w2 := ⟨_, rfl⟩
      have HM2 : Hid (w2.heap[M]? = some (.cells #[.int .u16 j, .int .u16 (pv (bitF zs gone) j : Nat)] 68 (0, 0))) := by rw [← hw2]; exact HMM.out
      have HB2 : Hid (Below w.heap.size w w2) := by rw [← hw2]; exact below_drewN' HBL.out n2
      rw [hw2]
      clear hw2 HMM HBL q0 q1 f0 f1
      obtain ⟨q0, q1, f0, f1⟩ := two_cells HM2.out
      have HPV : Hid (pv (bitF zs gone) (j + 1) = pv (bitF zs gone) j * 2 + bitF zs gone j) := rfl
      have hp1 := pv_lt (bitF_lt zs gone) j
      have hp2 : (2 : Nat) ^ j ≤ 2 ^ 14 := Nat.pow_le_pow_right (by omega) hj14
      have hp3 : pv (bitF zs gone) j ≤ 16383 := by omega
      clear hp1 hp2
      obtain ⟨bb, hbb⟩ : ∃ bb, bitF zs gone j = bb := ⟨_, rfl⟩
      rw [hbb] at HPV hbj ⊢
      have hw16 : IntKind.u16.wrap (bb : Int) = (bb : Int) := by rw [IntKind.wrap_u16]; omega
      obtain ⟨P, hP⟩ : ∃ P, pv (bitF zs gone) j = P := ⟨_, rfl⟩
      rw [hP] at HPV hp3 q1 HM2
      clear hbb hP
      go_wp2_with fail
      refine (and_any j P bb _ (by omega) (by omega) (by omega)).mono ?_
      rintro e w3 ⟨rfl, hb3⟩
      have HM3 : Hid (w3.heap[M]? = some (.cells #[.int .u16 j, .int .u16 P] 68 (0, 0))) := (hb3.block _ (lt_of_block HM2.out)).trans HM2.out
      have HB3 : Hid (Below w.heap.size w w3) := HB2.out.trans (hb3.mono HB2.out.size)
      clear hb3 HM2 HB2 q0 q1 f0 f1
      obtain ⟨q0, q1, f0, f1⟩ := two_cells HM3.out
      obtain ⟨w4, hw4⟩ : ∃ w4, (w3.setCell ⟨M, 0, none⟩ (.int .u16 ((j : Int) + 1))).setCell ⟨M, 1, none⟩ (.int .u16 ((P : Int) * 2 + (bb : Int))) = w4 := ⟨_, rfl⟩
      have HM4 : Hid (w4.heap[M]? = some (.cells #[.int .u16 ((j + 1 : Nat) : Int), .int .u16 ((P * 2 + bb : Nat) : Int)] 68 (0, 0))) := by rw [← hw4]; exact two_set1 (two_set0 HM3.out)
      have HB4 : Hid (Below w.heap.size w w4) := by
        rw [← hw4]
        exact Fr.below HB3.out ((Fr.set M 0 _ none).trans (Fr.set M 1 _ none) (.inl rfl)) (by rw [HM.out]; exact Nat.le_refl _) (by intro q hq; cases hq) HB3.out.size
      obtain ⟨bw, bs, B, n1, nn2, hcode, hmw, hms, hrow⟩ := HCO.out.old HB4.out
      obtain ⟨p0, p1, p2, _⟩ := three_cells hcode
      have hXl : P * 2 + bb < 65536 := by omega
      have hls : ∀ n, (Instr.lookup 61 (.map (some bs)) (.agg #[.int .u16 ((j : Int) + 1), .int .u16 ((P : Int) * 2 + (bb : Int))]) true).run Try.prog (w4.drewN n) = .ok (.tuple #[.int .i64 ((stF (fin ns) ns.length (j + 1) (P * 2 + bb)).getD 0), .bool (stF (fin ns) ns.length (j + 1) (P * 2 + bb)).isSome]) (w4.drewN n) := fun n => MapF.look (w := w4.drewN n) hms (j + 1) (P * 2 + bb) (by omega) hXl
      have HST2 : Hid (nxt ns (bitF zs gone) (8 * zs.length - gone) 15 0 = if stB (fin ns) ns.length (j + 1) (P * 2 + bb) then nxt ns (bitF zs gone) (8 * zs.length - gone) (15 - (j + 1)) (j + 1) else match wdF ns ns.length (j + 1) (P * 2 + bb) with | some s => (s, 0, j + 1) | none => (0, 6, 0)) := by
        show _ = _
        rw [← HQ.out, HST.out, if_neg hN, HPV.out]
      have HMW : Hid (MapF w4 bw n1 (wdF ns ns.length)) := hmw
      have HCD : Hid (w4.heap[c]? = some (.cells #[.map (some bw), .map (some bs), .slice (some ⟨B, 0, none⟩) ns.length ns.length] 66 (0, 0))) := hcode
      clear HST HQ hcode hmw hms hrow
      have HW4 : Hid _ := hw4
      clear hw4
      have m0 : w4.cell? ⟨M, 0, none⟩ = some (.int .u16 ((j : Int) + 1)) := (two_cells HM4.out).1
      have m1 : w4.cell? ⟨M, 1, none⟩ = some (.int .u16 ((P : Int) * 2 + (bb : Int))) := (two_cells HM4.out).2.1
      by_cases hst : stB (fin ns) ns.length (j + 1) (P * 2 + bb) = true
      · have e1 : stF (fin ns) ns.length (j + 1) (P * 2 + bb) = some ((j + 1 : Nat) : Int) := by unfold stF; rw [if_pos hst]
        have hj15 := stB_small HC.out hst
        have R : Hid (nxt ns (bitF zs gone) (8 * zs.length - gone) (15 - (j + 1)) (j + 1) = nxt ns (bitF zs gone) (8 * zs.length - gone) 15 0) := by show _ = _; rw [HST2.out, if_pos hst]
        rw [e1] at hls
        simp only [Option.getD_some, Option.isSome_some] at hls
        clear HST2 hst e1 HMW HCD
        go_wp2
        rw [HW4.out]
        go_quiet (fail)
        go_wp2
        go_roundg (15 - (j + 1))
        case rel => exact ⟨j + 1, by omega, by omega, R.out, by rw [HPV.out]; exact HM4.out, below_drewN' HB4.out nq⟩
        case measure => omega
      · have e1 : stF (fin ns) ns.length (j + 1) (P * 2 + bb) = none := by unfold stF; rw [if_neg hst]
        rw [e1] at hls
        simp only [Option.getD_none, Option.isSome_none] at hls
        have HST3 : Hid (nxt ns (bitF zs gone) (8 * zs.length - gone) 15 0 = match wdF ns ns.length (j + 1) (P * 2 + bb) with | some s => (s, 0, j + 1) | none => (0, 6, 0)) := by show _ = _; rw [HST2.out, if_neg hst]
        clear HST2 hst e1
        go_wp2
        rw [HW4.out]
        go_quiet (fail)
        go_wp2
        obtain ⟨w5, hw5⟩ : ∃ w5, w4.drewN nq = w5 := ⟨_, rfl⟩
        rw [hw5]
        have HM5 : Hid (w5.heap[M]? = some (.cells #[.int .u16 ((j + 1 : Nat) : Int), .int .u16 ((P * 2 + bb : Nat) : Int)] 68 (0, 0))) := by rw [← hw5]; exact HM4.out
        have HB5 : Hid (Below w.heap.size w w5) := by rw [← hw5]; exact below_drewN' HB4.out nq
        have hcd5 : w5.heap[c]? = some (.cells #[.map (some bw), .map (some bs), .slice (some ⟨B, 0, none⟩) ns.length ns.length] 66 (0, 0)) := by rw [← hw5]; exact HCD.out
        have hmw5 : MapF w5 bw n1 (wdF ns ns.length) := by rw [← hw5]; exact HMW.out
        clear hw5 m0 m1 p0 p1 p2 hls HW4 HM4 HB4 HCD HMW
        have hlw : ∀ n, (Instr.lookup 61 (.map (some bw)) (.agg #[.int .u16 ((j : Int) + 1), .int .u16 ((P : Int) * 2 + (bb : Int))]) true).run Try.prog (w5.drewN n) = .ok (.tuple #[.int .i64 ((wdF ns ns.length (j + 1) (P * 2 + bb)).getD 0), .bool (wdF ns ns.length (j + 1) (P * 2 + bb)).isSome]) (w5.drewN n) := fun n => MapF.look (w := w5.drewN n) hmw5 (j + 1) (P * 2 + bb) (by omega) hXl
        obtain ⟨p0, p1, p2, _⟩ := three_cells hcd5
        have m0 : w5.cell? ⟨M, 0, none⟩ = some (.int .u16 ((j : Int) + 1)) := (two_cells HM5.out).1
        have m1 : w5.cell? ⟨M, 1, none⟩ = some (.int .u16 ((P : Int) * 2 + (bb : Int))) := (two_cells HM5.out).2.1
        clear hcd5 hmw5
        cases hwd : wdF ns ns.length (j + 1) (P * 2 + bb) with
        | none =>
          rw [hwd] at HST3 hlw
          simp only [Option.getD_none, Option.isSome_none] at hlw
          have HP : Hid (∀ n, NextPost w r g zs gone (nxt ns (bitF zs gone) (8 * zs.length - gone) 15 0) (.returned (.tuple #[.int .i64 0, .int .i64 6])) (w5.drewN n)) := fun n => by
            rw [HST3.out]
            exact NextPost.stay HR.out hg (below_drewN' HB5.out n)
          clear HST3 hwd
          go_quiet (fail)
          go_wp2
          rw [Exit.noGoto_ret]
          go_ret2
          exact HP.out _
        | some s =>
          rw [hwd] at HST3 hlw
          simp only [Option.getD_some, Option.isSome_some] at hlw
          have HST4 : Hid (nxt ns (bitF zs gone) (8 * zs.length - gone) 15 0 = (s, 0, j + 1)) := HST3.out
          clear HST3 hwd
          have hwj1 : IntKind.i64.wrap ((j : Int) + 1) = (j : Int) + 1 := by rw [IntKind.wrap_i64]; omega
          go_quiet (fail)
          go_wp2_with fail
          refine (take_yes r g zs gone (j + 1) _ (HR.out.old (below_drewN' HB5.out _)) HB.out hl hg (by omega) (by omega)).mono ?_
          rintro e w6 ⟨rfl, hr6, hf6⟩
          have HP : Hid (NextPost w r g zs gone (nxt ns (bitF zs gone) (8 * zs.length - gone) 15 0) (.returned (.tuple #[.int .i64 s, .int .i64 0])) w6) := by
            show NextPost _ _ _ _ _ _ _ _
            rw [HST4.out]
            exact ⟨rfl, hr6, (Fr.of_heap (below_drewN' HB5.out _)).trans hf6 (.inl rfl)⟩
          clear hr6 hf6 HST4
          go_wp2
          rw [Exit.noGoto_ret]
          go_ret2
          exact HP.out
end Go.Proofs.Ytjellgkojmgmjaa
