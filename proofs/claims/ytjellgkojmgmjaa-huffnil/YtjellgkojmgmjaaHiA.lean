/- A nil code, a nil reader; a reader of bytes. -/
import Derived.Test.YtjellgkojmgmjaaHfH
import Derived.Test.YtjellgkojmgmjaaHhC
namespace Go.Proofs.Ytjellgkojmgmjaa
open Go.RowKit

set_option maxHeartbeats 400000 in
theorem haveN (w : World) : Calls Try.prog 19 #[.pointer none] w fun e w' => e = .returned (.int .i64 0) ∧ w' = w := by
  go_enter Try.func19, Try.ntmps19
  go_wp2
  go_ret
  exact ⟨rfl, rfl⟩
set_option maxHeartbeats 400000 in
theorem lookN (w : World) : Calls Try.prog 35 #[.pointer none, .int .i64 0] w fun e w' => e = .returned (.int .i64 (-1)) ∧ w' = w := by
  go_enter Try.func35, Try.ntmps35
  go_wp2_with (go_at_call 19; refine (haveN _).mono ?_; rintro e w' ⟨rfl, rfl⟩)
  go_ret
  exact ⟨rfl, rfl⟩
def ReaderPost (w : World) (bs : List Int) (e : Ending) (w' : World) : Prop :=
  ∃ r g, e = .returned (.pointer (some ⟨r, 0, none⟩)) ∧ Rd w' r g bs 0 ∧ w.heap.size ≤ r ∧ (∀ k, g = some k → w.heap.size ≤ k) ∧ Below w.heap.size w w'
set_option maxHeartbeats 800000 in
theorem reader_any (a : Option Addr) (m c : Nat) (bs : List Int) (w : World) (hm : bs.length = m) (hc : a = none → c = 0) (hr : Row w a bs) (hl : m ≤ 140737488355328) :
    Calls Try.prog 16 #[.slice a m c] w fun e w' => ReaderPost w bs e w' := by
  have HR : Hid (Row w a bs) := hr
  have HM : Hid (bs.length = m) := hm
  clear hr hm
  go_enter Try.func16, Try.ntmps16
  go_wp2_with fail
  refine (new_any _).mono ?_
  rintro e w1 ⟨r, rfl, hr, hrd, hb1⟩
  have C := feed_any r none [] bs 0 a m c w1 hrd HM.out hc (HR.out.old hb1) (by simpa using hl)
  go_wp2_with (go_at_call 34; refine C.mono ?_; rintro e w2 ⟨rfl, g, hrd2, hg, hf⟩)
  go_ret
  refine ⟨r, g, rfl, by simpa using hrd2, hr, fun k hk => ?_, Fr.below hb1 hf hr (by intro q hq; cases hq) hb1.size⟩
  rcases hg with h | ⟨q, h, hq⟩
  · rw [h] at hk; cases hk
  · rw [h] at hk; cases hk; exact Nat.le_trans hb1.size hq
set_option maxHeartbeats 800000 in
theorem next_nilr (c : Nat) (w : World) : Calls Try.prog 17 #[.pointer (some ⟨c, 0, none⟩), .pointer none] w fun e w' => e = .returned (.tuple #[.int .i64 0, .int .i64 2]) ∧ Below w.heap.size w w' := by
  have HB : Hid (Below w.heap.size w (w.alloc (.cells #[.int .u16 0, .int .u16 0] 68))) := (Below.refl _ _).alloc (Nat.le_refl _) _
  go_enter Try.func17, Try.ntmps17
  go_wp2
  go_step3
  go_wp2
  go_step3
  go_wp2
  refine wp_loop_rounds 1 ?_
  rw [rounds_succ]
  go_wp2_with fail
  refine (lookN _).mono ?_
  rintro e w2 ⟨rfl, hw2⟩
  rw [← hw2] at HB
  clear hw2
  go_wp2
  rw [Exit.noGoto_ret]
  go_ret2
  exact ⟨rfl, HB.out⟩
theorem look_none (w : World) (k : Value) (l b : Nat) (hk : k = .agg #[.int .u16 l, .int .u16 b]) (hl : l < 65536) (hb : b < 65536) :
    (Instr.lookup 61 (.map none) k true).run Try.prog w = .ok (.tuple #[.int .i64 0, .bool false]) w := by
  subst hk
  simpa using Maps.look_nil true Try.law67 Try.underlying61 (Try.zero3 w) (keyOf_kl hl hb)
set_option maxHeartbeats 800000 in
theorem next_nilc_none (r : Nat) (g : Option Nat) (w : World) (hr : Rd w r g [] 0) : Calls Try.prog 17 #[.pointer none, .pointer (some ⟨r, 0, none⟩)] w fun e w' => e = .returned (.tuple #[.int .i64 0, .int .i64 2]) ∧ Below w.heap.size w w' := by
  have HR : Hid (Rd w r g [] 0) := hr
  clear hr
  have HB : Hid (Below w.heap.size w ((w.alloc (.cells #[.map none, .map none, .slice none 0 0] 66)).alloc (.cells #[.int .u16 0, .int .u16 0] 68))) := ((Below.refl _ _).alloc (Nat.le_refl _) _).alloc (by simp) _
  go_enter Try.func17, Try.ntmps17
  go_wp2
  go_step3
  go_wp2
  go_step3
  go_wp2
  refine wp_loop_rounds 1 ?_
  rw [rounds_succ]
  go_wp2_with fail
  refine (look_no r g [] 0 0 _ (HR.out.old HB.out) (by simp) (by omega) (.inr (by simp))).mono ?_
  rintro e w2 ⟨rfl, n2, hw2⟩
  have HB2 : Hid (Below w.heap.size w w2) := by rw [hw2]; exact below_drewN' HB.out n2
  clear hw2 HB
  go_wp2
  rw [Exit.noGoto_ret]
  go_ret2
  exact ⟨rfl, HB2.out⟩
set_option maxHeartbeats 800000 in
theorem next_nilc_some (r : Nat) (g : Option Nat) (zs : List Int) (w : World) (hr : Rd w r g zs 0) (hb : Bytes zs) (hl : zs.length ≤ 140737488355328) (h0 : 0 < zs.length) : Calls Try.prog 17 #[.pointer none, .pointer (some ⟨r, 0, none⟩)] w fun e w' => e = .returned (.tuple #[.int .i64 0, .int .i64 6]) ∧ Below w.heap.size w w' := by
  have HR : Hid (Rd w r g zs 0) := hr
  have HBY : Hid (Bytes zs) := hb
  clear hr hb
  have mixed := Try.mixed
  go_enter Try.func17, Try.ntmps17
  go_wp2
  go_step3
  go_wp2
  go_step3
  go_wp2
  obtain ⟨w1, hw1⟩ : ∃ w1, (w.alloc (.cells #[.map none, .map none, .slice none 0 0] 66)).alloc (.cells #[.int .u16 0, .int .u16 0] 68) = w1 := ⟨_, rfl⟩
  have HB : Hid (Below w.heap.size w w1) := by rw [← hw1]; exact ((Below.refl _ _).alloc (Nat.le_refl _) _).alloc (by simp) _
  have HC1 : Hid (w1.heap[w.heap.size]? = some (.cells #[.map none, .map none, .slice none 0 0] 66 (0, 0)) ∧ w1.heap[w.heap.size + 1]? = some (.cells #[.int .u16 0, .int .u16 0] 68 (0, 0))) := by
    rw [← hw1]; exact ⟨two_news_a w _ _, two_news_b w _ _⟩
  have m0 : w1.cell? ⟨w.heap.size + 1, 0, none⟩ = some (.int .u16 0) := (two_cells HC1.out.2).1
  have m1 : w1.cell? ⟨w.heap.size + 1, 1, none⟩ = some (.int .u16 0) := (two_cells HC1.out.2).2.1
  rw [hw1]
  clear hw1
  obtain ⟨M, hM⟩ : ∃ M, w.heap.size + 1 = M := ⟨_, rfl⟩
  obtain ⟨C, hC⟩ : ∃ C, w.heap.size = C := ⟨_, rfl⟩
  have HMC : Hid (C + 1 = M ∧ w.heap.size = C) := ⟨by omega, hC⟩
  rw [hM] at m0 m1 HC1 ⊢
  rw [hC] at HC1 ⊢
  clear hM hC
  refine wp_loop_rounds 1 ?_
  rw [rounds_succ]
  go_wp2_with fail
  refine (look_yes r g zs 0 0 _ (HR.out.old HB.out) HBY.out hl (by omega) (by omega)).mono ?_
  rintro e w2 ⟨rfl, n2, rfl⟩
  rw [bitF_int]
  have hbj := bitF_lt zs 0 0
  obtain ⟨w2, hw2⟩ : ∃ w2, w1.drewN n2 = w2 := ⟨_, rfl⟩
  have HB2 : Hid (Below w.heap.size w w2) := by rw [← hw2]; exact below_drewN' HB.out n2
  have HC2 : Hid (w2.heap[C]? = some (.cells #[.map none, .map none, .slice none 0 0] 66 (0, 0)) ∧ w2.heap[M]? = some (.cells #[.int .u16 0, .int .u16 0] 68 (0, 0))) := by rw [← hw2]; exact HC1.out
  rw [hw2]
  clear hw2 m0 m1 HC1 HB
  obtain ⟨q0, q1, f0, f1⟩ := two_cells HC2.out.2
  obtain ⟨bb, hbb⟩ : ∃ bb, bitF zs 0 0 = bb := ⟨_, rfl⟩
  rw [hbb] at hbj ⊢
  clear hbb
  have hw16 : IntKind.u16.wrap (bb : Int) = (bb : Int) := by rw [IntKind.wrap_u16]; omega
  go_wp2_with fail
  refine (and_any 0 0 bb _ (by omega) (by omega) (by omega)).mono ?_
  rintro e w3 ⟨rfl, hb3⟩
  have HC3 : Hid (w3.heap[C]? = some (.cells #[.map none, .map none, .slice none 0 0] 66 (0, 0)) ∧ w3.heap[M]? = some (.cells #[.int .u16 0, .int .u16 0] 68 (0, 0))) := ⟨(hb3.block _ (lt_of_block HC2.out.1)).trans HC2.out.1, (hb3.block _ (lt_of_block HC2.out.2)).trans HC2.out.2⟩
  have HB3 : Hid (Below w.heap.size w w3) := HB2.out.trans (hb3.mono HB2.out.size)
  clear hb3 HB2 HC2 q0 q1 f0 f1
  obtain ⟨q0, q1, f0, f1⟩ := two_cells HC3.out.2
  obtain ⟨w4, hw4⟩ : ∃ w4, (w3.setCell ⟨M, 0, none⟩ (.int .u16 1)).setCell ⟨M, 1, none⟩ (.int .u16 bb) = w4 := ⟨_, rfl⟩
  have HM4 : Hid (w4.heap[M]? = some (.cells #[.int .u16 1, .int .u16 bb] 68 (0, 0)) ∧ w4.heap[C]? = some (.cells #[.map none, .map none, .slice none 0 0] 66 (0, 0))) := by
    rw [← hw4]
    refine ⟨two_set1 (two_set0 HC3.out.2), ?_⟩
    have := HMC.out.1
    rw [Below.heap_setCell _ _ _ _ (by simp; omega), Below.heap_setCell _ _ _ _ (by simp; omega)]
    exact HC3.out.1
  have HB4 : Hid (Below w.heap.size w w4) := by
    rw [← hw4]
    have := HMC.out
    exact Fr.below HB3.out ((Fr.set M 0 _ none).trans (Fr.set M 1 _ none) (.inl rfl)) (by omega) (by intro q hq; cases hq) HB3.out.size
  have m0 : w4.cell? ⟨M, 0, none⟩ = some (.int .u16 1) := (two_cells HM4.out.1).1
  have m1 : w4.cell? ⟨M, 1, none⟩ = some (.int .u16 bb) := (two_cells HM4.out.1).2.1
  obtain ⟨p0, p1, p2, _⟩ := three_cells HM4.out.2
  have hls : ∀ n, (Instr.lookup 61 (.map none) (.agg #[.int .u16 1, .int .u16 bb]) true).run Try.prog (w4.drewN n) = .ok (.tuple #[.int .i64 0, .bool false]) (w4.drewN n) := fun n => look_none _ _ 1 bb rfl (by omega) (by omega)
  have hls2 : ∀ m n, (Instr.lookup 61 (.map none) (.agg #[.int .u16 1, .int .u16 bb]) true).run Try.prog ((w4.drewN m).drewN n) = .ok (.tuple #[.int .i64 0, .bool false]) ((w4.drewN m).drewN n) := fun m n => look_none _ _ 1 bb rfl (by omega) (by omega)
  go_wp2
  try rw [hw4]
  clear hw4
  go_quiet (fail)
  go_wp2
  go_quiet (fail)
  go_wp2
  rw [Exit.noGoto_ret]
  go_ret2
  exact ⟨rfl, below_drewN' HB4.out _⟩
end Go.Proofs.Ytjellgkojmgmjaa
