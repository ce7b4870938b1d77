/- A new canvas, of the program and of the document. -/
import Derived.Test.YtjheipfcehddhaaCvF
namespace Go.Proofs.Ytjheipfcehddhaa
open Go.RowKit
theorem picN_sz {W H : Int} (h : picN W H) : ∃ N : Nat, Sz W H N := by
  obtain ⟨a, b, c, d, e⟩ := h
  have := mul_bd a b c d
  exact ⟨(W * H).toNat, a, b, c, d, by omega, by omega⟩
theorem sz_picN {W H : Int} {N : Nat} (h : Sz W H N) : picN W H := ⟨h.w1, h.w2, h.h1, h.h2, by have := h.n; have := h.m; omega⟩
/-- A canvas of the document. -/
structure Rv (w : World) (c p k : Nat) (W H : Int) (N : Nat) (F : Nat → Col) (M : Nat → Bool) : Prop where
  st : w.heap[c]? = some (.cells #[.int .i64 W, .int .i64 H, .slice (some ⟨p, 0, none⟩) N N, .slice (some ⟨k, 0, none⟩) N N] 68 (0, 0))
  px : PxM w p N F
  kn : KnM w k N M
  sz : Sz W H N
def z4 : Col := (0, 0, 0, 0)
def NewPost (w : World) (W H : Int) (N : Nat) (e : Ending) (w' : World) : Prop := ∃ c p k, e = .returned (.tuple #[.pointer (some ⟨c, 0, none⟩), .int .i64 0]) ∧ Cv w' c p k W H N (fun _ => z4) (fun _ => false) 0 ∧ w.heap.size ≤ c ∧ w.heap.size ≤ p ∧ w.heap.size ≤ k ∧ Below w.heap.size w w'
def RnewPost (w : World) (W H : Int) (N : Nat) (e : Ending) (w' : World) : Prop := ∃ c p k, e = .returned (.tuple #[.pointer (some ⟨c, 0, none⟩), .int .i64 0]) ∧ Rv w' c p k W H N (fun _ => z4) (fun _ => false) ∧ w.heap.size ≤ c ∧ w.heap.size ≤ p ∧ w.heap.size ≤ k ∧ Below w.heap.size w w'
theorem madeP_at (N i j : Nat) (hi : i < N) (hj : j < 4) : (madeCells (Value.agg #[.int .u16 0, .int .u16 0, .int .u16 0, .int .u16 0]).cells (N * 4))[i * 4 + j]? = some (.int .u16 0) := by
  have h : i * 4 + j < N * 4 := by omega
  simp only [madeCells, Array.getElem?_map, Array.getElem?_range, h, if_true, Option.map_some]
  congr 1
  have hz : ∀ k : Nat, k < 4 → ((Value.agg #[.int .u16 0, .int .u16 0, .int .u16 0, .int .u16 0]).cells)[k]! = Value.int .u16 0 := by
    intro k hk
    match k, hk with
    | 0, _ => rfl
    | 1, _ => rfl
    | 2, _ => rfl
    | 3, _ => rfl
  exact hz ((i * 4 + j) % 4) (Nat.mod_lt _ (by omega))
theorem madeK_at (N i : Nat) (hi : i < N) : (madeCells (Value.bool false).cells (N * 1))[i]? = some (.bool false) := by
  have h : i < N * 1 := by omega
  simp only [madeCells, Array.getElem?_map, Array.getElem?_range, h, if_true, Option.map_some]
  congr 1
  have : i % (Value.bool false).cells.size = 0 := Nat.mod_one i
  rw [this]
  rfl
theorem made_px {w : World} {g N : Nat} {mz : Array Value} (h : w.heap[g]? = some (.cells mz 49 (0, 0))) (hm : madeCells (Value.agg #[.int .u16 0, .int .u16 0, .int .u16 0, .int .u16 0]).cells (N * 4) = mz) : PxM w g N (fun _ => z4) := by
  refine ⟨mz, h, fun i hi => ?_⟩
  rw [← hm]
  exact ⟨madeP_at N i 0 hi (by omega), madeP_at N i 1 hi (by omega), madeP_at N i 2 hi (by omega), madeP_at N i 3 hi (by omega)⟩
theorem made_kn {w : World} {g N : Nat} {mz : Array Value} (h : w.heap[g]? = some (.cells mz 4 (0, 0))) (hm : madeCells (Value.bool false).cells (N * 1) = mz) : KnM w g N (fun _ => false) := by
  refine ⟨mz, h, fun i hi => ?_⟩
  rw [← hm]
  exact madeK_at N i hi
theorem below_undrew2 {B : Nat} {w w1 : World} (h : Below B w w1) : Below B w w1.drew := ⟨h.os, h.tape, h.output, h.size, h.block⟩
theorem three_alloc (w : World) (A B C : Obj) : (((w.alloc A).alloc B).alloc C).drew.heap[w.heap.size]? = some A ∧ (((w.alloc A).alloc B).alloc C).drew.heap[w.heap.size + 1]? = some B ∧ (((w.alloc A).alloc B).alloc C).drew.heap[w.heap.size + 1 + 1]? = some C ∧ Below w.heap.size w (((w.alloc A).alloc B).alloc C).drew := by
  have b1 := below_new w A
  have b2 := below_new (w.alloc A) B
  have b3 := below_new ((w.alloc A).alloc B) C
  have a1 := World.alloc_heap_new w A
  have a2 := World.alloc_heap_new (w.alloc A) B
  have a3 := World.alloc_heap_new ((w.alloc A).alloc B) C
  rw [World.size_alloc] at a2
  rw [World.size_alloc, World.size_alloc] at a3
  have e2 := (b2.block _ (lt_of_block a1)).trans a1
  refine ⟨(b3.block _ (lt_of_block e2)).trans e2, (b3.block _ (lt_of_block a2)).trans a2, a3, ?_⟩
  exact below_undrew2 ((b1.trans (b2.mono b1.size)).trans (b3.mono (Nat.le_trans b1.size b2.size)))
set_option maxHeartbeats 1600000 in
theorem new_no (W H : Int) (h : ¬ picN W H) (w : World) : Calls Try.prog 9 #[.int .i64 W, .int .i64 H] w fun e w' => e = .returned (.tuple #[.pointer none, .int .i64 1]) ∧ w' = w := by
  have C1 := cisSide_any W w
  have C2 := cisSide_any H w
  by_cases a : 1 ≤ W ∧ W ≤ 2048
  · rw [decide_eq_true a.1, decide_eq_true a.2] at C1
    by_cases b : 1 ≤ H ∧ H ≤ 2048
    · rw [decide_eq_true b.1, decide_eq_true b.2] at C2
      obtain ⟨m1, m2⟩ := mul_bd a.1 a.2 b.1 b.2
      have hm : wrap64 (W * H) = W * H := by unfold wrap64; omega
      have hgt : 65536 < W * H := by
        by_cases q : W * H ≤ 65536
        · exact absurd ⟨a.1, a.2, b.1, b.2, q⟩ h
        · omega
      clear h
      go_enter Try.func9, Try.ntmps9
      go_wp2_with fail
      refine C1.mono ?_
      rintro e w1 ⟨rfl, rfl⟩
      go_wp2_with fail
      refine C2.mono ?_
      rintro e w1 ⟨rfl, rfl⟩
      go_wp2
      go_ret2
      exact ⟨rfl, rfl⟩
    · have hf : (decide (1 ≤ H) && decide (H ≤ 2048)) = false := by rw [← Bool.decide_and, decide_eq_false b]
      rw [hf] at C2
      clear hf
      go_enter Try.func9, Try.ntmps9
      go_wp2_with fail
      refine C1.mono ?_
      rintro e w1 ⟨rfl, rfl⟩
      go_wp2_with fail
      refine C2.mono ?_
      rintro e w1 ⟨rfl, rfl⟩
      go_wp2
      go_ret2
      exact ⟨rfl, rfl⟩
  · have hf : (decide (1 ≤ W) && decide (W ≤ 2048)) = false := by rw [← Bool.decide_and, decide_eq_false a]
    rw [hf] at C1
    clear hf
    go_enter Try.func9, Try.ntmps9
    go_wp2_with fail
    refine C1.mono ?_
    rintro e w1 ⟨rfl, rfl⟩
    go_wp2
    go_ret2
    exact ⟨rfl, rfl⟩
set_option maxHeartbeats 1600000 in
theorem new_yes {W H : Int} {N : Nat} (h : Sz W H N) (w : World) : Calls Try.prog 9 #[.int .i64 W, .int .i64 H] w fun e w' => NewPost w W H N e w' := by
  have C1 := cisSide_any W w
  have C2 := cisSide_any H w
  rw [decide_eq_true h.w1, decide_eq_true h.w2] at C1
  rw [decide_eq_true h.h1, decide_eq_true h.h2] at C2
  have h1 := h.w1
  have h2 := h.w2
  have h3 := h.h1
  have h4 := h.h2
  have hn := h.n
  have hN := h.m
  have hm : wrap64 (W * H) = (N : Int) := by rw [hn]; unfold wrap64; omega
  have hm2 : IntKind.i64.wrap (W * H) = (N : Int) := by rw [hn, IntKind.wrap_i64]; omega
  have hm3 : IntKind.i64.wrap (N : Int) = (N : Int) := by rw [IntKind.wrap_i64]; omega
  obtain ⟨i0, hi0, hz0, hz1, hz2⟩ := info_parts Try.infoCol
  obtain ⟨i1, hi1, hy0, hy1, hy2⟩ := info_parts Try.infoB
  obtain ⟨mp, hmp⟩ : ∃ mp, madeCells (Value.agg #[.int .u16 0, .int .u16 0, .int .u16 0, .int .u16 0]).cells (N * 4) = mp := ⟨_, rfl⟩
  obtain ⟨mk, hmk⟩ : ∃ mk, madeCells (Value.bool false).cells (N * 1) = mk := ⟨_, rfl⟩
  have RP : ∀ u : World, (Instr.makeSlice 33 (.int .i64 (N : Int)) (.int .i64 (N : Int))).run Try.prog u = .ok (.slice (some ⟨u.heap.size, 0, none⟩) N N) (u.alloc (.cells mp 49)) := fun u => by
    have := run_makeSlice (P := Try.prog) u 33 49 i0 _ Try.underlying33 hi0 hz0 .i64 .i64 N N (by omega) (Int.le_refl _) (by rw [hz1, Int.toNat_natCast]; omega) (by rw [hz2]; omega) (by omega)
    rw [hz1, Int.toNat_natCast, hmp] at this
    exact this
  have RK : ∀ u : World, (Instr.makeSlice 45 (.int .i64 (N : Int)) (.int .i64 (N : Int))).run Try.prog u = .ok (.slice (some ⟨u.heap.size, 0, none⟩) N N) (u.alloc (.cells mk 4)) := fun u => by
    have := run_makeSlice (P := Try.prog) u 45 4 i1 _ Try.underlying45 hi1 hy0 .i64 .i64 N N (by omega) (Int.le_refl _) (by rw [hy1, Int.toNat_natCast]; omega) (by rw [hy2]; omega) (by omega)
    rw [hy1, Int.toNat_natCast, hmk] at this
    exact this
  have HM : Hid (madeCells (Value.agg #[.int .u16 0, .int .u16 0, .int .u16 0, .int .u16 0]).cells (N * 4) = mp ∧ madeCells (Value.bool false).cells (N * 1) = mk ∧ Sz W H N) := ⟨hmp, hmk, h⟩
  have hgt : ¬ 65536 < W * H := by rw [hn]; omega
  clear hmp hmk hi0 hi1 hz0 hz1 hz2 hy0 hy1 hy2 h hn
  go_enter Try.func9, Try.ntmps9
  go_wp2_with fail
  refine C1.mono ?_
  rintro e w1 ⟨rfl, rfl⟩
  go_wp2_with fail
  refine C2.mono ?_
  rintro e w1 ⟨rfl, rfl⟩
  clear C1 C2
  have hgt2 : ¬ (65536 : Int) < (N : Int) := by omega
  go_upto_region 3 with fail
  have HE1 : Hid (NewPost w1 W H N (.returned (.tuple #[.pointer (some ⟨w1.heap.size + 1 + 1, 0, none⟩), .int .i64 0])) (((w1.alloc (.cells mp 49)).alloc (.cells mk 4)).alloc (.cells #[.int .i64 W, .int .i64 H, .slice (some ⟨w1.heap.size, 0, none⟩) N N, .slice (some ⟨w1.heap.size + 1, 0, none⟩) N N, .int .i64 0] 65)).drew) := by
    obtain ⟨q1, q2, q3, q4⟩ := three_alloc w1 (.cells mp 49) (.cells mk 4) (.cells #[.int .i64 W, .int .i64 H, .slice (some ⟨w1.heap.size, 0, none⟩) N N, .slice (some ⟨w1.heap.size + 1, 0, none⟩) N N, .int .i64 0] 65)
    exact ⟨_, _, _, rfl, ⟨q3, made_px q1 HM.out.1, made_kn q2 HM.out.2.1, HM.out.2.2⟩, by omega, Nat.le_refl _, by omega, q4⟩
  have HE2 : Hid (NewPost w1 W H N (.returned (.tuple #[.pointer (some ⟨w1.heap.size + 1 + 1, 0, none⟩), .int .i64 0])) (((w1.alloc (.cells mk 4)).alloc (.cells mp 49)).alloc (.cells #[.int .i64 W, .int .i64 H, .slice (some ⟨w1.heap.size + 1, 0, none⟩) N N, .slice (some ⟨w1.heap.size, 0, none⟩) N N, .int .i64 0] 65)).drew) := by
    obtain ⟨q1, q2, q3, q4⟩ := three_alloc w1 (.cells mk 4) (.cells mp 49) (.cells #[.int .i64 W, .int .i64 H, .slice (some ⟨w1.heap.size + 1, 0, none⟩) N N, .slice (some ⟨w1.heap.size, 0, none⟩) N N, .int .i64 0] 65)
    exact ⟨_, _, _, rfl, ⟨q3, made_px q2 HM.out.1, made_kn q1 HM.out.2.1, HM.out.2.2⟩, by omega, by omega, Nat.le_refl _, q4⟩
  clear HM
  go_region
  · go_wp2
    go_ret2
    exact HE1.out
  · go_wp2
    go_ret2
    exact HE2.out
set_option maxHeartbeats 1600000 in
theorem rnew_yes {W H : Int} {N : Nat} (h : Sz W H N) (w : World) : Calls Try.prog 10 #[.int .i64 W, .int .i64 H] w fun e w' => RnewPost w W H N e w' := by
  have CS := rsized_any W H w
  rw [decide_eq_true (sz_picN h)] at CS
  have h1 := h.w1
  have h2 := h.w2
  have h3 := h.h1
  have h4 := h.h2
  have hn := h.n
  have hN := h.m
  have hm : wrap64 (W * H) = (N : Int) := by rw [hn]; unfold wrap64; omega
  have hm2 : IntKind.i64.wrap (W * H) = (N : Int) := by rw [hn, IntKind.wrap_i64]; omega
  have hm3 : IntKind.i64.wrap (N : Int) = (N : Int) := by rw [IntKind.wrap_i64]; omega
  obtain ⟨i0, hi0, hz0, hz1, hz2⟩ := info_parts Try.infoCol
  obtain ⟨i1, hi1, hy0, hy1, hy2⟩ := info_parts Try.infoB
  obtain ⟨mp, hmp⟩ : ∃ mp, madeCells (Value.agg #[.int .u16 0, .int .u16 0, .int .u16 0, .int .u16 0]).cells (N * 4) = mp := ⟨_, rfl⟩
  obtain ⟨mk, hmk⟩ : ∃ mk, madeCells (Value.bool false).cells (N * 1) = mk := ⟨_, rfl⟩
  have RP : ∀ u : World, (Instr.makeSlice 33 (.int .i64 (N : Int)) (.int .i64 (N : Int))).run Try.prog u = .ok (.slice (some ⟨u.heap.size, 0, none⟩) N N) (u.alloc (.cells mp 49)) := fun u => by
    have := run_makeSlice (P := Try.prog) u 33 49 i0 _ Try.underlying33 hi0 hz0 .i64 .i64 N N (by omega) (Int.le_refl _) (by rw [hz1, Int.toNat_natCast]; omega) (by rw [hz2]; omega) (by omega)
    rw [hz1, Int.toNat_natCast, hmp] at this
    exact this
  have RK : ∀ u : World, (Instr.makeSlice 45 (.int .i64 (N : Int)) (.int .i64 (N : Int))).run Try.prog u = .ok (.slice (some ⟨u.heap.size, 0, none⟩) N N) (u.alloc (.cells mk 4)) := fun u => by
    have := run_makeSlice (P := Try.prog) u 45 4 i1 _ Try.underlying45 hi1 hy0 .i64 .i64 N N (by omega) (Int.le_refl _) (by rw [hy1, Int.toNat_natCast]; omega) (by rw [hy2]; omega) (by omega)
    rw [hy1, Int.toNat_natCast, hmk] at this
    exact this
  have HM : Hid (madeCells (Value.agg #[.int .u16 0, .int .u16 0, .int .u16 0, .int .u16 0]).cells (N * 4) = mp ∧ madeCells (Value.bool false).cells (N * 1) = mk ∧ Sz W H N) := ⟨hmp, hmk, h⟩
  have hgt : ¬ 65536 < W * H := by rw [hn]; omega
  clear hmp hmk hi0 hi1 hz0 hz1 hz2 hy0 hy1 hy2 h hn
  go_enter Try.func10, Try.ntmps10
  go_wp2_with fail
  refine CS.mono ?_
  rintro e w1 ⟨rfl, rfl⟩
  clear CS
  have hgt2 : ¬ (65536 : Int) < (N : Int) := by omega
  go_upto_region 3 with fail
  have HE1 : Hid (RnewPost w1 W H N (.returned (.tuple #[.pointer (some ⟨w1.heap.size + 1 + 1, 0, none⟩), .int .i64 0])) (((w1.alloc (.cells mp 49)).alloc (.cells mk 4)).alloc (.cells #[.int .i64 W, .int .i64 H, .slice (some ⟨w1.heap.size, 0, none⟩) N N, .slice (some ⟨w1.heap.size + 1, 0, none⟩) N N] 68)).drew) := by
    obtain ⟨q1, q2, q3, q4⟩ := three_alloc w1 (.cells mp 49) (.cells mk 4) (.cells #[.int .i64 W, .int .i64 H, .slice (some ⟨w1.heap.size, 0, none⟩) N N, .slice (some ⟨w1.heap.size + 1, 0, none⟩) N N] 68)
    exact ⟨_, _, _, rfl, ⟨q3, made_px q1 HM.out.1, made_kn q2 HM.out.2.1, HM.out.2.2⟩, by omega, Nat.le_refl _, by omega, q4⟩
  have HE2 : Hid (RnewPost w1 W H N (.returned (.tuple #[.pointer (some ⟨w1.heap.size + 1 + 1, 0, none⟩), .int .i64 0])) (((w1.alloc (.cells mk 4)).alloc (.cells mp 49)).alloc (.cells #[.int .i64 W, .int .i64 H, .slice (some ⟨w1.heap.size + 1, 0, none⟩) N N, .slice (some ⟨w1.heap.size, 0, none⟩) N N] 68)).drew) := by
    obtain ⟨q1, q2, q3, q4⟩ := three_alloc w1 (.cells mk 4) (.cells mp 49) (.cells #[.int .i64 W, .int .i64 H, .slice (some ⟨w1.heap.size + 1, 0, none⟩) N N, .slice (some ⟨w1.heap.size, 0, none⟩) N N] 68)
    exact ⟨_, _, _, rfl, ⟨q3, made_px q2 HM.out.1, made_kn q1 HM.out.2.1, HM.out.2.2⟩, by omega, by omega, Nat.le_refl _, q4⟩
  clear HM
  go_region
  · go_wp2
    go_ret2
    exact HE1.out
  · go_wp2
    go_ret2
    exact HE2.out
set_option maxHeartbeats 800000 in
theorem rnew_no (W H : Int) (h : ¬ picN W H) (w : World) : Calls Try.prog 10 #[.int .i64 W, .int .i64 H] w fun e w' => e = .returned (.tuple #[.pointer none, .int .i64 1]) ∧ w' = w := by
  have CS := rsized_any W H w
  rw [decide_eq_false h] at CS
  go_enter Try.func10, Try.ntmps10
  go_wp2_with fail
  refine CS.mono ?_
  rintro e w1 ⟨rfl, rfl⟩
  go_wp2
  go_ret2
  exact ⟨rfl, rfl⟩
end Go.Proofs.Ytjheipfcehddhaa
