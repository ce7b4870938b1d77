/- The law's fixed calls. -/
import Derived.Test.YtbjoalgglmalnaaDoorPxL
namespace Go.Proofs.YtbjoalgglmalnaaDoor
open Go.RowKit
theorem irow_arr {w : World} {s : Nat} (hs : s = w.heap.size) (l : List Int) (cs : Array Value) (fr : Nat × Nat) (hc : cs = (l.map (Value.int .i64)).toArray) : IRow (w.alloc (.cells cs 3 fr)) (some ⟨s, 0, none⟩) l := by
  subst hs hc
  refine .inr ⟨_, 0, rfl, fun i hi => ?_⟩
  rw [World.cell?_alloc_mark, Nat.zero_add]
  simp [hi]
theorem brow_arr {w : World} {s : Nat} (hs : s = w.heap.size) (l : List Int) (cs : Array Value) (fr : Nat × Nat) (hc : cs = (vals l).toArray) : Row (w.alloc (.cells cs 5 fr)) (some ⟨s, 0, none⟩) l := by
  subst hs hc
  refine .inr ⟨_, 0, rfl, fun i hi => ?_⟩
  rw [World.cell?_alloc_mark, Nat.zero_add, ← vals_at l i hi]
  simp
def fxR : Rs := ⟨1, 1, 0, 2, false, none, 0, 0, none, 0, 0, none, 0, 0, none, 0, 0⟩
theorem fx_pk : pkL 1 [1, 0, 1] = [160] := by decide
theorem fx_co : coN fxR.C (arrL 2 [1] 1) (cvN [] [1]) = .agg #[.int .u16 21845, .int .u16 21845, .int .u16 21845, .int .u16 65535] := by rfl
set_option maxHeartbeats 1600000 in
theorem fixed_any (w : World) (ht : Tab w) : Calls Tryd.prog 9 #[] w fun e w' => e = .returned (.bool true) ∧ Below w.heap.size w w' := by
  have HT : Hid (Tab w) := ht
  have C := pack_yes (some ⟨w.heap.size, 0, none⟩) 3 3 1 [1, 0, 1] (w.alloc (.cells #[.int .i64 1, .int .i64 0, .int .i64 1] 3)) (by decide) (by decide) rfl (by omega) (irow_arr rfl _ _ _ rfl)
  rw [fx_pk] at C
  clear ht
  go_enter Tryd.func9, Tryd.ntmps9
  go_wp2_with fail
  refine C.mono ?_
  clear C
  rintro e w1 ⟨a1, c1, rfl, q1, q2, q3, q4, q5⟩
  have HB1 : Hid (Below w.heap.size w w1 ∧ Row w1 a1 [160]) := ⟨((Below.refl _ w).alloc (Nat.le_refl _) _).trans (q5.mono (by simp)), q4⟩
  clear q1 q2 q3 q4 q5
  obtain ⟨w2, hw2⟩ : ∃ w2, w2 = w1.alloc (.cells #[.int .i64 1] 3) := ⟨_, rfl⟩
  have HB2 : Hid (Below w1.heap.size w1 w2 ∧ IRow w2 (some ⟨w1.heap.size, 0, none⟩) [1]) := by
    show _ ∧ _
    rw [hw2]
    exact ⟨(Below.refl _ _).alloc (Nat.le_refl _) _, irow_arr rfl _ _ _ rfl⟩
  have HBa : Hid (Below w.heap.size w w2) := HB1.out.1.trans (HB2.out.1.mono HB1.out.1.size)
  have C := of_good fxR [] [] [] (some ⟨w1.heap.size, 0, none⟩) 1 1 2 [1] w2 (HT.out.old HBa.out) ⟨.inl rfl, rfl, .inl rfl, rfl, .inl rfl, rfl, by decide⟩ HB2.out.2 rfl (.inl rfl) rfl (by decide) (by decide)
  rw [fx_co] at C
  unfold Rs.V at C
  unfold Rs.c9 at C
  unfold fxR at C
  simp only at C
  go_wp2_with fail
  rw [← hw2]
  refine C.mono ?_
  clear C hw2
  rintro e w3 ⟨rfl, hb3⟩
  have HB3 : Hid (Below w.heap.size w w3 ∧ Row w3 a1 [160]) := ⟨HBa.out.trans (hb3.mono HBa.out.size), HB1.out.2.old (HB2.out.1.trans (hb3.mono HB2.out.1.size))⟩
  clear hb3 HB1 HB2 HBa
  obtain ⟨w4, hw4⟩ : ∃ w4, w4 = (w3.alloc (.cells #[.int .u16 21845, .int .u16 21845, .int .u16 21845, .int .u16 65535] 45)).alloc (.cells #[.int .u8 160] 5) := ⟨_, rfl⟩
  have hb4 : Below w3.heap.size w3 w4 := by rw [hw4]; exact ((Below.refl _ _).alloc (Nat.le_refl _) _).alloc (by simp) _
  have HB4 : Hid (Below w.heap.size w w4 ∧ Row w4 a1 [160] ∧ Row w4 (some ⟨w3.heap.size + 1, 0, none⟩) [160]) := by
    refine ⟨HB3.out.1.trans (hb4.mono HB3.out.1.size), HB3.out.2.old hb4, ?_⟩
    rw [hw4]; exact brow_arr (by simp) _ _ _ rfl
  have hh : w4.heap[w3.heap.size]? = some (.cells #[.int .u16 21845, .int .u16 21845, .int .u16 21845, .int .u16 65535] 45 (0, 0)) := by
    rw [hw4, Below.heap_alloc _ _ _ (by simp)]; exact heap_alloc_newX w3 _
  have k0 : w4.cell? ⟨w3.heap.size, 0, none⟩ = some (.int .u16 21845) := by simp [World.cell?, hh]
  have k1 : w4.cell? ⟨w3.heap.size, 1, none⟩ = some (.int .u16 21845) := by simp [World.cell?, hh]
  have k2 : w4.cell? ⟨w3.heap.size, 2, none⟩ = some (.int .u16 21845) := by simp [World.cell?, hh]
  have k3 : w4.cell? ⟨w3.heap.size, 3, none⟩ = some (.int .u16 65535) := by simp [World.cell?, hh]
  have C := same_any a1 (some ⟨w3.heap.size + 1, 0, none⟩) 1 c1 1 [160] w4 rfl HB4.out.2.1 HB4.out.2.2
  clear hb4 hh HB3
  go_wp2_with fail
  rw [← hw4]
  refine C.mono ?_
  clear C hw4
  rintro e w5 ⟨rfl, rfl⟩
  go_wp2
  go_ret
  exact ⟨rfl, HB4.out.1⟩
set_option maxHeartbeats 1600000 in
theorem few_any (r : Rs) (w : World) : Calls Tryd.prog 16 #[r.V] w fun e w' => e = .returned (.bool (decide (r.sn ≤ 5000 ∧ r.tn ≤ 300 ∧ r.an ≤ 300 ∧ r.cn ≤ 10))) ∧ Below w.heap.size w w' := by
  have HQ : Hid (QR w r.c9 _) := QR.box w r.c9
  obtain ⟨W, H, C, D, L, ta, tn, tc, aa, an, ac, ca, cn, cc, sa, sn, sc⟩ := r
  unfold Rs.V at *
  unfold Rs.c9 at *
  simp only at *
  by_cases h1 : sn ≤ 5000
  · by_cases h2 : tn ≤ 300
    · by_cases h3 : an ≤ 300
      · by_cases h4 : cn ≤ 10
        · rw [decide_eq_true ⟨h1, h2, h3, h4⟩]
          go_enter Tryd.func16, Tryd.ntmps16
          go_wp2
          go_ret
          exact ⟨by show Ending.returned (.bool (decide ((cn : Int) ≤ 10))) = _; rw [decide_eq_true (by omega)], HQ.out.1⟩
        · rw [decide_eq_false (fun q => h4 q.2.2.2)]
          go_enter Tryd.func16, Tryd.ntmps16
          go_wp2
          go_ret
          exact ⟨by show Ending.returned (.bool (decide ((cn : Int) ≤ 10))) = _; rw [decide_eq_false (by omega)], HQ.out.1⟩
      · rw [decide_eq_false (fun q => h3 q.2.2.1)]
        go_enter Tryd.func16, Tryd.ntmps16
        go_wp2
        go_ret
        exact ⟨rfl, HQ.out.1⟩
    · rw [decide_eq_false (fun q => h2 q.2.1)]
      go_enter Tryd.func16, Tryd.ntmps16
      go_wp2
      go_ret
      exact ⟨rfl, HQ.out.1⟩
  · rw [decide_eq_false (fun q => h1 q.1)]
    go_enter Tryd.func16, Tryd.ntmps16
    go_wp2
    go_ret
    exact ⟨rfl, HQ.out.1⟩
end Go.Proofs.YtbjoalgglmalnaaDoor
