/- The law's same: chunks that were seen are the same. -/
import Derived.Test.YtoofpkcgiodfcaaSg2
namespace Go.Proofs.Ytoofpkcgiodfcaa
open Go.RowKit
set_option maxHeartbeats 6400000 in
set_option maxRecDepth 20000 in
theorem lsame_any (B B' : Nat) (a a' : Option Addr) (c c' n : Nat) (S W : List Sm) (w : World) (h1 : SmRow w B (.slice a n c) S) (h2 : SmRow w B' (.slice a' n c') W) (hn : S.length = n) (hnb : n ≤ 1000000000) (he : S.map Sm.s = W.map Sm.s)
    (d1 : ∀ x ∈ S, Row w x.a x.s.data) (d2 : ∀ x ∈ W, Row w x.a x.s.data) : Calls Try.prog 14 #[.slice a n c, .slice a' n c'] w fun e w' => e = .returned (.bool true) ∧ Below w.heap.size w w' := by
  have HH : Hid (SmRow w B (.slice a n c) S ∧ SmRow w B' (.slice a' n c') W ∧ S.length = n ∧ S.map Sm.s = W.map Sm.s ∧ (∀ x ∈ S, Row w x.a x.s.data) ∧ (∀ x ∈ W, Row w x.a x.s.data)) := ⟨h1, h2, hn, he, d1, d2⟩
  clear h1 h2 hn he d1 d2
  go_enter Try.func14, Try.ntmps14
  go_wp2
  go_loopw [5, 13] (fun _ t wq => ∃ j : Nat, j ≤ n ∧ t = .int .i64 j ∧ Hid (Below w.heap.size w wq)) (fun _ t _ => n - (intOf t).toNat)
  case atStart => exact ⟨0, Nat.zero_le _, rfl, Below.refl _ _⟩
  case round =>
    obtain ⟨j, hj, rfl, HQ⟩ := hrel
    by_cases hlt : j < n
    · obtain ⟨r1, r2, hn, he, d1, d2⟩ := HH.out
      have hWn : W.length = n := by rw [← hn]; have := congrArg List.length he; simpa using this.symm
      have hx : S[j]? = some (S[j]'(by omega)) := List.getElem?_eq_getElem (by omega)
      have hy : W[j]? = some (W[j]'(by omega)) := List.getElem?_eq_getElem (by omega)
      generalize S[j]'(by omega) = x at hx
      generalize W[j]'(by omega) = y at hy
      have hxy : x.s = y.s := by
        have := congrArg (fun l => l[j]?) he
        simp only [List.getElem?_map, hx, hy, Option.map_some, Option.some.injEq] at this
        exact this
      obtain ⟨b, rfl, _, hc, _⟩ := r1.cell j x hx
      obtain ⟨b', rfl, _, hc', _⟩ := r2.cell j y hy
      obtain ⟨xs, xa, xc⟩ := x
      obtain ⟨ys, ya, yc⟩ := y
      obtain rfl : xs = ys := hxy
      have e1 := (d1 _ (List.mem_of_getElem? hx)).old HQ.out
      have e2 := (d2 _ (List.mem_of_getElem? hy)).old HQ.out
      have k (q : Nat) (hq : q < 4) : wr.cell? ⟨b, j * 4 + q, none⟩ = (⟨xs, xa, xc⟩ : Sm).enc[q]? := (World.cell?_of_block (a := ⟨b, j * 4 + q, none⟩) (HQ.out.block b (r1.blk b rfl).2.1)).trans (hc q hq)
      have l (q : Nat) (hq : q < 4) : wr.cell? ⟨b', j * 4 + q, none⟩ = (⟨xs, ya, yc⟩ : Sm).enc[q]? := (World.cell?_of_block (a := ⟨b', j * 4 + q, none⟩) (HQ.out.block b' (r2.blk b' rfl).2.1)).trans (hc' q hq)
      have k0 : wr.cell? ⟨b, j * 4, none⟩ = some (.string (strOfNums xs.kind)) := k 0 (by omega)
      have k1 : wr.cell? ⟨b, j * 4 + 1, none⟩ = some (.int .i64 xs.size) := k 1 (by omega)
      have k2 : wr.cell? ⟨b, j * 4 + 2, none⟩ = some (.slice xa xs.data.length xc) := k 2 (by omega)
      have k3 : wr.cell? ⟨b, j * 4 + 3, none⟩ = some (.bool xs.fin) := k 3 (by omega)
      have l0 : wr.cell? ⟨b', j * 4, none⟩ = some (.string (strOfNums xs.kind)) := l 0 (by omega)
      have l1 : wr.cell? ⟨b', j * 4 + 1, none⟩ = some (.int .i64 xs.size) := l 1 (by omega)
      have l2 : wr.cell? ⟨b', j * 4 + 2, none⟩ = some (.slice ya xs.data.length yc) := l 2 (by omega)
      have l3 : wr.cell? ⟨b', j * 4 + 3, none⟩ = some (.bool xs.fin) := l 3 (by omega)
      have HSm : Hid (∀ q, Calls Try.prog 17 #[.slice xa xs.data.length xc, .slice ya xs.data.length yc] (wr.drewN q) fun e w' => e = .returned (.bool true) ∧ w' = wr.drewN q) := fun q => same_any xa ya xs.data.length xc yc xs.data (wr.drewN q) rfl (e1.same fun _ _ _ => rfl) (e2.same fun _ _ _ => rfl)
      clear r1 r2 hn he d1 d2 hWn hx hy hc hc' e1 e2 k l
      generalize strOfNums xs.kind = kd at *
      generalize xs.data.length = Z at *
      generalize xs.size = sz at *
      generalize xs.fin = fin at *
      go_wp2
      go_region_held3 (fun u => u.cell? ⟨b, j * 4, none⟩ = some (.string kd) ∧ u.cell? ⟨b, j * 4 + 1, none⟩ = some (.int .i64 sz) ∧ u.cell? ⟨b, j * 4 + 2, none⟩ = some (.slice xa Z xc) ∧ u.cell? ⟨b, j * 4 + 3, none⟩ = some (.bool fin) ∧ u.cell? ⟨b', j * 4, none⟩ = some (.string kd) ∧ u.cell? ⟨b', j * 4 + 1, none⟩ = some (.int .i64 sz) ∧ u.cell? ⟨b', j * 4 + 2, none⟩ = some (.slice ya Z yc) ∧ u.cell? ⟨b', j * 4 + 3, none⟩ = some (.bool fin)) (go_keep) (first
        | (go_at_call 17; refine Calls.mono (HSm.out _) ?_; rintro e wq ⟨rfl, hwq⟩; rw [hwq]; clear hwq)
        | fail)
      all_goals
        go_wp2
        go_roundw
        case rel => exact ⟨j + 1, by omega, by go_num, ⟨HQ.out.os, HQ.out.tape, HQ.out.output, HQ.out.size, HQ.out.block⟩⟩
        case measure => simp [intOf]; omega
    · have HE : Hid (Below w.heap.size w wr) := HQ.out
      go_wp2
      go_ret
      exact ⟨rfl, HE.out⟩
end Go.Proofs.Ytoofpkcgiodfcaa
