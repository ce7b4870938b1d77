/- LZW: New; decoders that are nil, or of least bits that may not be. -/
import Derived.Test.YtcbmlioeeoghkaaLzK
namespace Go.Proofs.Ytcbmlioeeoghkaa
open Go.RowKit
set_option maxHeartbeats 400000 in
theorem newTable_any (l : Int) (w : World) : Calls Try.prog 23 #[.int .i64 l] w fun e w' => e = .returned (.agg #[.int .i64 l, .slice none 0 0, .int .i64 (-1)]) ∧ Below w.heap.size w w' := by
  have hb : Below w.heap.size w (w.alloc (.cells #[.int .i64 l, .slice none 0 0, .int .i64 (-1)] 49)) := (Below.refl _ _).alloc (Nat.le_refl _) _
  go_enter Try.func23, Try.ntmps23
  go_wp2
  refine bodyPost_ret (v := .agg #[.int .i64 l, .slice none 0 0, .int .i64 (-1)]) (by simp [results, go_sem]) rfl ⟨rfl, hb⟩
/-- A decoder of so much room. -/
def lz0 (n : Nat) : Lz := ⟨0, n, [], -1, [], 0, 0, [], []⟩
theorem Dc.four {w : World} {d : Nat} {L lf er : Int} {dn : Bool} {rv iv : Value} {tl : Int} {fv : Value} {ah : Int} (h : Dc w d L lf er dn rv iv tl fv ah) (x7 : Value) (x6 x8 : Int) :
    Dc (((w.setCell ⟨d, 6, none⟩ (.int .i64 x6)).setCell ⟨d, 7, none⟩ x7).setCell ⟨d, 8, none⟩ (.int .i64 x8)) d L lf er dn rv iv x6 x7 x8 ∧ (((w.setCell ⟨d, 6, none⟩ (.int .i64 x6)).setCell ⟨d, 7, none⟩ x7).setCell ⟨d, 8, none⟩ (.int .i64 x8)).heap.size = w.heap.size ∧ ∀ k, k ≠ d → (((w.setCell ⟨d, 6, none⟩ (.int .i64 x6)).setCell ⟨d, 7, none⟩ x7).setCell ⟨d, 8, none⟩ (.int .i64 x8)).heap[k]? = w.heap[k]? :=
  ⟨((h.set6 x6).set7 x7).set8 x8, by simp [World.setCell], fun k hk => ((Below.heap_setCell _ _ _ _ hk).trans (Below.heap_setCell _ _ _ _ hk)).trans (Below.heap_setCell _ _ _ _ hk)⟩
def LnPost (w : World) (L n : Nat) (e : Ending) (w' : World) : Prop :=
  ∃ S, e = .returned (.pointer (some ⟨w.heap.size, 0, none⟩)) ∧ LMem w.heap.size w' w.heap.size L (lz0 n) S ∧ Below w.heap.size w w'
set_option maxHeartbeats 1600000 in
set_option maxRecDepth 100000 in
theorem lnew_yes {L : Nat} (hL : 2 ≤ L ∧ L ≤ 8) (lim : Int) (hlim : lim ≤ 9223372036854775807) (w : World) : Calls Try.prog 10 #[.int .i64 L, .int .i64 lim] w fun e w' => LnPost w L lim.toNat e w' := by
  obtain ⟨lf, hlf⟩ : ∃ lf : Nat, lim.toNat = lf := ⟨_, rfl⟩
  rw [hlf]
  obtain ⟨z, hz⟩ : ∃ z : Int, z = (lf : Int) := ⟨_, rfl⟩
  have HZ : Hid (z = (lf : Int)) := hz
  obtain ⟨w1, hw1⟩ : ∃ w1, w.alloc (.cells #[.int .i64 (L : Int), .int .i64 z, .int .i64 0, .bool false, .slice none 0 0, .pointer none, .int .i64 0, .slice none 0 0, .int .i64 0] 51) = w1 := ⟨_, rfl⟩
  have hb1 : Below w.heap.size w w1 := by rw [← hw1]; exact (Below.refl _ _).alloc (Nat.le_refl _) _
  have hd1 : Dc w1 w.heap.size L lf 0 false (.slice none 0 0) (.pointer none) 0 (.slice none 0 0) 0 := by rw [← HZ.out, ← hw1]; exact heap_alloc_new _ _
  have hs1 : w1.heap.size = w.heap.size + 1 := by rw [← hw1]; simp
  have HE : Hid (∀ r w2 w3, Rd w2 r none [] 0 → w1.heap.size ≤ r → Below w1.heap.size w1 w2 → Below (w2.setCell ⟨w.heap.size, 5, none⟩ (.pointer (some ⟨r, 0, none⟩))).heap.size (w2.setCell ⟨w.heap.size, 5, none⟩ (.pointer (some ⟨r, 0, none⟩))) w3 →
      w2.cell? ⟨w.heap.size, 5, none⟩ = some (.pointer none) ∧ w2.frozen? ⟨w.heap.size, 5, none⟩ = false ∧ w3.cell? ⟨w.heap.size, 6, none⟩ = some (.int .i64 0) ∧ w3.cell? ⟨w.heap.size, 7, none⟩ = some (.slice none 0 0) ∧ w3.cell? ⟨w.heap.size, 8, none⟩ = some (.int .i64 0) ∧ (∀ j, w3.frozen? ⟨w.heap.size, j, none⟩ = false) ∧
      LnPost w L lf (.returned (.pointer (some ⟨w.heap.size, 0, none⟩))) (((w3.setCell ⟨w.heap.size, 6, none⟩ (.int .i64 (L : Int))).setCell ⟨w.heap.size, 7, none⟩ (.slice none 0 0)).setCell ⟨w.heap.size, 8, none⟩ (.int .i64 (-1)))) := by
    intro r w2 w3 hr hrl hb2 hb3
    have hz2 : (w2.setCell ⟨w.heap.size, 5, none⟩ (.pointer (some ⟨r, 0, none⟩))).heap.size = w2.heap.size := by simp [World.setCell]
    rw [hz2] at hb3
    have hs2 := hb2.size
    have hs3 := hb3.size
    rw [hz2] at hs3
    have hd2 : Dc w2 w.heap.size L lf 0 false (.slice none 0 0) (.pointer none) 0 (.slice none 0 0) 0 := (hb2.block _ (by omega)).trans hd1
    have hd3 : Dc w3 w.heap.size L lf 0 false (.slice none 0 0) (.pointer (some ⟨r, 0, none⟩)) 0 (.slice none 0 0) 0 := (hb3.block _ (by omega)).trans (hd2.set5 _)
    have hr3 : Rd w3 r none [] 0 := hr.same ((hb3.block _ hr.lt).trans (Below.heap_setCell _ _ _ _ (by show r ≠ w.heap.size; omega))) (fun k hk => by cases hk)
    obtain ⟨d4, z4, o4⟩ := hd3.four (.slice none 0 0) (L : Int) (-1)
    have hr4 := hr3.same (o4 r (by omega)) (fun k hk => by cases hk)
    have hrl3 := hr3.lt
    refine ⟨hd2.head.2.2.2.2.2, hd2.frz 5, hd3.tab.1, hd3.tab.2.1, hd3.tab.2.2, hd3.frz, fun k => k = w.heap.size ∨ k = r, rfl, ⟨.inl rfl, fun k hk => ?_, w.heap.size, r, none, .inl ⟨rfl, .slice none 0 0, ⟨d4, hr4, ?_, by show 0 < 8; decide, (fun h => absurd h (Nat.lt_irrefl 0)), (fun x hx => by cases hx), Nat.zero_le _, WfT.nil L, ?_, .inl rfl, rfl, rfl, rfl, by show lf ≤ _; omega, .inl rfl, .inr rfl, (fun k hk => by cases hk), (fun k hk => by cases hk), by rw [z4]; omega⟩⟩⟩, ?_⟩
    · rw [z4]
      rcases hk with rfl | rfl
      · omega
      · omega
    · exact World.ownsRow_nil _ _ _ _
    · have := fc_bd hL; show fcN L + 0 ≤ 4096; unfold fcN; omega
    · refine ⟨?_, ?_, ?_, by rw [z4]; omega, fun k hk => ?_⟩
      · exact hb3.os.trans (hb2.os.trans hb1.os)
      · exact hb3.tape.trans (hb2.tape.trans hb1.tape)
      · exact hb3.output.trans (hb2.output.trans hb1.output)
      · rw [o4 k (by omega), hb3.block k (by omega), Below.heap_setCell _ _ _ _ (by show k ≠ w.heap.size; omega), hb2.block k (by omega), hb1.block k hk]
  have HIs := isLeast_any (L : Int) w1
  rw [decide_eq_true (by omega)] at HIs
  have CN := new_any w1
  clear hb1 hd1 hs1
  rcases (show lim < 0 ∨ lim = 0 ∨ 0 < lim by omega) with hc | hc | hc
  · obtain rfl : z = 0 := by omega
    clear hlf hz
    go_enter Try.func10, Try.ntmps10
    go_wp2_with fail
    refine HIs.mono ?_
    clear HIs
    rintro e w' ⟨rfl, hw'⟩
    subst w'
    go_wp2_with fail
    refine CN.mono ?_
    clear CN
    rintro e w2 ⟨r, rfl, hr1, hr2, hr3⟩
    have HR : Hid (Rd w2 r none [] 0 ∧ w1.heap.size ≤ r ∧ Below w1.heap.size w1 w2) := ⟨hr2, hr1, hr3⟩
    obtain ⟨x1, x2, -⟩ := HE.out r w2 _ hr2 hr1 hr3 (Below.refl _ _)
    clear hr1 hr2 hr3 hw1
    go_wp2_with fail
    refine (newTable_any (L : Int) _).mono ?_
    rintro e w3 ⟨rfl, hb3⟩
    obtain ⟨-, -, x3, x4, x5, x6, x7⟩ := HE.out r w2 w3 HR.out.1 HR.out.2.1 HR.out.2.2 hb3
    have y6 := x6 6
    have y7 := x6 7
    have y8 := x6 8
    have HP : Hid (LnPost w L lf (.returned (.pointer (some ⟨w.heap.size, 0, none⟩))) (((w3.setCell ⟨w.heap.size, 6, none⟩ (.int .i64 (L : Int))).setCell ⟨w.heap.size, 7, none⟩ (.slice none 0 0)).setCell ⟨w.heap.size, 8, none⟩ (.int .i64 (-1)))) := x7
    clear hb3 HE HR x6 x7 x1 x2
    go_wp2
    go_ret
    exact HP.out
  · obtain rfl : z = 0 := by omega
    subst hc
    clear hlf hz
    go_enter Try.func10, Try.ntmps10
    go_wp2_with fail
    refine HIs.mono ?_
    clear HIs
    rintro e w' ⟨rfl, hw'⟩
    subst w'
    go_wp2_with fail
    refine CN.mono ?_
    clear CN
    rintro e w2 ⟨r, rfl, hr1, hr2, hr3⟩
    have HR : Hid (Rd w2 r none [] 0 ∧ w1.heap.size ≤ r ∧ Below w1.heap.size w1 w2) := ⟨hr2, hr1, hr3⟩
    obtain ⟨x1, x2, -⟩ := HE.out r w2 _ hr2 hr1 hr3 (Below.refl _ _)
    clear hr1 hr2 hr3 hw1
    go_wp2_with fail
    refine (newTable_any (L : Int) _).mono ?_
    rintro e w3 ⟨rfl, hb3⟩
    obtain ⟨-, -, x3, x4, x5, x6, x7⟩ := HE.out r w2 w3 HR.out.1 HR.out.2.1 HR.out.2.2 hb3
    have y6 := x6 6
    have y7 := x6 7
    have y8 := x6 8
    have HP : Hid (LnPost w L lf (.returned (.pointer (some ⟨w.heap.size, 0, none⟩))) (((w3.setCell ⟨w.heap.size, 6, none⟩ (.int .i64 (L : Int))).setCell ⟨w.heap.size, 7, none⟩ (.slice none 0 0)).setCell ⟨w.heap.size, 8, none⟩ (.int .i64 (-1)))) := x7
    clear hb3 HE HR x6 x7 x1 x2
    go_wp2
    go_ret
    exact HP.out
  · obtain rfl : z = lim := by omega
    clear hlf hz
    go_enter Try.func10, Try.ntmps10
    go_wp2_with fail
    refine HIs.mono ?_
    clear HIs
    rintro e w' ⟨rfl, hw'⟩
    subst w'
    go_wp2_with fail
    refine CN.mono ?_
    clear CN
    rintro e w2 ⟨r, rfl, hr1, hr2, hr3⟩
    have HR : Hid (Rd w2 r none [] 0 ∧ w1.heap.size ≤ r ∧ Below w1.heap.size w1 w2) := ⟨hr2, hr1, hr3⟩
    obtain ⟨x1, x2, -⟩ := HE.out r w2 _ hr2 hr1 hr3 (Below.refl _ _)
    clear hr1 hr2 hr3 hw1
    go_wp2_with fail
    refine (newTable_any (L : Int) _).mono ?_
    rintro e w3 ⟨rfl, hb3⟩
    obtain ⟨-, -, x3, x4, x5, x6, x7⟩ := HE.out r w2 w3 HR.out.1 HR.out.2.1 HR.out.2.2 hb3
    have y6 := x6 6
    have y7 := x6 7
    have y8 := x6 8
    have HP : Hid (LnPost w L lf (.returned (.pointer (some ⟨w.heap.size, 0, none⟩))) (((w3.setCell ⟨w.heap.size, 6, none⟩ (.int .i64 (L : Int))).setCell ⟨w.heap.size, 7, none⟩ (.slice none 0 0)).setCell ⟨w.heap.size, 8, none⟩ (.int .i64 (-1)))) := x7
    clear hb3 HE HR x6 x7 x1 x2
    go_wp2
    go_ret
    exact HP.out
/-- A decoder of least bits that may not be. -/
def LBad (w : World) (d : Nat) (l : Int) : Prop := ∃ lf, Dc w d l lf 0 false (.slice none 0 0) (.pointer none) 0 (.slice none 0 0) 0
def LbPost (w : World) (l : Int) (e : Ending) (w' : World) : Prop :=
  e = .returned (.pointer (some ⟨w.heap.size, 0, none⟩)) ∧ LBad w' w.heap.size l ∧ Below w.heap.size w w'
set_option maxHeartbeats 800000 in
set_option maxRecDepth 100000 in
theorem lnew_no (l : Int) (hl : ¬ (2 ≤ l ∧ l ≤ 8)) (lim : Int) (w : World) : Calls Try.prog 10 #[.int .i64 l, .int .i64 lim] w fun e w' => LbPost w l e w' := by
  have HP : Hid (∀ z, LbPost w l (.returned (.pointer (some ⟨w.heap.size, 0, none⟩))) (w.alloc (.cells #[.int .i64 l, .int .i64 z, .int .i64 0, .bool false, .slice none 0 0, .pointer none, .int .i64 0, .slice none 0 0, .int .i64 0] 51))) := fun z => ⟨rfl, ⟨z, heap_alloc_new _ _⟩, (Below.refl _ _).alloc (Nat.le_refl _) _⟩
  have HIs : Hid (∀ w, Calls Try.prog 21 #[.int .i64 l] w fun e w' => e = .returned (.bool false) ∧ w' = w) := fun w => by have := isLeast_any l w; rwa [decide_eq_false hl] at this
  clear hl
  rcases (show lim < 0 ∨ lim = 0 ∨ 0 < lim by omega) with hc | hc | hc
  · go_enter Try.func10, Try.ntmps10
    go_wp2_with fail
    refine (HIs.out _).mono ?_
    rintro e w' ⟨rfl, rfl⟩
    go_wp2
    go_ret
    exact HP.out _
  · subst hc
    go_enter Try.func10, Try.ntmps10
    go_wp2_with fail
    refine (HIs.out _).mono ?_
    rintro e w' ⟨rfl, rfl⟩
    go_wp2
    go_ret
    exact HP.out _
  · go_enter Try.func10, Try.ntmps10
    go_wp2_with fail
    refine (HIs.out _).mono ?_
    rintro e w' ⟨rfl, rfl⟩
    go_wp2
    go_ret
    exact HP.out _
set_option maxHeartbeats 400000 in
theorem lpush_bad {w : World} {d : Nat} {l : Int} (h : LBad w d l) (hl : ¬ (2 ≤ l ∧ l ≤ 8)) (v : Value) : Calls Try.prog 11 #[.pointer (some ⟨d, 0, none⟩), v] w fun e w' => e = .returned (.tuple #[.slice none 0 0, .int .i64 1]) ∧ w' = w := by
  obtain ⟨lf, h⟩ := h
  obtain ⟨k0, -⟩ := h.head
  have HIs := isLeast_any l w
  rw [decide_eq_false hl] at HIs
  clear h hl
  go_enter Try.func11, Try.ntmps11
  go_wp2_with fail
  refine HIs.mono ?_
  clear HIs
  rintro e w1 ⟨rfl, hw⟩
  subst w1
  go_wp2
  go_ret2
  exact ⟨rfl, rfl⟩
set_option maxHeartbeats 400000 in
theorem ldone_bad {w : World} {d : Nat} {l : Int} (h : LBad w d l) : Calls Try.prog 15 #[.pointer (some ⟨d, 0, none⟩)] w fun e w' => e = .returned (.bool false) ∧ w' = w := by
  obtain ⟨lf, h⟩ := h
  obtain ⟨-, -, -, k3, -⟩ := h.head
  clear h
  go_enter Try.func15, Try.ntmps15
  go_wp2
  go_ret
  exact ⟨rfl, rfl⟩
theorem lrest_bad {w : World} {d : Nat} {l : Int} (h : LBad w d l) : Calls Try.prog 16 #[.pointer (some ⟨d, 0, none⟩)] w fun e w' => LrPost w [] e w' := by
  obtain ⟨lf, h⟩ := h
  exact lrest_row (av := none) (cv := 0) h.head.2.2.2.2.1 (.inl rfl) (fun _ => rfl) (by decide)
set_option maxHeartbeats 400000 in
theorem lpush_nil (v : Value) (w : World) : Calls Try.prog 11 #[.pointer none, v] w fun e w' => e = .returned (.tuple #[.slice none 0 0, .int .i64 1]) ∧ w' = w := by
  go_enter Try.func11, Try.ntmps11
  go_wp2
  go_ret2
  exact ⟨rfl, rfl⟩
set_option maxHeartbeats 400000 in
theorem ldone_nil (w : World) : Calls Try.prog 15 #[.pointer none] w fun e w' => e = .returned (.bool false) ∧ w' = w := by
  go_enter Try.func15, Try.ntmps15
  go_wp2
  go_ret
  exact ⟨rfl, rfl⟩
set_option maxHeartbeats 400000 in
theorem lrest_nil (w : World) : Calls Try.prog 16 #[.pointer none] w fun e w' => e = .returned (.slice none 0 0) ∧ w' = w := by
  go_enter Try.func16, Try.ntmps16
  go_wp2
  go_ret
  exact ⟨rfl, rfl⟩
end Go.Proofs.Ytcbmlioeeoghkaa
