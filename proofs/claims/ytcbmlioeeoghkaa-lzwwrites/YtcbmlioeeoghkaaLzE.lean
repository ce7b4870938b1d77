/- LZW: a decoder's end and its errors. -/
import Derived.Test.YtcbmlioeeoghkaaLzG
import Derived.Test.YtcbmlioeeoghkaaWr
namespace Go.Proofs.Ytcbmlioeeoghkaa
open Go.RowKit
def LBytesPost (w : World) (r : Nat) (g : Option Nat) (zs : List Int) (e : Ending) (w' : World) : Prop :=
  ∃ a c g1, e = .returned (.slice a zs.length c) ∧ Sl w' 5 (.slice a zs.length c) g1 (vals zs) ∧ (∀ k, g1 = some k → w.heap.size ≤ k) ∧ Rd w' r g [] 0 ∧ Fr w w' r g
set_option maxHeartbeats 800000 in
theorem lbytes_no (r : Nat) (g : Option Nat) (w : World) (h : Rd w r g [] 0) :
    Calls Try.prog 56 #[.pointer (some ⟨r, 0, none⟩), .int .i64 0] w fun e w' => LBytesPost w r g [] e w' := by
  have HG : Hid (Rd w r g [] 0) := h
  obtain ⟨v, hh, hs⟩ := h
  obtain ⟨q0, q1, _, _⟩ := two_cells hh
  clear hh hs
  go_enter Try.func56, Try.ntmps56
  go_wp2
  go_ret
  exact ⟨none, 0, none, rfl, Sl.nil _ _, (by intro k hk; cases hk), HG.out, Fr.refl _ _ _⟩
set_option maxHeartbeats 1600000 in
theorem lbytes_yes (r : Nat) (g : Option Nat) (zs : List Int) (w : World) (h : Rd w r g zs 0) (hl : zs.length ≤ 140737488355328) (hn : 1 ≤ zs.length) :
    Calls Try.prog 56 #[.pointer (some ⟨r, 0, none⟩), .int .i64 zs.length] w fun e w' => LBytesPost w r g zs e w' := by
  have HP : Hid (g ≠ some r) := h.sep
  obtain ⟨v, hh, hs⟩ := h
  obtain ⟨av, cv, hv, hl1, hl2, hl3⟩ := hs.shape
  subst hv
  rw [vals_len] at hh hs hl1
  unfold maxLen at hl2
  obtain ⟨q0, q1, f0, f1⟩ := two_cells hh
  have HH : Hid (w.heap[r]? = some (.cells #[.slice av zs.length cv, .int .i64 (0 : Nat)] 81 (0, 0))) := hh
  have HS : Hid (Sl w 5 (.slice av zs.length cv) g (vals zs)) := hs
  have HN : Hid (av = none → cv = 0) := hl3
  have HRW : Hid (Row w av zs) := hs.row rfl
  clear hh hs hl3
  go_enter Try.func56, Try.ntmps56
  go_wp2_with (at_builtin; refine wpList_copy_row rfl _ _ rfl rfl av zs.length cv zs rfl rfl HN.out HRW.out (by omega) ?_)
  intro a1 c1 w1 g1 hsl1 hg1 hb1
  have hh1 := (hb1.block r (lt_of_block HH.out)).trans HH.out
  clear q0 q1 f0 f1
  obtain ⟨q0, q1, f0, f1⟩ := two_cells hh1
  have HH1 : Hid (w1.heap[r]? = some (.cells #[.slice av zs.length cv, .int .i64 (0 : Nat)] 81 (0, 0))) := hh1
  have HC1 : Hid (∀ k, g1 = some k → w.heap.size ≤ k) := hg1
  have HSL : Hid (Sl w1 5 (.slice a1 zs.length c1) g1 (vals zs)) := hsl1
  have HB1 : Hid (Below w.heap.size w w1) := hb1
  have HS2 : Hid (Sl w1 5 (.slice (if cv = zs.length then av else Option.map (fun x => x.add zs.length) av) (zs.length - zs.length) (cv - zs.length)) g ((vals zs).drop zs.length)) := (HS.out.same fun j hj => hb1.block j (HS.out.lt hj)).cut zs.length (by rw [vals_len]; exact Nat.le_refl _) (vals_len zs)
  have FIN : Hid (∀ v, Sl w1 5 v g ((vals zs).drop zs.length) → LBytesPost w r g zs (.returned (.slice a1 zs.length c1)) (w1.setCell ⟨r, 0, none⟩ v)) := by
    intro v hv
    have hnr : ∀ j, g = some j → j ≠ r := fun j hj e => HP.out (by rw [hj, e])
    refine ⟨a1, c1, g1, rfl, HSL.out.same fun k hk => ?_, HC1.out, ⟨v, two_set0 HH1.out, ?_⟩, (Fr.of_heap HB1.out).trans (Fr.set r 0 _ g) (.inl rfl)⟩
    · refine Below.heap_setCell w1 _ _ _ ?_
      have := HC1.out k hk
      have := lt_of_block HH.out
      simp; omega
    · rw [show vals ([] : List Int) = (vals zs).drop zs.length by rw [List.drop_eq_nil_of_le (by rw [vals_len]; exact Nat.le_refl _)]; rfl]
      exact hv.same fun j hj => Below.heap_setCell w1 _ _ j (hnr j hj)
  clear hh1 hsl1 hg1 hb1
  by_cases hck : cv = zs.length
  · rw [if_pos hck, hck, Nat.sub_self] at HS2
    go_wp2
    go_ret
    exact FIN.out _ HS2.out
  · rw [if_neg hck, Nat.sub_self] at HS2
    go_wp2
    go_ret
    exact FIN.out _ HS2.out
theorem lbytes_any (r : Nat) (g : Option Nat) (zs : List Int) (w : World) (h : Rd w r g zs 0) (hl : zs.length ≤ 140737488355328) :
    Calls Try.prog 56 #[.pointer (some ⟨r, 0, none⟩), .int .i64 zs.length] w fun e w' => LBytesPost w r g zs e w' := by
  rcases Nat.eq_zero_or_pos zs.length with h0 | h0
  · obtain rfl := List.length_eq_zero_iff.1 h0
    exact lbytes_no r g w h
  · exact lbytes_yes r g zs w h hl h0
/-- What a call that ends a decoder leaves. -/
theorem fail_world {w : World} {d : Nat} {L lf er : Int} {dn : Bool} {rv iv : Value} {tl : Int} {fv : Value} {ah : Int} (h : Dc w d L lf er dn rv iv tl fv ah) :
    Dc ((((w.setCell ⟨d, 5, none⟩ (.pointer none)).setCell ⟨d, 6, none⟩ (.int .i64 0)).setCell ⟨d, 7, none⟩ (.slice none 0 0)).setCell ⟨d, 8, none⟩ (.int .i64 0)) d L lf er dn rv (.pointer none) 0 (.slice none 0 0) 0 := (((h.set5 _).set6 0).set7 _).set8 0
theorem fail_frame {w : World} {d : Nat} {g : Option Nat} : Fr w ((((w.setCell ⟨d, 5, none⟩ (.pointer none)).setCell ⟨d, 6, none⟩ (.int .i64 0)).setCell ⟨d, 7, none⟩ (.slice none 0 0)).setCell ⟨d, 8, none⟩ (.int .i64 0)) d g := (((frL_set 5 _).trans (frL_set 6 _) (.inl rfl)).trans (frL_set 7 _) (.inl rfl)).trans (frL_set 8 _) (.inl rfl)
set_option maxHeartbeats 800000 in
theorem fail_any {w : World} {d : Nat} {L lf er : Int} {dn : Bool} {rv iv : Value} {tl : Int} {fv : Value} {ah : Int} (x : Int) (h : Dc w d L lf er dn rv iv tl fv ah) :
    Calls Try.prog 47 #[.pointer (some ⟨d, 0, none⟩), .int .i64 x] w fun e w' => e = .returned (.tuple #[]) ∧ Dc w' d L lf x dn rv (.pointer none) 0 (.slice none 0 0) 0 ∧ Fr w w' d none := by
  obtain ⟨k0, k1, k2, k3, k4, k5⟩ := h.head
  have kf := h.frz
  have h1 := h.set2 x
  obtain ⟨w1, hw1⟩ : ∃ w1, w.setCell ⟨d, 2, none⟩ (.int .i64 x) = w1 := ⟨_, rfl⟩
  rw [hw1] at h1
  obtain ⟨j0, j1, j2, j3, j4, j5⟩ := h1.head
  obtain ⟨j6, j7, j8⟩ := h1.tab
  have jf := h1.frz
  have HP : Hid (Dc ((((w1.setCell ⟨d, 5, none⟩ (.pointer none)).setCell ⟨d, 6, none⟩ (.int .i64 0)).setCell ⟨d, 7, none⟩ (.slice none 0 0)).setCell ⟨d, 8, none⟩ (.int .i64 0)) d L lf x dn rv (.pointer none) 0 (.slice none 0 0) 0 ∧ Fr w ((((w1.setCell ⟨d, 5, none⟩ (.pointer none)).setCell ⟨d, 6, none⟩ (.int .i64 0)).setCell ⟨d, 7, none⟩ (.slice none 0 0)).setCell ⟨d, 8, none⟩ (.int .i64 0)) d none) := ⟨fail_world h1, by rw [← hw1]; exact (frL_set 2 _).trans fail_frame (.inl rfl)⟩
  clear h h1
  go_enter Try.func47, Try.ntmps47
  go_wp2
  go_end0
  exact ⟨rfl, HP.out⟩
end Go.Proofs.Ytcbmlioeeoghkaa
