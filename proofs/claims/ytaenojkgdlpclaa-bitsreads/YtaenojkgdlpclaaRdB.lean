import Derived.Test.YtaenojkgdlpclaaWritesB
namespace Go.Proofs.Ytaenojkgdlpclaa
open Go.RowKit

def PBytesPost (w : World) (r : Nat) (g : Option Nat) (l zs : List Int) (e : Ending) (w' : World) : Prop :=
  ∃ a c, e = .returned (.slice a l.length c) ∧ Row w' a l ∧ (∀ y, a = some y → w.heap.size ≤ y.block) ∧ Rd w' r g zs 0 ∧ Fr w w' r g
set_option maxHeartbeats 800000 in
theorem pbytes_no (r : Nat) (g : Option Nat) (zs : List Int) (gone : Nat) (n : Int) (w : World) (h : Rd w r g zs gone) (hn : n < 1 ∨ gone ≠ 0) :
    Calls Try.prog 20 #[.pointer (some ⟨r, 0, none⟩), .int .i64 n] w fun e w' => e = .returned (.slice none 0 0) ∧ w' = w := by
  obtain ⟨v, hh, hs⟩ := h
  obtain ⟨q0, q1, _, _⟩ := two_cells hh
  clear hh hs
  by_cases h1 : n < 1
  · clear hn
    go_enter Try.func20, Try.ntmps20
    go_wp2
    go_ret
    exact ⟨rfl, rfl⟩
  · have hg : ((gone : Int) != 0) = true := by rw [bne_iff_ne]; omega
    have h2 : 1 ≤ n := by omega
    clear hn
    go_enter Try.func20, Try.ntmps20
    go_wp2
    go_ret
    exact ⟨rfl, rfl⟩
theorem Row.take {w : World} {a : Option Addr} {l : List Int} (h : Row w a l) (k : Nat) : Row w a (l.take k) := by
  rcases h with rfl | ⟨b, off, rfl, hc⟩
  · exact .inl (by simp)
  · refine .inr ⟨b, off, rfl, fun i hi => ?_⟩
    rw [List.length_take] at hi
    rw [hc i (by omega), List.getElem?_take_of_lt (by omega)]
set_option maxHeartbeats 1600000 in
theorem pbytes_yes (r : Nat) (g : Option Nat) (zs : List Int) (n : Int) (k : Nat) (w : World) (h : Rd w r g zs 0) (hl : zs.length ≤ 1000000) (hn : 1 ≤ n) (hk : (k : Int) = min n zs.length) :
    Calls Try.prog 20 #[.pointer (some ⟨r, 0, none⟩), .int .i64 n] w fun e w' => PBytesPost w r g (zs.take k) (zs.drop k) e w' := by
  have HP : Hid (g ≠ some r) := h.sep
  obtain ⟨v, hh, hs⟩ := h
  obtain ⟨av, cv, hv, hl1, hl2, hl3⟩ := hs.shape
  subst hv
  rw [vals_len] at hh hs hl1
  unfold maxLen at hl2
  obtain ⟨q0, q1, f0, f1⟩ := two_cells hh
  have HH : Hid (w.heap[r]? = some (.cells #[.slice av zs.length cv, .int .i64 (0 : Nat)] 55 (0, 0))) := hh
  have HS : Hid (Sl w 5 (.slice av zs.length cv) g (vals zs)) := hs
  have HN : Hid (av = none → cv = 0) := hl3
  have HRW : Hid (Row w av (zs.take k)) := (hs.row rfl).take k
  have hkl : k ≤ zs.length := by omega
  have HKT : Hid ((zs.take k).length = k) := by rw [List.length_take, Nat.min_eq_left hkl]; rfl
  have HKM : Hid ((k : Int) = min n zs.length) := hk
  clear hh hs hl3 hk
  by_cases hc : n ≤ (zs.length : Int)
  · obtain rfl : n = (k : Int) := by have := HKM.out; omega
    clear HKM
    go_enter Try.func20, Try.ntmps20
    go_wp2_with (at_builtin; refine wpList_copy_row rfl _ _ rfl rfl av k cv (zs.take k) rfl HKT.out HN.out HRW.out (by omega) ?_)
    intro a1 c1 w1 g1 hsl1 hg1 hb1
    have hh1 := (hb1.block r (lt_of_block HH.out)).trans HH.out
    clear q0 q1 f0 f1
    obtain ⟨q0, q1, f0, f1⟩ := two_cells hh1
    have HH1 : Hid (w1.heap[r]? = some (.cells #[.slice av zs.length cv, .int .i64 (0 : Nat)] 55 (0, 0))) := hh1
    have HR1 : Hid (Row w1 a1 (zs.take k)) := hsl1.row rfl
    have HC1 : Hid (∀ y, a1 = some y → w.heap.size ≤ y.block) := by
      intro y hy
      rcases hsl1 with ⟨h, _⟩ | ⟨b, off, cp, cur, h, hgb, _⟩
      · simp only [Value.slice.injEq] at h; rw [h.1] at hy; cases hy
      · simp only [Value.slice.injEq] at h
        rw [h.1] at hy
        cases hy
        exact hg1 b hgb
    have HB1 : Hid (Below w.heap.size w w1) := hb1
    have HS2 : Hid (Sl w1 5 (.slice (if cv = k then av else Option.map (fun x => x.add k) av) (zs.length - k) (cv - k)) g ((vals zs).drop k)) := (HS.out.same fun j hj => hb1.block j (HS.out.lt hj)).cut k (by rw [vals_len]; exact hkl) (vals_len zs)
    have FIN : Hid (∀ v, Sl w1 5 v g ((vals zs).drop k) → PBytesPost w r g (zs.take k) (zs.drop k) (.returned (.slice a1 k c1)) (w1.setCell ⟨r, 0, none⟩ v)) := by
      intro v hv
      have hnr : ∀ j, g = some j → j ≠ r := fun j hj e => HP.out (by rw [hj, e])
      refine ⟨a1, c1, by rw [HKT.out], HR1.out.same fun y hy hz => ?_, HC1.out, ⟨v, two_set0 HH1.out, ?_⟩, (Fr.of_heap HB1.out).trans (Fr.set r 0 _ g) (.inl rfl)⟩
      · refine Below.heap_setCell w1 _ _ _ ?_
        rintro rfl
        have := HC1.out y hy
        have := lt_of_block HH.out
        omega
      · rw [show vals (zs.drop k) = (vals zs).drop k by simp [vals]]
        exact hv.same fun j hj => Below.heap_setCell w1 _ _ j (hnr j hj)
    clear hh1 hsl1 hg1 hb1
    by_cases hck : cv = k
    · subst hck
      rw [if_pos rfl, Nat.sub_self, show zs.length - cv = 0 by omega] at HS2
      go_wp2
      go_ret
      exact FIN.out _ HS2.out
    · rw [if_neg hck] at HS2
      go_wp2
      go_ret
      exact FIN.out _ HS2.out
  · have hc2 : (zs.length : Int) < n := by omega
    obtain rfl : k = zs.length := by have := HKM.out; omega
    clear HKM hc
    go_enter Try.func20, Try.ntmps20
    go_wp2_with (at_builtin; refine wpList_copy_row rfl _ _ rfl rfl av zs.length cv (zs.take zs.length) rfl HKT.out HN.out HRW.out (by omega) ?_)
    intro a1 c1 w1 g1 hsl1 hg1 hb1
    have hh1 := (hb1.block r (lt_of_block HH.out)).trans HH.out
    clear q0 q1 f0 f1
    obtain ⟨q0, q1, f0, f1⟩ := two_cells hh1
    have HH1 : Hid (w1.heap[r]? = some (.cells #[.slice av zs.length cv, .int .i64 (0 : Nat)] 55 (0, 0))) := hh1
    have HR1 : Hid (Row w1 a1 (zs.take zs.length)) := by
      show Row _ _ _
      rw [List.take_length]
      exact hsl1.row rfl
    have HC1 : Hid (∀ y, a1 = some y → w.heap.size ≤ y.block) := by
      intro y hy
      rcases hsl1 with ⟨h, _⟩ | ⟨b, off, cp, cur, h, hgb, _⟩
      · simp only [Value.slice.injEq] at h; rw [h.1] at hy; cases hy
      · simp only [Value.slice.injEq] at h
        rw [h.1] at hy
        cases hy
        exact hg1 b hgb
    have HB1 : Hid (Below w.heap.size w w1) := hb1
    have HS2 : Hid (Sl w1 5 (.slice (if cv = zs.length then av else Option.map (fun x => x.add zs.length) av) (zs.length - zs.length) (cv - zs.length)) g ((vals zs).drop zs.length)) := (HS.out.same fun j hj => hb1.block j (HS.out.lt hj)).cut zs.length (by rw [vals_len]; exact hkl) (vals_len zs)
    have FIN : Hid (∀ v, Sl w1 5 v g ((vals zs).drop zs.length) → PBytesPost w r g (zs.take zs.length) (zs.drop zs.length) (.returned (.slice a1 zs.length c1)) (w1.setCell ⟨r, 0, none⟩ v)) := by
      intro v hv
      have hnr : ∀ j, g = some j → j ≠ r := fun j hj e => HP.out (by rw [hj, e])
      refine ⟨a1, c1, by rw [HKT.out], HR1.out.same fun y hy hz => ?_, HC1.out, ⟨v, two_set0 HH1.out, ?_⟩, (Fr.of_heap HB1.out).trans (Fr.set r 0 _ g) (.inl rfl)⟩
      · refine Below.heap_setCell w1 _ _ _ ?_
        rintro rfl
        have := HC1.out y hy
        have := lt_of_block HH.out
        omega
      · rw [show vals (zs.drop zs.length) = (vals zs).drop zs.length by simp [vals]]
        exact hv.same fun j hj => Below.heap_setCell w1 _ _ j (hnr j hj)
    clear hh1 hsl1 hg1 hb1
    by_cases hck : cv = zs.length
    · rw [if_pos hck, hck, Nat.sub_self] at HS2
      go_wp2
      go_ret
      exact FIN.out _ HS2.out
    · rw [if_neg hck, Nat.sub_self] at HS2
      go_wp2
      go_ret
      exact FIN.out _ HS2.out
end Go.Proofs.Ytaenojkgdlpclaa
