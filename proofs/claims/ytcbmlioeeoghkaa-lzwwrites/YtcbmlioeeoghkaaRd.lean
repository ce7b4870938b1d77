import Derived.Test.YtcbmlioeeoghkaaRdN
namespace Go.Proofs.Ytcbmlioeeoghkaa
open Go.RowKit

/-- THE READER at block r: its bytes zs, gone bits of the first. -/
def Rd (w : World) (r : Nat) (g : Option Nat) (zs : List Int) (gone : Nat) : Prop :=
  ∃ v, w.heap[r]? = some (.cells #[v, .int .i64 gone] 81 (0, 0)) ∧ Sl w 5 v g (vals zs)
theorem Rd.sep {w : World} {r : Nat} {g : Option Nat} {zs : List Int} {gone : Nat} (h : Rd w r g zs gone) : g ≠ some r := by
  obtain ⟨v, hh, hs⟩ := h
  rintro rfl
  rcases hs with ⟨_, h, _⟩ | ⟨b, off, cap, cur, _, h, hb, _⟩
  · cases h
  · cases h; rw [hh] at hb; simp at hb
theorem Rd.same {w w' : World} {r : Nat} {g : Option Nat} {zs : List Int} {gone : Nat} (h : Rd w r g zs gone) (hr : w'.heap[r]? = w.heap[r]?) (hg : ∀ k, g = some k → w'.heap[k]? = w.heap[k]?) : Rd w' r g zs gone := by
  obtain ⟨v, hh, hs⟩ := h
  exact ⟨v, hr.trans hh, hs.same hg⟩
theorem Rd.lt {w : World} {r : Nat} {g : Option Nat} {zs : List Int} {gone : Nat} (h : Rd w r g zs gone) : r < w.heap.size := by
  obtain ⟨v, hh, _⟩ := h; exact lt_of_block hh
theorem Rd.glt {w : World} {r : Nat} {g : Option Nat} {zs : List Int} {gone : Nat} (h : Rd w r g zs gone) {k : Nat} (hk : g = some k) : k < w.heap.size := by
  obtain ⟨v, _, hs⟩ := h; exact hs.lt hk
theorem Rd.old {w w' : World} {r : Nat} {g : Option Nat} {zs : List Int} {gone : Nat} (h : Rd w r g zs gone) (hb : Below w.heap.size w w') : Rd w' r g zs gone :=
  h.same (hb.block _ h.lt) fun _ hk => hb.block _ (h.glt hk)
/-- Another reader's work. -/
theorem Rd.other {w w' : World} {r r' : Nat} {g g' : Option Nat} {zs : List Int} {gone : Nat} (h : Rd w r g zs gone) (hf : Fr w w' r' g') (h1 : r ≠ r') (h2 : some r ≠ g') (h3 : g ≠ some r') (h4 : g = none ∨ g ≠ g') : Rd w' r g zs gone := by
  refine h.same (hf.block r h.lt h1 h2) fun k hk => hf.block k (h.glt hk) (fun e => h3 (by rw [hk, e])) (fun e => ?_)
  rcases h4 with h4 | h4
  · rw [h4] at hk; cases hk
  · exact h4 (by rw [hk, e])

def NewRd (w : World) (e : Ending) (w' : World) : Prop := ∃ r, e = .returned (.pointer (some ⟨r, 0, none⟩)) ∧ w.heap.size ≤ r ∧ Rd w' r none [] 0 ∧ Below w.heap.size w w'
set_option maxHeartbeats 400000 in
theorem new_any (w : World) : Calls Try.prog 22 #[] w fun e w' => NewRd w e w' := by
  go_enter Try.func22, Try.ntmps22
  go_wp2
  go_ret
  unfold NewRd
  exact ⟨w.heap.size, rfl, Nat.le_refl _, ⟨_, heap_alloc_new _ _, Sl.nil _ _⟩, (Below.refl _ _).alloc (Nat.le_refl _) _⟩

def FeedPost (w : World) (r : Nat) (g : Option Nat) (zs : List Int) (gone : Nat) (e : Ending) (w' : World) : Prop :=
  e = .returned (.tuple #[]) ∧ ∃ g', Rd w' r g' zs gone ∧ (g' = g ∨ ∃ k, g' = some k ∧ w.heap.size ≤ k) ∧ Fr w w' r g

set_option maxHeartbeats 800000 in
theorem feed_any (r : Nat) (g : Option Nat) (zs bs : List Int) (gone : Nat) (a : Option Addr) (m c : Nat) (w : World) (h : Rd w r g zs gone) (hm : bs.length = m) (hc : a = none → c = 0) (hr : Row w a bs) (hsum : zs.length + m ≤ 140737488355328) :
    Calls Try.prog 24 #[.pointer (some ⟨r, 0, none⟩), .slice a m c] w fun e w' => FeedPost w r g (zs ++ bs) gone e w' := by
  have hsep := h.sep
  obtain ⟨v, hh, hs⟩ := h
  obtain ⟨i0, hi, hz0, hz1, hz2⟩ := info_parts Try.info5
  obtain ⟨av, cv, hv, hl1, hl2, hl3⟩ := hs.shape
  subst hv
  rw [vals_len] at hh hs hl1
  obtain ⟨q0, q1, f0, f1⟩ := two_cells hh
  have HH : Hid (w.heap[r]? = some (.cells #[.slice av zs.length cv, .int .i64 gone] 81 (0, 0))) := hh
  have HS : Hid (Sl w 5 (.slice av zs.length cv) g (vals zs)) := hs
  have HR : Hid (Row w a bs) := hr
  have HM : Hid (bs.length = m) := hm
  have HP : Hid (g ≠ some r) := hsep
  clear hh hs hr hsep
  cases a with
  | none =>
    have hb : bs = [] := by
      rcases HR.out with h | ⟨b, off, h, _⟩
      · exact h
      · cases h
    have hc0 := hc rfl
    subst hb
    simp at hm
    subst hm hc0
    go_enter Try.func24, Try.ntmps24
    go_wp2_with (at_builtin; refine wpList_append_sl_none rfl _ _ 22 rfl 5 i0 Try.underlying22 hi av _ cv rfl hl1 rfl ?_)
    go_end0
    unfold FeedPost
    refine ⟨rfl, g, ?_, .inl rfl, Fr.set r 0 _ g⟩
    refine ⟨_, two_set0 HH.out, HS.out.same fun k hk => Below.heap_setCell w _ _ k (fun e => HP.out (by rw [hk, e]))⟩
  | some x =>
    clear hc hm
    go_enter Try.func24, Try.ntmps24
    go_wp2_with (at_builtin; refine wpList_append_sl rfl _ _ 22 rfl 5 i0 (.int .u8 0) 1 Try.underlying22 hi hz0 hz1 hz2 rfl _ g (vals zs) rfl HS.out x m c (vals bs) rfl (by rw [vals_len]; exact HM.out) (news_row HR.out) (vals_one bs) (by rw [vals_len]; omega) (by rw [vals_len]; unfold maxLen; omega) ?_)
    intro v' w1 g' hsl hg' hgrow
    obtain ⟨a', c', hv, _⟩ := hsl.shape
    rw [List.length_append, vals_len, vals_len] at hv
    rw [hv]
    rw [hv] at hsl
    have hh1 : w1.heap[r]? = _ := (hgrow.block r (lt_of_block HH.out) (fun e => HP.out e.symm)).trans HH.out
    obtain ⟨p0, p1, e0, e1⟩ := two_cells hh1
    have HH1 : Hid (w1.heap[r]? = some (.cells #[.slice av zs.length cv, .int .i64 gone] 81 (0, 0))) := hh1
    have HS1 : Hid (Sl w1 5 (.slice a' (zs.length + bs.length) c') g' (vals zs ++ vals bs)) := hsl
    have HG : Hid (g' = g ∨ ∃ k, g' = some k ∧ w.heap.size ≤ k) := hg'
    clear hh1 hsl hv hg'
    go_wp2
    go_end0
    unfold FeedPost
    have hnr : g' ≠ some r := by
      rcases HG.out with rfl | ⟨k, rfl, hk⟩
      · exact HP.out
      · have := lt_of_block HH.out; simp; omega
    refine ⟨rfl, g', ⟨_, two_set0 HH1.out, ?_⟩, HG.out, (Fr.grown hgrow).trans (Fr.set r 0 _ g) (.inl rfl)⟩
    rw [vals_append]
    exact HS1.out.same fun k hk => Below.heap_setCell w1 _ _ k (fun e => hnr (by rw [hk, e]))

set_option maxHeartbeats 400000 in
theorem have_any (r : Nat) (g : Option Nat) (zs : List Int) (gone : Nat) (w : World) (h : Rd w r g zs gone) (hl : zs.length ≤ 140737488355328) (hg : gone < 8) :
    Calls Try.prog 52 #[.pointer (some ⟨r, 0, none⟩)] w fun e w' => e = .returned (.int .i64 (zs.length * 8 - gone)) ∧ ∃ n, w' = w.drewN n := by
  obtain ⟨v, hh, hs⟩ := h
  obtain ⟨av, cv, hv, hl1, hl2, hl3⟩ := hs.shape
  subst hv
  rw [vals_len] at hh
  obtain ⟨q0, q1, f0, f1⟩ := two_cells hh
  clear hh hs hl1 hl2 hl3
  go_enter Try.func52, Try.ntmps52
  go_wp2
  go_quiet (fail)
  go_wp2
  go_ret
  exact ⟨rfl, nq, rfl⟩
end Go.Proofs.Ytcbmlioeeoghkaa
