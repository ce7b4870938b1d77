import Derived.Test.YtcbmlioeeoghkaaRd3
import Derived.Test.YtcbmlioeeoghkaaWrM
import Derived.StillTail
namespace Go.Proofs.Ytcbmlioeeoghkaa
open Go.RowKit

/-- THE WRITER at block r: its bits are the number W, of 'count' bits. -/
def WrZ (w : World) (r : Nat) (g : Option Nat) (zs : List Int) (count : Nat) : Prop :=
  ∃ v, w.heap[r]? = some (.cells #[v, .int .i64 count] 89 (0, 0)) ∧ Sl w 5 v g (vals zs)
theorem WrZ.sep {w : World} {r : Nat} {g : Option Nat} {zs : List Int} {count : Nat} (h : WrZ w r g zs count) : g ≠ some r := by
  obtain ⟨v, hh, hs⟩ := h
  rintro rfl
  rcases hs with ⟨_, h, _⟩ | ⟨b, off, cap, cur, _, h, hb, _⟩
  · cases h
  · cases h; rw [hh] at hb; simp at hb
theorem WrZ.same {w w' : World} {r : Nat} {g : Option Nat} {zs : List Int} {gone : Nat} (h : WrZ w r g zs gone) (hr : w'.heap[r]? = w.heap[r]?) (hg : ∀ k, g = some k → w'.heap[k]? = w.heap[k]?) : WrZ w' r g zs gone := by
  obtain ⟨v, hh, hs⟩ := h
  exact ⟨v, hr.trans hh, hs.same hg⟩
theorem WrZ.lt {w : World} {r : Nat} {g : Option Nat} {zs : List Int} {gone : Nat} (h : WrZ w r g zs gone) : r < w.heap.size := by
  obtain ⟨v, hh, _⟩ := h; exact lt_of_block hh
theorem WrZ.glt {w : World} {r : Nat} {g : Option Nat} {zs : List Int} {gone : Nat} (h : WrZ w r g zs gone) {k : Nat} (hk : g = some k) : k < w.heap.size := by
  obtain ⟨v, _, hs⟩ := h; exact hs.lt hk
theorem WrZ.old {w w' : World} {r : Nat} {g : Option Nat} {zs : List Int} {gone : Nat} (h : WrZ w r g zs gone) (hb : Below w.heap.size w w') : WrZ w' r g zs gone :=
  h.same (hb.block _ h.lt) fun _ hk => hb.block _ (h.glt hk)
/-- The bytes of count bits that make the number W. -/
def Bitz (zs : List Int) (W : Int) (count : Nat) : Prop := Bytes zs ∧ zs.length = (count + 7) / 8 ∧ litN zs = W ∧ W < 2 ^ count

def NewWr (w : World) (e : Ending) (w' : World) : Prop := ∃ r, e = .returned (.pointer (some ⟨r, 0, none⟩)) ∧ w.heap.size ≤ r ∧ WrZ w' r none [] 0 ∧ Below w.heap.size w w'
set_option maxHeartbeats 400000 in
theorem newW_any (w : World) : Calls Try.prog 31 #[] w fun e w' => NewWr w e w' := by
  go_enter Try.func31, Try.ntmps31
  go_wp2
  go_ret
  unfold NewWr
  exact ⟨w.heap.size, rfl, Nat.le_refl _, ⟨_, heap_alloc_new _ _, Sl.nil _ _⟩, (Below.refl _ _).alloc (Nat.le_refl _) _⟩
def WrPost (w : World) (r : Nat) (g : Option Nat) (zs : List Int) (count : Nat) (e : Ending) (w' : World) : Prop :=
  e = .returned (.tuple #[]) ∧ ∃ g', WrZ w' r g' zs count ∧ (g' = g ∨ ∃ k, g' = some k ∧ w.heap.size ≤ k) ∧ Fr w w' r g
def NewBytes (w : World) (zs : List Int) (e : Ending) (w' : World) : Prop :=
  ∃ a cap, e = .returned (.slice a zs.length cap) ∧ zs.length ≤ cap ∧ cap ≤ maxLen ∧ (a = none → cap = 0) ∧ Row w' a zs ∧ Below w.heap.size w w'
theorem row_len_none {w : World} {l : List Int} (h : Row w none l) : l = [] := by
  rcases h with h | ⟨b, off, h, _⟩
  · exact h
  · cases h

/-- 'append([]byte(nil), x...)': a copy in new memory. -/
theorem wpList_copy_row {w : World} {ops : Array Oper} {rest : List Oper} {o : Oper} {a : Act} {Q : Exit → Act → World → Prop} (hgd : o.guard = none) (s x : Operand)
    (ho : o.op = .call { callee := .builtin .append, args := #[s, x], argTypes := #[22, 22] })
    (hs : a.eval s = .slice none 0 0) (ad : Option Addr) (m c : Nat) (l : List Int) (hx : a.eval x = .slice ad m c) (hm : l.length = m) (hc : ad = none → c = 0) (hr : Row w ad l) (hsum : m ≤ 140737488355328)
    (h : ∀ a' c' w' g', Sl w' 5 (.slice a' m c') g' (vals l) → (∀ k, g' = some k → w.heap.size ≤ k) → Below w.heap.size w w' → wpList Try.prog ops Q rest (a.put o.dst (.slice a' m c')) w') : wpList Try.prog ops Q (o :: rest) a w := by
  obtain ⟨i0, hi, hz0, hz1, hz2⟩ := info_parts Try.info5
  cases ad with
  | none =>
    obtain rfl := row_len_none hr
    obtain rfl := hc rfl
    simp at hm
    subst hm
    exact wpList_append_sl_none hgd s x _ ho 5 i0 Try.underlying22 hi none 0 0 hs (Nat.le_refl _) hx (h none 0 w none (Sl.nil _ _) (by intro k hk; cases hk) (Below.refl _ _))
  | some y =>
    refine wpList_append_sl hgd s x _ ho 5 i0 (.int .u8 0) 1 Try.underlying22 hi hz0 hz1 hz2 rfl _ none [] hs (Sl.nil _ _) y m c (vals l) hx (by rw [vals_len]; exact hm) (news_row hr) (vals_one l) (by simp; omega) (by simp; unfold maxLen; omega) ?_
    intro v' w' g' hsl hg' hgrow
    rw [List.nil_append] at hsl
    obtain ⟨a', c', hv, _⟩ := hsl.shape
    rw [vals_len, hm] at hv
    subst hv
    refine h a' c' w' g' hsl ?_ ⟨hgrow.os, hgrow.tape, hgrow.output, hgrow.size, fun k hk => hgrow.block k hk (by simp)⟩
    intro k hk
    rcases hg' with rfl | ⟨q, rfl, hq⟩
    · cases hk
    · cases hk; exact hq

set_option maxHeartbeats 400000 in
theorem outW_any (r : Nat) (g : Option Nat) (zs : List Int) (count : Nat) (w : World) (h : WrZ w r g zs count) (hl : zs.length ≤ 140737488355328) :
    Calls Try.prog 38 #[.pointer (some ⟨r, 0, none⟩)] w fun e w' => NewBytes w zs e w' := by
  obtain ⟨v, hh, hs⟩ := h
  obtain ⟨av, cv, hv, hl1, hl2, hl3⟩ := hs.shape
  have hrow := hs.row hv
  subst hv
  rw [vals_len] at hh hl1
  obtain ⟨q0, q1, _, _⟩ := two_cells hh
  clear hh hs
  go_enter Try.func38, Try.ntmps38
  go_wp2_with (at_builtin; refine wpList_copy_row rfl _ _ rfl rfl av zs.length cv zs rfl rfl hl3 hrow hl ?_)
  intro a' c' w1 g' hsl hg' hb
  go_wp2
  go_ret
  unfold NewBytes
  obtain ⟨a2, c2, hv, k1, k2, k3⟩ := hsl.shape
  rw [vals_len] at hv k1
  simp only [Value.slice.injEq, true_and] at hv
  obtain ⟨rfl, rfl⟩ := hv
  exact ⟨a', c', rfl, k1, k2, k3, hsl.row rfl, hb⟩
end Go.Proofs.Ytcbmlioeeoghkaa
