/- halftoneref11.Of: what holds between two chunks. -/
import Derived.Test.YtoofpkcgiodfcaaOq0
namespace Go.Proofs.Ytoofpkcgiodfcaa
open Go.RowKit
theorem first8_cell (w : World) (i : Nat) (hi : i < 8) : (w.alloc (.cells #[.int .u8 137, .int .u8 80, .int .u8 78, .int .u8 71, .int .u8 13, .int .u8 10, .int .u8 26, .int .u8 10] 5)).cell? ⟨w.heap.size, i, none⟩ = some (.int .u8 (first8[i]?.getD 0)) := by
  rw [World.cell?_alloc_mark]
  match i, hi with
  | 0, _ => rfl
  | 1, _ => rfl
  | 2, _ => rfl
  | 3, _ => rfl
  | 4, _ => rfl
  | 5, _ => rfl
  | 6, _ => rfl
  | 7, _ => rfl
theorem first_short {bs : List Int} {i : Nat} (hi : i < 8) (h : bs.take i = first8.take i) (hl : bs.length ≤ i) : ofAll bs = ([], 2) := by
  have e := congrArg List.length h
  rw [List.length_take, List.length_take] at e
  have h8 : first8.length = 8 := rfl
  have hi2 : bs.length = i := by omega
  rw [List.take_of_length_le hl] at h
  unfold ofAll
  rw [if_neg (by intro e; have := congrArg List.length e; rw [List.length_take] at this; omega), if_pos (by rw [hi2]; exact h)]
theorem first_wrong {bs : List Int} {i : Nat} (hi : i < 8) (hl : i < bs.length) (hne : bs[i]?.getD 0 ≠ first8[i]?.getD 0) : ofAll bs = ([], 3) := by
  have h8 : first8.length = 8 := rfl
  unfold ofAll
  rw [if_neg, if_neg]
  · intro e
    apply hne
    rw [e, List.getElem?_take, if_pos hl]
  · intro e
    apply hne
    rw [← e, List.getElem?_take, if_pos hi]
theorem first_more {bs : List Int} {i : Nat} (hi : i < 8) (hl : i < bs.length) (h : bs.take i = first8.take i) (he : bs[i]?.getD 0 = first8[i]?.getD 0) : bs.take (i + 1) = first8.take (i + 1) := by
  have h8 : first8.length = 8 := rfl
  rw [List.take_add_one, List.take_add_one, h, List.getElem?_eq_getElem hl, List.getElem?_eq_getElem (show i < first8.length by omega)]
  rw [List.getElem?_eq_getElem hl, List.getElem?_eq_getElem (show i < first8.length by omega)] at he
  simp only [Option.getD_some] at he
  rw [he]
/-- The chunks read so far, in memory. -/
structure OfM (w : World) (S : List Sm) (v : Value) (wr : World) : Prop where
  row : SmRow wr w.heap.size v S
  dat : ∀ x ∈ S, ∃ g, Sl wr 5 (.slice x.a x.s.data.length x.c) g (vals x.s.data) ∧ ∀ k, g = some k → w.heap.size ≤ k
  be : Below w.heap.size w wr
theorem OfM.nil (w wr : World) (h : Below w.heap.size w wr) : OfM w [] (.slice none 0 0) wr := ⟨World.ownsRow_nil _ _ _ _, (fun x hx => by cases hx), h⟩
theorem OfM.push {w wr w2 w' : World} {S : List Sm} {v v' : Value} {y : Sm} {g : Option Nat} (h : OfM w S v wr) (hb : Below wr.heap.size wr w2) (hs : Sl w2 5 (.slice y.a y.s.data.length y.c) g (vals y.s.data)) (hgn : ∀ k, g = some k → w.heap.size ≤ k) (hrow : SmRow w' w.heap.size v' (S ++ [y])) (hg : w2.grownBy w' v.ownBlock) : OfM w (S ++ [y]) v' w' := by
  have hb2 : Below w.heap.size w w2 := chainB h.be hb h.be.size
  have hrow2 : SmRow w2 w.heap.size v S := h.row.same fun k hk => hb.block k (h.row.blk k hk).2.1
  have tag : ∀ k c fr, w2.heap[k]? = some (.cells c 5 fr) → v.ownBlock ≠ some k := by
    intro k c fr hc e
    obtain ⟨_, _, c2, h2⟩ := hrow2.blk k e
    rw [hc] at h2
    simp at h2
  have keep : ∀ {x : Sm} {g}, Sl w2 5 (.slice x.a x.s.data.length x.c) g (vals x.s.data) → Sl w' 5 (.slice x.a x.s.data.length x.c) g (vals x.s.data) := fun h1 => h1.same fun k hk => by
    obtain ⟨c, hc⟩ := h1.tagB k hk
    exact hg.block k (h1.lt hk) (fun e => tag k c _ hc e.symm)
  refine ⟨hrow, fun x hx => ?_, hb2.grown hg hb2.size (fun k hk => (h.row.blk k hk).1)⟩
  rcases List.mem_append.1 hx with hx | hx
  · obtain ⟨g1, h1, n1⟩ := h.dat x hx
    exact ⟨g1, keep (h1.same fun k hk => hb.block k (h1.lt hk)), n1⟩
  · obtain rfl := List.mem_singleton.1 hx
    exact ⟨g, keep hs, hgn⟩
theorem OfM.fin {w wr : World} {S : List Sm} {k d : List Int} {n : Nat} {a : Option Addr} {c g c2 : Nat} (h : OfM w (S ++ [⟨⟨k, n, d, false⟩, a, c⟩]) (.slice (some ⟨g, 0, none⟩) (S.length + 1) c2) wr) : OfM w (S ++ [⟨⟨k, n, d, true⟩, a, c⟩]) (.slice (some ⟨g, 0, none⟩) (S.length + 1) c2) (wr.setCell ⟨g, S.length * 4 + 3, none⟩ (.bool true)) := by
  obtain ⟨hr1, hr2, c0, hr3⟩ := h.row.blk g rfl
  have hrow : SmRow wr w.heap.size (.slice (some ⟨g, 0, none⟩) (S ++ [(⟨⟨k, n, d, false⟩, a, c⟩ : Sm)]).length c2) (S ++ [⟨⟨k, n, d, false⟩, a, c⟩]) := by
    rw [List.length_append]; exact h.row
  have st := hrow.stored (S.length * 4 + 3) (.bool true)
  have hset : (flatS (S ++ [⟨⟨k, n, d, false⟩, a, c⟩])).set (S.length * 4 + 3) (.bool true) = flatS (S ++ [⟨⟨k, n, d, true⟩, a, c⟩]) := by
    rw [flatS_append, flatS_append, flatS_one, flatS_one, List.set_append_right _ _ (by rw [flatS_len]; omega), flatS_len, Nat.add_sub_cancel_left]
    rfl
  have keep : ∀ q, q ≠ g → (wr.setCell ⟨g, S.length * 4 + 3, none⟩ (.bool true)).heap[q]? = wr.heap[q]? := fun q hq => Below.heap_setCell _ _ _ _ hq
  refine ⟨?_, fun x hx => ?_, h.be.trans ⟨rfl, rfl, rfl, by simp [World.setCell], fun q hq => keep q (by omega)⟩⟩
  · unfold SmRow
    rw [← hset]
    have := st.1
    rw [List.length_append] at this ⊢
    exact this
  · obtain ⟨y, hy, e1, e2, e3⟩ : ∃ y ∈ S ++ [(⟨⟨k, n, d, false⟩, a, c⟩ : Sm)], y.a = x.a ∧ y.c = x.c ∧ y.s.data = x.s.data := by
      rcases List.mem_append.1 hx with hx | hx
      · exact ⟨x, List.mem_append_left _ hx, rfl, rfl, rfl⟩
      · obtain rfl := List.mem_singleton.1 hx
        exact ⟨_, List.mem_append_right _ (List.mem_singleton.2 rfl), rfl, rfl, rfl⟩
    obtain ⟨g1, h1, n1⟩ := h.dat y hy
    rw [e1, e2, e3] at h1
    refine ⟨g1, h1.same fun q hq => keep q ?_, n1⟩
    rintro rfl
    obtain ⟨c3, hc3⟩ := h1.tagB q hq
    rw [hr3] at hc3
    simp at hc3
theorem new_ge {g' : Option Nat} {wr : World} {n : Nat} (h : g' = some wr.heap.size ∨ ∃ j, g' = some j ∧ (wr.alloc (.cells #[] 5)).heap.size ≤ j) (hn : n ≤ wr.heap.size) : ∀ k, g' = some k → n ≤ k := by
  intro k hk
  rcases h with e | ⟨j, e, hj⟩
  · rw [e] at hk; cases hk; exact hn
  · rw [e] at hk; cases hk
    have : (wr.alloc (.cells #[] 5)).heap.size = wr.heap.size + 1 := by simp
    omega
def OfP (w : World) (bs : List Int) (e : Ending) (w' : World) : Prop := ∃ v S, e = .returned (.tuple #[v, .int .i64 (ofAll bs).2]) ∧ OfM w S v w' ∧ S.map Sm.s = (ofAll bs).1
structure OfI (w : World) (bs : List Int) (t : Nat) (S : List Sm) (ar : Option Addr) (cr : Nat) (v : Value) (wr : World) : Prop where
  tle : t ≤ bs.length
  cle : bs.length - t ≤ cr
  cm : cr ≤ 9223372036854775807
  nn : ar = none → cr = 0
  rw' : Row wr ar (bs.drop t)
  bl : ∀ x, ar = some x → bs.drop t ≠ [] → x.block < w.heap.size
  m : OfM w S v wr
  say : ofAll bs = (S.map Sm.s ++ (ps (bs.drop t)).1, (ps (bs.drop t)).2)
  sn : S.length ≤ t
theorem OfI.done {w : World} {bs : List Int} {t : Nat} {S : List Sm} {ar : Option Addr} {cr : Nat} {v : Value} {wr : World} (h : OfI w bs t S ar cr v wr) {er : Int} (hp : ps (bs.drop t) = ([], er)) : OfP w bs (.returned (.tuple #[v, .int .i64 er])) wr := by
  have := h.say
  rw [hp, List.append_nil] at this
  exact ⟨v, S, by rw [this], h.m, by rw [this]⟩
end Go.Proofs.Ytoofpkcgiodfcaa
