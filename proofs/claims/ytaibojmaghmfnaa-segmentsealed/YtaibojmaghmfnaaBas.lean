import Derived.Test.YtaibojmaghmfnaaSl
import Derived.Test.YtaibojmaghmfnaaNum
import Derived.Deep.QuietTactic
import Derived.BigQuiet
namespace Go.Proofs.Ytaibojmaghmfnaa
open Go.RowKit

theorem Try.info5 : (Try.prog.info? 5).map (fun i => (i.zero, i.size, i.bytes)) = some (some (.int .u8 0), 1, 1) := by kernel_rfl
def vals (zs : List Int) : List Value := zs.map (Value.int .u8)
theorem vals_append (l m : List Int) : vals (l ++ m) = vals l ++ vals m := by simp [vals]
theorem vals_len (l : List Int) : (vals l).length = l.length := by simp [vals]
theorem vals_at (l : List Int) (i : Nat) (hi : i < l.length) : (vals l)[i]? = some (.int .u8 (l[i]?.getD 0)) := by simp [vals, hi]
theorem vals_one (zs : List Int) : ∀ u ∈ vals zs, u.oneCell' = true := by
  intro u hu
  simp only [vals, List.mem_map] at hu
  obtain ⟨z, _, rfl⟩ := hu
  rfl
theorem ret_int {k : IntKind} {a b : Int} (h : a = b) : Ending.returned (.int k a) = .returned (.int k b) := by rw [h]

/-- Bytes that lie in memory. -/
def Row (w : World) (a : Option Addr) (zs : List Int) : Prop :=
  zs = [] ∨ ∃ b off, a = some ⟨b, off, none⟩ ∧ ∀ i, i < zs.length → w.cell? ⟨b, off + i, none⟩ = some (.int .u8 (zs[i]?.getD 0))
theorem cell_lt {w : World} {x : Addr} {v : Value} (h : w.cell? x = some v) : x.block < w.heap.size := by
  unfold World.cell? at h
  by_cases hx : x.block < w.heap.size
  · exact hx
  · rw [Array.getElem?_eq_none (by omega)] at h; simp at h
theorem Row.lt {w : World} {a : Option Addr} {zs : List Int} (h : Row w a zs) : ∀ x, a = some x → zs ≠ [] → x.block < w.heap.size := by
  intro x hx hz
  rcases h with h | ⟨b, off, rfl, hc⟩
  · exact absurd h hz
  · simp at hx; subst hx
    exact cell_lt (hc 0 (List.length_pos_iff.2 hz))
theorem Row.same {w w' : World} {a : Option Addr} {zs : List Int} (h : Row w a zs) (hs : ∀ x, a = some x → zs ≠ [] → w'.heap[x.block]? = w.heap[x.block]?) : Row w' a zs := by
  rcases h with h | ⟨b, off, rfl, hc⟩
  · exact .inl h
  · by_cases hz : zs = []
    · exact .inl hz
    · exact .inr ⟨b, off, rfl, fun i hi => (World.cell?_of_block (a := ⟨b, off + i, none⟩) (hs ⟨b, off, none⟩ rfl hz)).trans (hc i hi)⟩
theorem Row.old {w w' : World} {a : Option Addr} {zs : List Int} (h : Row w a zs) (hb : Below w.heap.size w w') : Row w' a zs := h.same fun x hx hz => hb.block _ (h.lt x hx hz)
theorem news_row {w : World} {x : Addr} {zs : List Int} (h : Row w (some x) zs) : ∀ j u, (vals zs)[j]? = some u → w.cell? (x.add j) = some u := by
  intro j u hj
  rcases h with rfl | ⟨b, off, hx, hc⟩
  · simp [vals] at hj
  · simp at hx
    subst hx
    simp only [vals, List.getElem?_map, Option.map_eq_some_iff] at hj
    obtain ⟨z, hz, rfl⟩ := hj
    have hlt : j < zs.length := by
      by_cases h : j < zs.length
      · exact h
      · rw [List.getElem?_eq_none (by omega)] at hz; cases hz
    have := hc j hlt
    rw [hz] at this
    cases j with
    | zero => simpa [Addr.add] using this
    | succ k => simpa [Addr.add] using this
theorem Sl.row {w : World} {v : Value} {g : Option Nat} {zs : List Int} (h : Sl w 5 v g (vals zs)) {a : Option Addr} {n cap : Nat} (hv : v = .slice a n cap) : Row w a zs := by
  subst hv
  rcases h with ⟨_, _, h⟩ | ⟨b, off, cap', cur, h, _, hh, _, _, _, hc⟩
  · exact .inl (by simpa [vals] using h)
  · simp only [Value.slice.injEq] at h
    obtain ⟨rfl, _, _⟩ := h
    refine .inr ⟨b, off, rfl, fun i hi => ?_⟩
    rw [← vals_at zs i hi, ← hc i (by rw [vals_len]; exact hi)]
    simp [World.cell?, hh]

theorem two_cells {w : World} {c : Nat} {v0 v1 : Value} {t : TypeId} (h : w.heap[c]? = some (.cells #[v0, v1] t (0, 0))) :
    w.cell? ⟨c, 0, none⟩ = some v0 ∧ w.cell? ⟨c, 1, none⟩ = some v1 ∧ w.frozen? ⟨c, 0, none⟩ = false ∧ w.frozen? ⟨c, 1, none⟩ = false := by
  simp [World.cell?, World.frozen?, h]
theorem two_set0 {w : World} {c : Nat} {v0 v1 u : Value} {t : TypeId} (h : w.heap[c]? = some (.cells #[v0, v1] t (0, 0))) : (w.setCell ⟨c, 0, none⟩ u).heap[c]? = some (.cells #[u, v1] t (0, 0)) := by
  simp [World.setCell, Array.getElem?_modify, h]
theorem two_set1 {w : World} {c : Nat} {v0 v1 u : Value} {t : TypeId} (h : w.heap[c]? = some (.cells #[v0, v1] t (0, 0))) : (w.setCell ⟨c, 1, none⟩ u).heap[c]? = some (.cells #[v0, u] t (0, 0)) := by
  simp [World.setCell, Array.getElem?_modify, h]

/-- What a method of a struct at block r, whose slice lies in block g, may change. -/
structure Fr (w w' : World) (r : Nat) (g : Option Nat) : Prop where
  os : w'.os = w.os
  tape : w'.tape = w.tape
  output : w'.output = w.output
  size : w.heap.size ≤ w'.heap.size
  block : ∀ k, k < w.heap.size → k ≠ r → some k ≠ g → w'.heap[k]? = w.heap[k]?
theorem Fr.refl (w : World) (r : Nat) (g : Option Nat) : Fr w w r g := ⟨rfl, rfl, rfl, Nat.le_refl _, fun _ _ _ _ => rfl⟩
theorem Fr.trans {a b c : World} {r : Nat} {g g' : Option Nat} (h : Fr a b r g) (k : Fr b c r g') (hg : g' = g ∨ ∃ k, g' = some k ∧ a.heap.size ≤ k) : Fr a c r g :=
  ⟨k.os.trans h.os, k.tape.trans h.tape, k.output.trans h.output, Nat.le_trans h.size k.size, fun j hj hr hg' => by
    refine (k.block j (Nat.lt_of_lt_of_le hj h.size) hr ?_).trans (h.block j hj hr hg')
    rcases hg with rfl | ⟨q, rfl, hq⟩
    · exact hg'
    · simp; omega⟩
theorem Fr.of_heap {w w' : World} {r : Nat} {g : Option Nat} (h : Below w.heap.size w w') : Fr w w' r g := ⟨h.os, h.tape, h.output, h.size, fun k hk _ _ => h.block k hk⟩
theorem Fr.set {w : World} (r i : Nat) (u : Value) (g : Option Nat) : Fr w (w.setCell ⟨r, i, none⟩ u) r g :=
  ⟨rfl, rfl, rfl, by simp [World.setCell], fun k _ hk _ => Below.heap_setCell w _ u k hk⟩
theorem Fr.grown {w w' : World} {r : Nat} {g : Option Nat} (h : w.grownBy w' g) : Fr w w' r g := ⟨h.os, h.tape, h.output, h.size, fun k hk _ hg => h.block k hk hg⟩
theorem Fr.below {B : Nat} {a w w' : World} {r : Nat} {g : Option Nat} (h : Below B a w) (k : Fr w w' r g) (hr : B ≤ r) (hg : ∀ q, g = some q → B ≤ q) (hs : B ≤ w.heap.size) : Below B a w' :=
  ⟨k.os.trans h.os, k.tape.trans h.tape, k.output.trans h.output, Nat.le_trans h.size k.size, fun j hj => (k.block j (by omega) (by omega) (fun e => by have := hg j e.symm; omega)).trans (h.block j hj)⟩
end Go.Proofs.Ytaibojmaghmfnaa
