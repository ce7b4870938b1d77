import Derived.Test.YtcbmlioeeoghkaaWr
namespace Go.Proofs.Ytcbmlioeeoghkaa
open Go.RowKit

theorem vals_set (l : List Int) (j : Nat) (x : Int) : (vals l).set j (.int .u8 x) = vals (l.set j x) := by simp [vals, List.map_set]
/-- A store into a slice of the call's own. -/
theorem Sl.stored {w : World} {g : Option Nat} {zs : List Int} {b off n cap : Nat} (h : Sl w 5 (.slice (some ⟨b, off, none⟩) n cap) g (vals zs)) (k : Nat) (hk : k < zs.length) (y : Int) : Sl (w.setCell ⟨b, off + k, none⟩ (.int .u8 y)) 5 (.slice (some ⟨b, off, none⟩) n cap) g (vals (zs.set k y)) := by
  rcases h with ⟨h, _⟩ | ⟨b', off', cap', cur, h, hg, hh, h1, h2, h3, hc⟩
  · cases h
  · simp at h
    obtain ⟨⟨rfl, rfl⟩, rfl, rfl⟩ := h
    refine .inr ⟨b, off, cap, cur.setIfInBounds (off + k) (.int .u8 y), by simp [vals], hg, heap_setCell_same w b (off + k) cur 5 _ hh, by simpa using h1, by simpa [vals] using h2, h3, fun i hi => ?_⟩
    rw [vals_len, List.length_set] at hi
    rw [← vals_set, List.getElem?_set]
    rw [vals_len] at h2 hc
    by_cases hik : k = i
    · subst hik
      rw [Array.getElem?_setIfInBounds_self_of_lt (by omega)]
      simp [vals_len, hi]
    · rw [Array.getElem?_setIfInBounds_ne (by omega), hc i hi]
      simp [hik]
theorem Fr.set2 {w : World} {r b i : Nat} {g : Option Nat} (u : Value) (hg : g = some b) : Fr w (w.setCell ⟨b, i, none⟩ u) r g :=
  ⟨rfl, rfl, rfl, by simp [World.setCell], fun k _ _ hk => Below.heap_setCell w _ u k (fun e => hk (by rw [hg, e]))⟩

theorem put_sum (W U : Int) (done p count : Nat) : W + U % 2 ^ (done + p) * 2 ^ count = W + U % 2 ^ done * 2 ^ count + U / 2 ^ done % 2 ^ p * 2 ^ (count + done) := by
  rw [emod_split, Int.add_mul, Int.mul_assoc, ← pow_add, Nat.add_comm done count, Int.add_assoc]
theorem put_fin {w2 : World} {r b off k cv c u p : Nat} {g : Option Nat} {zs : List Int} {L X Wd Y Z : Int} (hh : w2.heap[r]? = some (.cells #[.slice (some ⟨b, off, none⟩) (k + 1) cv, .int .i64 c] 89 (0, 0)))
    (hs : Sl w2 5 (.slice (some ⟨b, off, none⟩) (k + 1) cv) g (vals zs)) (hL : zs[k]?.getD 0 = L) (hb : Bytes zs) (hk : zs.length = k + 1) (hlit : litN zs = Wd) (hlt : Wd < 2 ^ c) (hc : c = 8 * k + u) (hup : u + p ≤ 8) (hp : 1 ≤ p) (hX0 : 0 ≤ X) (hX1 : X < 2 ^ p) (hYY : bits .or .u8 L (IntKind.u64.wrap (X * 2 ^ u) % 256) = Y) (hZ : (c : Int) + p = Z) :
    WrZ ((w2.setCell ⟨b, off + k, none⟩ (.int .u8 Y)).setCell ⟨r, 1, none⟩ (.int .i64 Z)).drew r g (zs.set k (L + X * 2 ^ u)) (c + p) ∧
    Bitz (zs.set k (L + X * 2 ^ u)) (Wd + X * 2 ^ c) (c + p) ∧
    Fr w2 ((w2.setCell ⟨b, off + k, none⟩ (.int .u8 Y)).setCell ⟨r, 1, none⟩ (.int .i64 Z)).drew r g := by
  have hgb : g = some b := by
    rcases hs with ⟨h, _⟩ | ⟨b', off', c', cur, h, h', _⟩
    · cases h
    · simp only [Value.slice.injEq, Option.some.injEq, Addr.mk.injEq] at h; rw [h', h.1.1]
  have hrb : r ≠ b := by
    intro e
    have : WrZ w2 r g zs c := ⟨_, hh, hs⟩
    exact this.sep (by rw [hgb, e])
  have hls := last_small hb k u hk (by rw [hlit, ← hc]; exact hlt)
  rw [hL] at hls
  have ho := or_byte L X u p hls.1 hls.2 hX0 hX1 hup
  have hY : bits .or .u8 L (IntKind.u64.wrap (X * 2 ^ u) % 256) = L + X * 2 ^ u := by
    rw [IntKind.wrap_u64, Int.emod_eq_of_lt ho.2.1 (by omega), Int.emod_eq_of_lt ho.2.1 ho.2.2.1, ho.1]
  have hst := put_step hb k u p X hk (by rw [hlit, ← hc]; exact hlt) hX0 hX1 hup
  rw [hL, hlit, ← hc] at hst
  rw [hY] at hYY
  subst hYY hZ
  refine ⟨⟨.slice (some ⟨b, off, none⟩) (k + 1) cv, ?_, ?_⟩, ⟨hst.2.1, by rw [List.length_set]; omega, hst.1, by rw [← hst.1]; exact hst.2.2⟩, ?_⟩
  · have := two_set1 (u := .int .i64 ((c : Int) + p)) ((Below.heap_setCell w2 ⟨b, off + k, none⟩ (.int .u8 (L + X * 2 ^ u)) r hrb).trans hh)
    rw [show ((c + p : Nat) : Int) = (c : Int) + p by omega]
    exact this
  · exact (hs.stored k (by omega) (L + X * 2 ^ u)).same fun q hq => Below.heap_setCell _ _ _ q (by rw [hgb] at hq; cases hq; exact fun e => hrb e.symm)
  · have h1 := Fr.set2 (w := w2) (r := r) (i := off + k) (.int .u8 (L + X * 2 ^ u)) hgb
    have h2 := h1.trans (Fr.set r 1 (.int .i64 ((c : Int) + p)) g) (.inl rfl)
    exact ⟨h2.os, h2.tape, h2.output, h2.size, h2.block⟩

theorem yy8 (L X : Int) : bits .or .u8 L (IntKind.u64.wrap (X % 2 ^ 8 * 2 ^ 0) % 256) = bits .or .u8 L (X % 256) := by
  have e : IntKind.u64.wrap (X % 2 ^ 8 * 2 ^ 0) % 256 = X % 256 := by
    rw [Int.pow_zero, Int.mul_one, show (2 : Int) ^ 8 = 256 from rfl, IntKind.wrap_u64]; omega
  rw [e]
end Go.Proofs.Ytcbmlioeeoghkaa
