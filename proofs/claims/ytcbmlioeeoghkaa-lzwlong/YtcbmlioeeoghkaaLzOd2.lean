/- LZW, the document's: the run's end by its code. -/
import Derived.Test.YtcbmlioeeoghkaaLzOd
namespace Go.Proofs.Ytcbmlioeeoghkaa
open Go.RowKit
theorem RC9.u8 {w : World} {p : Nat} {ao ar : Option Addr} {no co nr cr : Nat} {e : Int} {d : Bool} (h : RC9 w p (.slice ao no co) (.slice ar nr cr) e d) (i : Nat) (x : Int) : w.cell? ⟨p, i, none⟩ ≠ some (.int .u8 x) := by
  unfold RC9 at h
  simp only [World.cell?, h]
  match i with
  | 0 => simp
  | 1 => simp
  | 2 => simp
  | 3 => simp
  | i + 4 => simp
theorem Row.off9 {w : World} {a : Option Addr} {zs : List Int} (h : Row w a zs) {p : Nat} (hp : ∀ i x, w.cell? ⟨p, i, none⟩ ≠ some (.int .u8 x)) : ∀ y, a = some y → zs ≠ [] → y.block ≠ p := by
  intro y hy hz e
  rcases h with h | ⟨b, off, rfl, hc⟩
  · exact hz h
  · cases hy
    have hl : 0 < zs.length := by cases zs with | nil => exact absurd rfl hz | cons => simp
    have e' : b = p := e
    subst e'
    exact hp _ _ (hc 0 hl)
/-- The bytes behind the end. -/
theorem rest_call {wc : World} {P11 : Nat} {zs : List Int} {PW Q j n M2 lc2 : Nat} {la2 : Option Addr} {lg : Option Nat} {ov : Value} (h3 : Sl wc 3 (.slice la2 M2 lc2) lg (ivals ((bitsL zs).drop PW))) (h11 : RC9 wc P11 ov (.slice none 0 0) 0 false) (hz : zs.length = n) (hB : Bytes zs) (hn : n ≤ 30000) (hQ : Q ≤ M2)
    (hj : j ≤ n ∧ PW + Q = 8 * j ∧ M2 - Q = 8 * (n - j)) (x : Option Addr) (hx : (Q < lc2 ∧ x = Option.map (fun x => x.add Q) la2) ∨ Q = lc2) :
    Calls Try.prog 29 #[.slice x (8 * (n - j)) (lc2 - Q)] (wc.setCell ⟨P11, 3, none⟩ (.bool true)) fun e w' => NewBytes (wc.setCell ⟨P11, 3, none⟩ (.bool true)) (zs.drop j) e w' := by
  obtain ⟨h1, h2, h4⟩ := hj
  have e1 : (bitsL zs).drop (PW + Q) = bitsL (zs.drop j) := by rw [h2, bitsL_drop]
  have hlen : ((bitsL zs).drop PW).length = M2 := by
    obtain ⟨a', c', g1, -⟩ := h3.shape
    simp only [Value.slice.injEq] at g1
    rw [g1.2.1, ivals_len]
  have hcap : M2 ≤ lc2 ∧ lc2 ≤ maxLen := by
    obtain ⟨a', c', g1, g2, g3, -⟩ := h3.shape
    simp only [Value.slice.injEq] at g1
    rw [ivals_len, hlen] at g2
    exact ⟨by omega, by rw [g1.2.2]; exact g3⟩
  have hb : Bytes (zs.drop j) := fun y hy => hB y (List.mem_of_mem_drop hy)
  have hl9 : (zs.drop j).length = n - j := by rw [List.length_drop, hz]
  have C := refBytes_any x (8 * (n - j)) (lc2 - Q) (bitsL (zs.drop j)) (wc.setCell ⟨P11, 3, none⟩ (.bool true)) (by rw [bitsL_len, hl9]) (by omega) (by omega) (by omega) (bitsL_bit _) (by
    by_cases hk : n - j = 0
    · exact .inl (by rw [List.eq_nil_of_length_eq_zero (hl9.trans hk)]; rfl)
    · rcases hx with ⟨g1, g2⟩ | g1
      · have hs := h3
        rcases h3 with ⟨g3, -⟩ | ⟨b, off, cp, cur, g3, -⟩
        · simp only [Value.slice.injEq] at g3; omega
        · simp only [Value.slice.injEq] at g3
          obtain ⟨g4, g5, g6⟩ := g3
          subst g4
          have g7 := hs.drop Q (by rw [ivals_len, hlen]; omega) (off + Q) (M2 - Q) (by rw [ivals_len, hlen]) (.inl ⟨g1, rfl⟩)
          have e : (ivals ((bitsL zs).drop PW)).drop Q = ivals (bitsL (zs.drop j)) := by unfold ivals; rw [← List.map_drop, List.drop_drop, e1]
          rw [e] at g7
          have g8 := (g7.same (w' := wc.setCell ⟨P11, 3, none⟩ (.bool true)) fun k hk => Below.heap_setCell _ _ _ _ (fun (q : k = P11) => by
            obtain ⟨c', hc'⟩ := Sl.tagB9 g7 hk
            unfold RC9 at h11
            rw [q, h11] at hc'
            simp at hc')).irow rfl
          rw [g2]
          have g9 : Option.map (fun x : Addr => x.add Q) (some ⟨b, off, none⟩) = some ⟨b, off + Q, none⟩ := by simp [Addr.add]
          rw [g9]
          exact g8
      · omega)
  refine C.mono fun e w' h => ?_
  have e9 : chunkL (bitsL (zs.drop j)) ((8 * (n - j) + 7) / 8) = zs.drop j := by
    rw [show (8 * (n - j) + 7) / 8 = (zs.drop j).length by omega]
    exact chunk_bitsL hb
  rw [e9] at h
  exact h
section
variable {w : World} {L P6 P11 lim : Nat} {zs : List Int} {P : Nat} {fs : List Tx} {ah : Int} {out : List Int} {lv tv ov : Value} {lg tg og : Option Nat} {wr : World}
theorem OfR.fin (h : OfR w L P6 P11 lim zs P fs ah out lv tv ov lg tg og wr) (s : Lz) (hs : lzO L lim zs = s) (ho : s.out = out) (hk : s.k = 1) (he : s.er = 0) {ao : Option Addr} {co : Nat} (hov : ov = .slice ao out.length co) {w5 : World} {a5 : Option Addr} {n5 c5 : Nat} (hn5 : s.rest.length = n5)
    (hb : Below (wr.setCell ⟨P11, 3, none⟩ (.bool true)).heap.size (wr.setCell ⟨P11, 3, none⟩ (.bool true)) w5) (hr : Row w5 a5 s.rest) :
    RC9 w5 P11 ov (.slice none 0 0) 0 true ∧ RC9 (w5.setCell ⟨P11, 1, none⟩ (.slice a5 n5 c5)) P11 ov (.slice a5 n5 c5) 0 true ∧ RC9 (w5.setCell ⟨P11, 1, none⟩ (.slice a5 n5 c5)) P6 (.slice none 0 0) (.slice none 0 0) 0 false ∧
    RC9 (lay4 (w5.setCell ⟨P11, 1, none⟩ (.slice a5 n5 c5)) P6 ov (.slice a5 n5 c5) 0 true) P6 ov (.slice a5 n5 c5) 0 true ∧
    OfP w (lzO L lim zs) (.returned (.agg #[ov, .slice a5 n5 c5, .int .i64 0, .bool true])) (lay4 (w5.setCell ⟨P11, 1, none⟩ (.slice a5 n5 c5)) P6 ov (.slice a5 n5 c5) 0 true) := by
  obtain ⟨p1, p2, p3⟩ := h.pb
  obtain ⟨g1, g2⟩ := h.og6
  have h11 : RC9 wr P11 ov (.slice none 0 0) 0 false := h.r11
  have hz : (wr.setCell ⟨P11, 3, none⟩ (.bool true)).heap.size = wr.heap.size := by simp [World.setCell]
  have hl6 := lt_of_block h.r6
  have hl11 := lt_of_block h.r11
  have k11 : RC9 w5 P11 ov (.slice none 0 0) 0 true := (h11.set3 true).of (hb.block P11 (by omega))
  have k6 : RC9 w5 P6 (.slice none 0 0) (.slice none 0 0) 0 false := (hb.block P6 (by omega)).trans ((Below.heap_setCell _ _ _ _ p3).trans h.r6)
  have m6 : RC9 (w5.setCell ⟨P11, 1, none⟩ (.slice a5 n5 c5)) P6 (.slice none 0 0) (.slice none 0 0) 0 false := (Below.heap_setCell _ _ _ _ p3).trans k6
  have hz5 : (w5.setCell ⟨P11, 1, none⟩ (.slice a5 n5 c5)).heap.size = w5.heap.size := by simp [World.setCell]
  have hbs := hb.size
  have hws := h.be.size
  have hbb : Below w.heap.size w (w5.setCell ⟨P11, 1, none⟩ (.slice a5 n5 c5)) := ⟨hb.os.trans h.be.os, hb.tape.trans h.be.tape, hb.output.trans h.be.output, by omega, fun k hk => by
    rw [Below.heap_setCell _ _ _ _ (by show k ≠ P11; omega), hb.block k (by omega), Below.heap_setCell _ _ _ _ (by show k ≠ P11; omega)]
    exact h.be.block k hk⟩
  refine ⟨k11, k11.set1 _, m6, lay4_run m6 _ _ _ _, ?_⟩
  obtain ⟨a', c', hv, hl1, hl2, hl3⟩ := h.osl.shape
  rw [vals_len] at hv hl1
  unfold maxLen at hl2
  rw [hov] at hv
  simp only [Value.slice.injEq, true_and] at hv
  obtain ⟨rfl, rfl⟩ := hv
  have hkeep : ∀ k, k ≠ P6 → k ≠ P11 → (lay4 (w5.setCell ⟨P11, 1, none⟩ (.slice a5 n5 c5)) P6 ov (.slice a5 n5 c5) 0 true).heap[k]? = w5.heap[k]? := fun k h6 h7 => by
    rw [lay4_heap _ _ _ _ _ _ h6]
    exact Below.heap_setCell _ _ _ _ h7
  have hsl : Sl (lay4 (w5.setCell ⟨P11, 1, none⟩ (.slice a5 n5 c5)) P6 ov (.slice a5 n5 c5) 0 true) 5 ov og (vals out) := h.osl.same fun k hk => by
    have q6 : k ≠ P6 := fun e => g1 (by rw [hk, e])
    have q7 : k ≠ P11 := fun e => g2 (by rw [hk, e])
    rw [hkeep k q6 q7, hb.block k (by have := h.osl.lt hk; omega)]
    exact Below.heap_setCell _ _ _ _ q7
  have hrow : Row (lay4 (w5.setCell ⟨P11, 1, none⟩ (.slice a5 n5 c5)) P6 ov (.slice a5 n5 c5) 0 true) a5 s.rest := hr.same fun y hy hne => by
    rw [hov] at k11
    exact hkeep _ (hr.off9 k6.u8 y hy hne) (hr.off9 k11.u8 y hy hne)
  refine ⟨ao, co, a5, c5, ?_, ?_, by rw [hs]; exact hrow, ?_, by omega, hl3, lay4_below hbb P6 p1 _ _ _ _⟩
  · rw [hs, ho, hk, he, hn5, hov]
    rfl
  · rw [hs, ho]; exact hsl.row hov
  · rw [hs, ho]; exact hl1
end
end Go.Proofs.Ytcbmlioeeoghkaa
