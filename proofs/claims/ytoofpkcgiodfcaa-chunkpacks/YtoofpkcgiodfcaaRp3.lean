/- The reference's chunk, packed. -/
import Derived.Test.YtoofpkcgiodfcaaRp2
namespace Go.Proofs.Ytoofpkcgiodfcaa
open Go.RowKit
/-- New bytes of the call's own. -/
def OwnB (w : World) (zs : List Int) (e : Ending) (w' : World) : Prop := ∃ v, e = .returned v ∧ w'.ownsRow w.heap.size 5 1 v zs.length (vals zs) ∧ Below w.heap.size w w'
set_option maxHeartbeats 800000 in
theorem rturnO_any (a : Option Addr) (n cap : Nat) (zs : List Int) (w : World) (hn : zs.length = n) (hl : n ≤ 140737488351232) (hr : Row w a zs) :
    Calls Try.prog 47 #[.slice a n cap] w fun e w' => OwnB w zs.reverse e w' := by
  obtain ⟨B, hB⟩ : ∃ B, B = w.heap.size := ⟨_, rfl⟩
  have HB : Hid (B = w.heap.size) := hB
  clear hB
  have HN : Hid (zs.length = n) := hn
  clear hn
  rcases hr with rfl | ⟨b, off, rfl, hc⟩
  · have hn := HN.out
    simp at hn
    subst hn
    go_enter Try.func47, Try.ntmps47
    go_wp2
    go_loop [3, 4] (fun v i => v = .slice none 0 0 ∧ i = .int .i64 (-1)) (fun _ _ => 0)
    case atStart => exact ⟨rfl, rfl⟩
    case round =>
      obtain ⟨rfl, rfl⟩ := hrel
      go_wp2
      go_ret
      exact ⟨_, rfl, World.ownsRow_nil _ _ _ _, Below.refl _ _⟩
  · obtain ⟨i0, hi, hz0, hz1, hz2⟩ := info_parts Try.info5
    have hbB : zs ≠ [] → b < B := by
      intro hz
      have := cell_lt (hc 0 (List.length_pos_iff.2 hz))
      rw [HB.out]; exact this
    go_enter Try.func47, Try.ntmps47
    go_wp2
    go_loopw [3, 4] (fun v i wr => ∃ j : Nat, j ≤ n ∧ i = .int .i64 ((j : Int) - 1) ∧ wr.ownsRow B 5 1 v (n - j) (vals (zs.reverse.take (n - j))) ∧ Below B w wr) (fun _ i _ => (intOf i + 1).toNat)
    case atStart => exact ⟨n, Nat.le_refl _, by go_num, by rw [Nat.sub_self]; exact World.ownsRow_nil _ _ _ _, Below.refl _ _⟩
    case round =>
      obtain ⟨j, hj, rfl, hown, hbel⟩ := hrel
      cases j with
      | zero =>
        go_wp2
        go_ret
        rw [Nat.sub_zero, List.take_of_length_le (by have := HN.out; simp; omega)] at hown
        exact ⟨_, rfl, by rw [← HB.out, List.length_reverse, HN.out]; exact hown, by rw [← HB.out]; exact hbel⟩
      | succ j =>
        rw [show ((j + 1 : Nat) : Int) - 1 = (j : Int) from by omega]
        have hck : wr.cell? ⟨b, off + j, none⟩ = some (.int .u8 (zs[j]?.getD 0)) := (hbel.cell (hbB (by intro h; have := HN.out; rw [h] at this; simp at this; omega))).trans (hc j (by have := HN.out; omega))
        go_wp2_with (first
          | (at_builtin; refine wpList_append_own _ rfl _ _ 26 rfl B 5 i0 (.int .u8 0) 1 1 Try.underlying26 hi hz0 hz1 hz2 rfl (by decide) _ _ _ rfl (hown.alloc _) ⟨wr.heap.size, 0, none⟩ 1 1 [.int .u8 (zs[j]?.getD 0)] rfl rfl ?c1 ?c2 ?c3 ?c4 ?c5 ?_)
          | go_in)
        case c1 => exact (cell_one_new _ _ _)
        case c2 => intro u hu; simp at hu; subst hu; rfl
        case c3 => unfold maxLen; omega
        case c4 => omega
        case c5 => have := hbel.size; have := HB.out; simp; omega
        intro v' w1 hown' hgrow _
        have R := own_step (by rw [HB.out]; exact Nat.le_refl _) hown hbel hown' hgrow (show n - (j + 1) + 1 = n - j by omega) (take_rev zs n j HN.out (by omega))
        clear hown hbel hown' hgrow hck
        go_wp2
        go_roundw
        case rel => exact ⟨j, by omega, by go_num, R.1, R.2⟩
        case measure => simp [intOf]
set_option maxHeartbeats 800000 in
theorem refPutBigO_any (n v : Int) (w : World) : Calls Try.prog 41 #[.int .i64 n, .int .i64 v] w fun e w' => OwnB w (octs v (put8 n)).reverse e w' := by
  have C := refPutLittle_any n v w
  have HL : Hid ((octs v (put8 n)).length ≤ 8) := by simp [octs]; exact put8_le n
  generalize octs v (put8 n) = l at *
  go_enter Try.func41, Try.ntmps41
  go_wp2_with fail
  refine C.mono ?_
  clear C
  rintro e w1 ⟨a1, cap1, rfl, g1, g2, gn, g3, g4⟩
  go_wp2_with fail
  refine (rturnO_any a1 _ cap1 l _ rfl (by have := HL.out; omega) g3).mono ?_
  rintro e w2 ⟨v2, rfl, f3, f4⟩
  have hB : Below w.heap.size w w2 := g4.trans (f4.mono g4.size)
  have HO : Hid (w2.ownsRow w.heap.size 5 1 v2 l.reverse.length (vals l.reverse)) := ⟨f3.1, f3.2.elim .inl (fun ⟨g, cap, cur, hv, hg, r⟩ => .inr ⟨g, cap, cur, hv, Nat.le_trans g4.size hg, r⟩)⟩
  clear f3
  go_wp2
  go_ret
  exact ⟨_, rfl, HO.out, hB⟩

theorem heap_setCellsF {b e : Nat} {fr : Nat × Nat} : ∀ (vs : List Value) (w : World) (o : Nat) (cur : Array Value), w.heap[b]? = some (.cells cur e fr) → (w.setCells b o vs).heap[b]? = some (.cells (setArr cur o vs) e fr)
  | [], _, _, _, h => h
  | v :: r, w, o, cur, h => by
    rw [World.setCells, setArr]
    exact heap_setCellsF r _ _ _ (Go.Joins.block_setCell h v)
theorem bytesCells_size (w : World) (t : ByteArray) : (Lib.bytesCells w 5 t).size = grownCap w t.size 0 5 := by
  have := grownCap_ge w t.size 0 5
  have h2 : t.data.size = t.size := rfl
  simp only [Lib.bytesCells, Array.size_append, Array.size_map, Array.size_replicate, h2]
  omega
theorem cell_bytesWorld (w : World) (t : ByteArray) (i : Nat) (hi : i < t.size) : (Lib.bytesWorld w 5 t).cell? ⟨w.heap.size, i, none⟩ = some (.int .u8 ((kb t)[i]?.getD 0)) := by
  rcases row_bytesWorld w t with h0 | ⟨b, off, e, hc⟩
  · have := congrArg List.length h0
    rw [kb_len] at this
    simp only [List.length_nil] at this
    omega
  · simp only [Option.some.injEq, Addr.mk.injEq] at e
    obtain ⟨rfl, rfl, _⟩ := e
    have := hc i (by rw [kb_len]; exact hi)
    rw [Nat.zero_add] at this
    exact this
/-- Bytes put behind those of a text. -/
theorem text_more {w : World} {ops : Array Oper} {rest : List Oper} {o : Oper} {a : Act} {Q : Exit → Act → World → Prop} (hgd : o.guard = none) (s x : Operand)
    (ho : o.op = .call { callee := .builtin .append, args := #[s, x], argTypes := #[26, 26] })
    (t : ByteArray) (hs : a.eval s = .slice (some ⟨w.heap.size, 0, none⟩) t.size (grownCap w t.size 0 5))
    (ad : Option Addr) (m c : Nat) (ys : List Int) (hx : a.eval x = .slice ad m c) (hc : ad = none → c = 0) (hm : ys.length = m) (hr : Row w ad ys) (hlen : t.size + m ≤ 140737488351232)
    (h : ∀ a' c' w', t.size + m ≤ c' → c' ≤ maxLen → Row w' (some a') (kb t ++ ys) → Below w.heap.size w w' → wpList Try.prog ops Q rest (a.put o.dst (.slice (some a') (t.size + m) c')) w') : wpList Try.prog ops Q (o :: rest) a (Lib.bytesWorld w 5 t) := by
  obtain ⟨i0, hi, hz0, hz1, hz2⟩ := info_parts Try.info5
  have hge := grownCap_ge w t.size 0 5
  have hle := grownCap_le_maxLen w t.size 0 5 (by unfold maxLen; omega)
  have hB := below_bytesWorld w t
  have hR := row_bytesWorld w t
  have hblk := Lib.bytesWorld_at_new w 5 t
  rw [bytesCells_size] at hblk
  cases ad with
  | none =>
    have hb : ys = [] := by
      rcases hr with h | ⟨b, off, h, _⟩
      · exact h
      · cases h
    have hc0 := hc rfl
    subst hb hc0
    simp at hm
    subst hm
    refine wpList_append_sl_none hgd s x 26 ho 5 i0 Try.underlying26 hi _ _ _ hs hge hx ?_
    exact h ⟨w.heap.size, 0, none⟩ _ _ hge hle (by simpa using hR) hB
  | some y =>
    have hr' : Row (Lib.bytesWorld w 5 t) (some y) ys := hr.old hB
    refine wpList_append_arg (Lib.bytesWorld w 5 t) hgd s x 26 ho 5 i0 (.int .u8 0) 1 1 Try.underlying26 hi hz0 hz1 hz2 rfl (by decide) w.heap.size 0 t.size (grownCap w t.size 0 5) (vals (kb t)) hs (by rw [vals_len, kb_len]; omega) ?_ y m c (vals ys) hx (by rw [vals_len]; omega) (news_row hr') (vals_one ys) ?_ (by unfold maxLen; omega) (by omega) ?_ ?_
    · intro j u hj
      have := news_row hR j u hj
      rw [Addr.add_lit] at this
      exact this
    · intro hroom j hj
      rw [vals_len] at hj
      have hsz : (Lib.bytesCells w 5 t).size = grownCap w t.size 0 5 := bytesCells_size w t
      refine ⟨?_, ?_⟩
      · simp only [World.cell?, hblk]
        simp
        omega
      · simp only [World.frozen?, hblk]
        simp
        omega
    · intro hroom
      have gsc := grownBy_setCells w.heap.size (vals ys) (0 + t.size * 1) (Lib.bytesWorld w 5 t)
      refine h ⟨w.heap.size, 0, none⟩ _ _ hroom hle ?_ ⟨gsc.os.trans hB.os, gsc.tape.trans hB.tape, gsc.output.trans hB.output, Nat.le_trans hB.size gsc.size, fun k hk => (gsc.block k (by have := hB.size; omega) (by simp; omega)).trans (hB.block k hk)⟩
      have hh := heap_setCellsF (vals ys) _ (0 + t.size * 1) _ hblk
      have hsz : (Lib.bytesCells w 5 t).size = grownCap w t.size 0 5 := bytesCells_size w t
      refine .inr ⟨w.heap.size, 0, rfl, fun i hi => ?_⟩
      rw [List.length_append, kb_len] at hi
      rw [Nat.zero_add i, Go.Joins.cell_of_block hh i]
      by_cases hit : i < t.size
      · have h1 := cell_bytesWorld w t i hit
        rw [Go.Joins.cell_of_block hblk i] at h1
        rw [setArr_out _ _ _ _ (by omega), h1, List.getElem?_append_left (by rw [kb_len]; exact hit)]
      · rw [show i = 0 + t.size * 1 + (i - t.size) by omega, setArr_in _ _ _ (by rw [vals_len, hsz]; omega) _ (by rw [vals_len]; omega), vals_at _ _ (by omega), List.getElem?_append_right (by rw [kb_len]; omega), kb_len, show 0 + t.size * 1 + (i - t.size) - t.size = i - t.size by omega]
    · intro hgrow v' w' hown hg
      obtain ⟨g, hsl, hgn⟩ := Sl.of_owns hown
      obtain ⟨a', c', hv, hl, hmm, hn⟩ := hsl.shape
      have hl2 : (vals (kb t) ++ vals ys).length = t.size + m := by rw [List.length_append, vals_len, vals_len, kb_len, hm]
      rw [hl2] at hv hl
      subst hv
      obtain ⟨a'', rfl⟩ : ∃ x, a' = some x := by
        cases a' with
        | none => have := hn rfl; omega
        | some x => exact ⟨x, rfl⟩
      refine h a'' c' w' hl hmm ?_ ⟨hg.os.trans hB.os, hg.tape.trans hB.tape, hg.output.trans hB.output, Nat.le_trans hB.size hg.size, fun k hk => (hg.block k (by have := hB.size; omega) (by simp)).trans (hB.block k hk)⟩
      rw [← vals_append] at hsl
      exact hsl.row rfl
end Go.Proofs.Ytoofpkcgiodfcaa
