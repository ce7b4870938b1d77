import Derived.Test.YthoandjljgkcbaaCut
namespace Go.Proofs.Ythoandjljgkcbaa
open Go.RowKit

theorem Try.info5 : (Try.prog.info? 5).map (fun i => (i.zero, i.size, i.bytes)) = some (some (.int .u8 0), 1, 1) := by kernel_rfl

def vals (zs : List Int) : List Value := zs.map (Value.int .u8)
theorem vals_append (l m : List Int) : vals (l ++ m) = vals l ++ vals m := by simp [vals]

set_option maxHeartbeats 400000 in
theorem Big_any (a : Option Addr) (len cap : Nat) (p n : Int) (zs : List Int) (w : World) (hn : zs.length = len) (hl : len ≤ cap) (hm : cap ≤ maxLen) (wn : (Lit.int .i64 n).wf = true) (hb : Bytes zs) (hr : Row w a zs) :
    Calls Try.prog 10 #[.slice a len cap, .int .i64 p, .int .i64 n] w fun e w' => e = .returned (.tuple #[.int .i64 (bigN (cutL zs p n)), .int .i64 (cutE zs.length p n)]) ∧ w' = w := by
  have C := cut_any a len cap p n zs w hn hl hm wn hr
  have HB : Hid (Bytes (cutL zs p n) ∧ (cutL zs p n).length ≤ 4) := ⟨cutL_bytes hb p n, cutL_len zs p n⟩
  generalize cutL zs p n = l at *
  generalize cutE zs.length p n = er at *
  clear hn hr hb hl hm
  go_enter Try.func10, Try.ntmps10
  go_wp2_with fail
  refine C.mono ?_
  clear C
  rintro e w' ⟨a', cap', rfl, hrow, rfl⟩
  go_wp2_with fail
  refine (big_any a' l.length cap' l _ rfl HB.out.2 HB.out.1 hrow).mono ?_
  rintro e w1 ⟨rfl, rfl⟩
  go_wp2
  go_ret2
  exact ⟨rfl, rfl⟩

set_option maxHeartbeats 400000 in
theorem Little_any (a : Option Addr) (len cap : Nat) (p n : Int) (zs : List Int) (w : World) (hn : zs.length = len) (hl : len ≤ cap) (hm : cap ≤ maxLen) (wn : (Lit.int .i64 n).wf = true) (hb : Bytes zs) (hr : Row w a zs) :
    Calls Try.prog 12 #[.slice a len cap, .int .i64 p, .int .i64 n] w fun e w' => e = .returned (.tuple #[.int .i64 (litN (cutL zs p n)), .int .i64 (cutE zs.length p n)]) ∧ w' = w := by
  have C := cut_any a len cap p n zs w hn hl hm wn hr
  have HB : Hid (Bytes (cutL zs p n) ∧ (cutL zs p n).length ≤ 4) := ⟨cutL_bytes hb p n, cutL_len zs p n⟩
  generalize cutL zs p n = l at *
  generalize cutE zs.length p n = er at *
  clear hn hr hb hl hm
  go_enter Try.func12, Try.ntmps12
  go_wp2_with fail
  refine C.mono ?_
  clear C
  rintro e w' ⟨a', cap', rfl, hrow, rfl⟩
  go_wp2_with fail
  refine (little_any a' l.length cap' l _ rfl HB.out.2 HB.out.1 hrow).mono ?_
  rintro e w1 ⟨rfl, rfl⟩
  go_wp2
  go_ret2
  exact ⟨rfl, rfl⟩

theorem row_of_owns {w : World} {base e : Nat} {v : Value} {n : Nat} {zs : List Int} (h : w.ownsRow base e 1 v n (vals zs)) : ∃ a cap, v = .slice a n cap ∧ zs.length = n ∧ n ≤ cap ∧ cap ≤ maxLen ∧ Row w a zs := by
  have hl : zs.length = n := by have := h.1; simpa [vals] using this
  rcases h.2 with ⟨rfl, hn⟩ | ⟨g, cap, cur, rfl, hb, hg, hc, hm, hs, ht⟩
  · subst hn
    exact ⟨none, 0, rfl, hl, Nat.le_refl _, by unfold maxLen; omega, .inl (List.length_eq_zero_iff.1 hl)⟩
  · refine ⟨some ⟨g, 0, none⟩, cap, rfl, hl, hc, hm, .inr ⟨g, 0, rfl, fun i hi => ?_⟩⟩
    have := World.ownsRow.cellAt h (0 + i) (by omega)
    rw [this]
    simp [vals, hi]

/-- What a function that hands back new bytes comes to. -/
def NewBytes (w : World) (zs : List Int) (e : Ending) (w' : World) : Prop :=
  ∃ a cap, e = .returned (.slice a zs.length cap) ∧ zs.length ≤ cap ∧ cap ≤ maxLen ∧ Row w' a zs ∧ Below w.heap.size w w'

theorem newBytes_of_owns {w w' : World} {base e : Nat} {v : Value} {n : Nat} {zs : List Int} (h : w'.ownsRow base e 1 v n (vals zs)) (hb : Below w.heap.size w w') : NewBytes w zs (.returned v) w' := by
  obtain ⟨a, cap, rfl, hl, h1, h2, h3⟩ := row_of_owns h
  subst hl
  exact ⟨a, cap, rfl, h1, h2, h3, hb⟩

theorem Row.below {B : Nat} {w w' : World} {a : Option Addr} {zs : List Int} (h : Row w a zs) (hb : Below B w w') (hlt : ∀ x, a = some x → zs ≠ [] → x.block < B) : Row w' a zs := by
  rcases h with h | ⟨b, off, rfl, hc⟩
  · exact .inl h
  · by_cases hz : zs = []
    · exact .inl hz
    · exact .inr ⟨b, off, rfl, fun i hi => (hb.cell (p := ⟨b, off + i, none⟩) (hlt ⟨b, off, none⟩ rfl hz)).trans (hc i hi)⟩
theorem cell_lt {w : World} {x : Addr} {v : Value} (h : w.cell? x = some v) : x.block < w.heap.size := by
  unfold World.cell? at h
  by_cases hx : x.block < w.heap.size
  · exact hx
  · rw [Array.getElem?_eq_none (by omega)] at h; simp at h
theorem Row.lt {w : World} {a : Option Addr} {zs : List Int} (h : Row w a zs) : ∀ x, a = some x → zs ≠ [] → x.block < w.heap.size := by
  intro x hx hz
  rcases h with h | ⟨b, off, rfl, hc⟩
  · exact absurd h hz
  · simp at hx; subst hx
    have hp : 0 < zs.length := List.length_pos_iff.2 hz
    have := cell_lt (hc 0 hp)
    exact this
theorem Row.old {w w' : World} {a : Option Addr} {zs : List Int} (h : Row w a zs) (hb : Below w.heap.size w w') : Row w' a zs := h.below hb h.lt

theorem take_rev (zs : List Int) (n j : Nat) (hn : zs.length = n) (hj : j < n) : zs.reverse.take (n - j) = zs.reverse.take (n - (j + 1)) ++ [zs[j]?.getD 0] := by
  have h := take_snoc zs.reverse (n - (j + 1)) (by simp; omega)
  rw [show n - (j + 1) + 1 = n - j from by omega, List.getElem?_reverse (by omega), show zs.length - 1 - (n - (j + 1)) = j from by omega] at h
  exact h
/-- One byte more at the end of a row of the call's own: what the loop's relation asks. -/
theorem own_step {w wr w1 : World} {B n m : Nat} {o : Obj} {v v' : Value} {l l' : List Int} {x : Int} (hw : B ≤ w.heap.size) (hown : wr.ownsRow B 5 1 v n (vals l)) (hbel : Below B w wr)
    (hown' : w1.ownsRow B 5 1 v' (n + 1) (vals l ++ [.int .u8 x])) (hgrow : (wr.alloc o).grownBy w1 v.ownBlock) (hm : n + 1 = m) (hl : l' = l ++ [x]) : w1.ownsRow B 5 1 v' m (vals l') ∧ Below B w w1 := by
  subst hm hl
  refine ⟨by rw [vals_append]; exact hown', (hbel.alloc (by have := hbel.size; omega) o).grown hgrow (by have := hbel.size; simp; omega) fun k hk => (hown.lt k hk).1⟩

set_option maxHeartbeats 800000 in
theorem turned_any (a : Option Addr) (n cap : Nat) (zs : List Int) (w : World) (hn : zs.length = n) (hl : n ≤ 140737488351232) (hr : Row w a zs) :
    Calls Try.prog 34 #[.slice a n cap] w fun e w' => NewBytes w zs.reverse e w' := by
  obtain ⟨B, hB⟩ : ∃ B, B = w.heap.size := ⟨_, rfl⟩
  have HB : Hid (B = w.heap.size) := hB
  clear hB
  have HN : Hid (zs.length = n) := hn
  clear hn
  rcases hr with rfl | ⟨b, off, rfl, hc⟩
  · have hn := HN.out
    simp at hn
    subst hn
    go_enter Try.func34, Try.ntmps34
    go_wp2
    go_loop [3, 4] (fun v i => v = .slice none 0 0 ∧ i = .int .i64 (-1)) (fun _ _ => 0)
    case atStart => exact ⟨rfl, rfl⟩
    case round =>
      obtain ⟨rfl, rfl⟩ := hrel
      go_wp2
      go_ret
      unfold NewBytes
      exact ⟨none, 0, rfl, Nat.le_refl _, by unfold maxLen; omega, .inl rfl, Below.refl _ _⟩
  · obtain ⟨i0, hi, hz0, hz1, hz2⟩ := info_parts Try.info5
    have hbB : zs ≠ [] → b < B := by
      intro hz
      have := cell_lt (hc 0 (List.length_pos_iff.2 hz))
      rw [HB.out]; exact this
    go_enter Try.func34, Try.ntmps34
    go_wp2
    go_loopw [3, 4] (fun v i wr => ∃ j : Nat, j ≤ n ∧ i = .int .i64 ((j : Int) - 1) ∧ wr.ownsRow B 5 1 v (n - j) (vals (zs.reverse.take (n - j))) ∧ Below B w wr) (fun _ i _ => (intOf i + 1).toNat)
    case atStart => exact ⟨n, Nat.le_refl _, by go_num, by rw [Nat.sub_self]; exact World.ownsRow_nil _ _ _ _, Below.refl _ _⟩
    case round =>
      obtain ⟨j, hj, rfl, hown, hbel⟩ := hrel
      cases j with
      | zero =>
        go_wp2
        go_ret
        rw [Nat.sub_zero, List.take_of_length_le (by have := HN.out; simp; omega)] at hown
        exact newBytes_of_owns hown (by rw [← HB.out]; exact hbel)
      | succ j =>
        rw [show ((j + 1 : Nat) : Int) - 1 = (j : Int) from by omega]
        have hck : wr.cell? ⟨b, off + j, none⟩ = some (.int .u8 (zs[j]?.getD 0)) := (hbel.cell (hbB (by intro h; have := HN.out; rw [h] at this; simp at this; omega))).trans (hc j (by have := HN.out; omega))
        go_wp2_with (first
          | (at_builtin; refine wpList_append_own _ rfl _ _ 22 rfl B 5 i0 (.int .u8 0) 1 1 Try.underlying22 hi hz0 hz1 hz2 rfl (by decide) _ _ _ rfl (hown.alloc _) ⟨wr.heap.size, 0, none⟩ 1 1 [.int .u8 (zs[j]?.getD 0)] rfl rfl ?c1 ?c2 ?c3 ?c4 ?c5 ?_)
          | go_in)
        case c1 => exact (cell_one_new _ _ _)
        case c2 => intro u hu; simp at hu; subst hu; rfl
        case c3 => unfold maxLen; omega
        case c4 => omega
        case c5 => have := hbel.size; have := HB.out; simp; omega
        intro v' w1 hown' hgrow _
        have R := own_step (by rw [HB.out]; exact Nat.le_refl _) hown hbel hown' hgrow (show n - (j + 1) + 1 = n - j by omega) (take_rev zs n j HN.out (by omega))
        clear hown hbel hown' hgrow hck
        go_wp2
        go_roundw
        case rel => exact ⟨j, by omega, by go_num, R.1, R.2⟩
        case measure => simp [intOf]
end Go.Proofs.Ythoandjljgkcbaa
