/- Joined: Gd Gd2 Gd3 GfH. -/
import Derived.Test.YtloagniacjfkfaaGreatDoorQD
import Derived.BigRegion
/- (a reader within a decoder: its two cells stand at the block's beginning, the others are tl) -/
namespace Go.Proofs.YtloagniacjfkfaaGreatDoor
open Go.RowKit

theorem gtwo_cells {w : World} {c : Nat} {v0 v1 : Value} {tl : Array Value} {t : TypeId} (h : w.heap[c]? = some (.cells (#[v0, v1] ++ tl) t (0, 0))) :
    w.cell? ⟨c, 0, none⟩ = some v0 ∧ w.cell? ⟨c, 1, none⟩ = some v1 ∧ w.frozen? ⟨c, 0, none⟩ = false ∧ w.frozen? ⟨c, 1, none⟩ = false := by
  simp [World.cell?, World.frozen?, h, Array.getElem?_append]
theorem gtwo_set0 {w : World} {c : Nat} {v0 v1 u : Value} {tl : Array Value} {t : TypeId} (h : w.heap[c]? = some (.cells (#[v0, v1] ++ tl) t (0, 0))) : (w.setCell ⟨c, 0, none⟩ u).heap[c]? = some (.cells (#[u, v1] ++ tl) t (0, 0)) := by
  rw [heap_setCell_same w c 0 _ _ _ h]
  simp [Array.setIfInBounds_append_left]
theorem gtwo_set1 {w : World} {c : Nat} {v0 v1 u : Value} {tl : Array Value} {t : TypeId} (h : w.heap[c]? = some (.cells (#[v0, v1] ++ tl) t (0, 0))) : (w.setCell ⟨c, 1, none⟩ u).heap[c]? = some (.cells (#[v0, u] ++ tl) t (0, 0)) := by
  rw [heap_setCell_same w c 1 _ _ _ h]
  simp [Array.setIfInBounds_append_left]
variable {tl : Array Value}

/-- THE READER at block r: its bytes zs, gone bits of the first. -/
def Gd (tl : Array Value) (w : World) (r : Nat) (g : Option Nat) (zs : List Int) (gone : Nat) : Prop :=
  ∃ v, w.heap[r]? = some (.cells (#[v, .int .i64 gone] ++ tl) 119 (0, 0)) ∧ Sl w 5 v g (vals zs)
theorem Gd.sep {w : World} {r : Nat} {g : Option Nat} {zs : List Int} {gone : Nat} (h : Gd tl w r g zs gone) : g ≠ some r := by
  obtain ⟨v, hh, hs⟩ := h
  rintro rfl
  rcases hs with ⟨_, h, _⟩ | ⟨b, off, cap, cur, _, h, hb, _⟩
  · cases h
  · cases h; rw [hh] at hb; simp at hb
theorem Gd.same {w w' : World} {r : Nat} {g : Option Nat} {zs : List Int} {gone : Nat} (h : Gd tl w r g zs gone) (hr : w'.heap[r]? = w.heap[r]?) (hg : ∀ k, g = some k → w'.heap[k]? = w.heap[k]?) : Gd tl w' r g zs gone := by
  obtain ⟨v, hh, hs⟩ := h
  exact ⟨v, hr.trans hh, hs.same hg⟩
theorem Gd.lt {w : World} {r : Nat} {g : Option Nat} {zs : List Int} {gone : Nat} (h : Gd tl w r g zs gone) : r < w.heap.size := by
  obtain ⟨v, hh, _⟩ := h; exact lt_of_block hh
theorem Gd.glt {w : World} {r : Nat} {g : Option Nat} {zs : List Int} {gone : Nat} (h : Gd tl w r g zs gone) {k : Nat} (hk : g = some k) : k < w.heap.size := by
  obtain ⟨v, _, hs⟩ := h; exact hs.lt hk
theorem Gd.old {w w' : World} {r : Nat} {g : Option Nat} {zs : List Int} {gone : Nat} (h : Gd tl w r g zs gone) (hb : Below w.heap.size w w') : Gd tl w' r g zs gone :=
  h.same (hb.block _ h.lt) fun _ hk => hb.block _ (h.glt hk)
/-- Another reader's work. -/
theorem Gd.other {w w' : World} {r r' : Nat} {g g' : Option Nat} {zs : List Int} {gone : Nat} (h : Gd tl w r g zs gone) (hf : Fr w w' r' g') (h1 : r ≠ r') (h2 : some r ≠ g') (h3 : g ≠ some r') (h4 : g = none ∨ g ≠ g') : Gd tl w' r g zs gone := by
  refine h.same (hf.block r h.lt h1 h2) fun k hk => hf.block k (h.glt hk) (fun e => h3 (by rw [hk, e])) (fun e => ?_)
  rcases h4 with h4 | h4
  · rw [h4] at hk; cases hk
  · exact h4 (by rw [hk, e])

def GFeedPost (tl : Array Value) (w : World) (r : Nat) (g : Option Nat) (zs : List Int) (gone : Nat) (e : Ending) (w' : World) : Prop :=
  e = .returned (.tuple #[]) ∧ ∃ g', Gd tl w' r g' zs gone ∧ (g' = g ∨ ∃ k, g' = some k ∧ w.heap.size ≤ k) ∧ Fr w w' r g

set_option maxHeartbeats 800000 in
theorem gfeed_any (r : Nat) (g : Option Nat) (zs bs : List Int) (gone : Nat) (a : Option Addr) (m c : Nat) (w : World) (h : Gd tl w r g zs gone) (hm : bs.length = m) (hc : a = none → c = 0) (hr : Row w a bs) (hsum : zs.length + m ≤ 140737488355328) :
    Calls Tryz.prog 66 #[.pointer (some ⟨r, 0, none⟩), .slice a m c] w fun e w' => GFeedPost tl w r g (zs ++ bs) gone e w' := by
  have hsep := h.sep
  obtain ⟨v, hh, hs⟩ := h
  obtain ⟨i0, hi, hz0, hz1, hz2⟩ := info_parts Tryz.info5
  obtain ⟨av, cv, hv, hl1, hl2, hl3⟩ := hs.shape
  subst hv
  rw [vals_len] at hh hs hl1
  obtain ⟨q0, q1, f0, f1⟩ := gtwo_cells hh
  have HH : Hid (w.heap[r]? = some (.cells (#[.slice av zs.length cv, .int .i64 gone] ++ tl) 119 (0, 0))) := hh
  have HS : Hid (Sl w 5 (.slice av zs.length cv) g (vals zs)) := hs
  have HR : Hid (Row w a bs) := hr
  have HM : Hid (bs.length = m) := hm
  have HP : Hid (g ≠ some r) := hsep
  clear hh hs hr hsep
  cases a with
  | none =>
    have hb : bs = [] := by
      rcases HR.out with h | ⟨b, off, h, _⟩
      · exact h
      · cases h
    have hc0 := hc rfl
    subst hb
    simp at hm
    subst hm hc0
    go_enter Tryz.func66, Tryz.ntmps66
    go_wp2_with (at_builtin; refine wpList_append_sl_none rfl _ _ 22 rfl 5 i0 Tryz.underlying22 hi av _ cv rfl hl1 rfl ?_)
    go_end0
    unfold GFeedPost
    refine ⟨rfl, g, ?_, .inl rfl, Fr.set r 0 _ g⟩
    refine ⟨_, gtwo_set0 HH.out, HS.out.same fun k hk => Below.heap_setCell w _ _ k (fun e => HP.out (by rw [hk, e]))⟩
  | some x =>
    clear hc hm
    go_enter Tryz.func66, Tryz.ntmps66
    go_wp2_with (at_builtin; refine wpList_append_sl rfl _ _ 22 rfl 5 i0 (.int .u8 0) 1 Tryz.underlying22 hi hz0 hz1 hz2 rfl _ g (vals zs) rfl HS.out x m c (vals bs) rfl (by rw [vals_len]; exact HM.out) (news_row HR.out) (vals_one bs) (by rw [vals_len]; omega) (by rw [vals_len]; unfold maxLen; omega) ?_)
    intro v' w1 g' hsl hg' hgrow
    obtain ⟨a', c', hv, _⟩ := hsl.shape
    rw [List.length_append, vals_len, vals_len] at hv
    rw [hv]
    rw [hv] at hsl
    have hh1 : w1.heap[r]? = _ := (hgrow.block r (lt_of_block HH.out) (fun e => HP.out e.symm)).trans HH.out
    obtain ⟨p0, p1, e0, e1⟩ := gtwo_cells hh1
    have HH1 : Hid (w1.heap[r]? = some (.cells (#[.slice av zs.length cv, .int .i64 gone] ++ tl) 119 (0, 0))) := hh1
    have HS1 : Hid (Sl w1 5 (.slice a' (zs.length + bs.length) c') g' (vals zs ++ vals bs)) := hsl
    have HG : Hid (g' = g ∨ ∃ k, g' = some k ∧ w.heap.size ≤ k) := hg'
    clear hh1 hsl hv hg'
    go_wp2
    go_end0
    unfold GFeedPost
    have hnr : g' ≠ some r := by
      rcases HG.out with rfl | ⟨k, rfl, hk⟩
      · exact HP.out
      · have := lt_of_block HH.out; simp; omega
    refine ⟨rfl, g', ⟨_, gtwo_set0 HH1.out, ?_⟩, HG.out, (Fr.grown hgrow).trans (Fr.set r 0 _ g) (.inl rfl)⟩
    rw [vals_append]
    exact HS1.out.same fun k hk => Below.heap_setCell w1 _ _ k (fun e => hnr (by rw [hk, e]))

set_option maxHeartbeats 400000 in
theorem ghave_any (r : Nat) (g : Option Nat) (zs : List Int) (gone : Nat) (w : World) (h : Gd tl w r g zs gone) (hl : zs.length ≤ 140737488355328) (hg : gone < 8) :
    Calls Tryz.prog 129 #[.pointer (some ⟨r, 0, none⟩)] w fun e w' => e = .returned (.int .i64 (zs.length * 8 - gone)) ∧ ∃ n, w' = w.drewN n := by
  obtain ⟨v, hh, hs⟩ := h
  obtain ⟨av, cv, hv, hl1, hl2, hl3⟩ := hs.shape
  subst hv
  rw [vals_len] at hh
  obtain ⟨q0, q1, f0, f1⟩ := gtwo_cells hh
  clear hh hs hl1 hl2 hl3
  go_enter Tryz.func129, Tryz.ntmps129
  go_wp2
  go_quiet (fail)
  go_wp2
  go_ret
  exact ⟨rfl, nq, rfl⟩
end Go.Proofs.YtloagniacjfkfaaGreatDoor
namespace Go.Proofs.YtloagniacjfkfaaGreatDoor
open Go.RowKit
variable {tl : Array Value}

def GPassPost (tl : Array Value) (w : World) (r : Nat) (g : Option Nat) (zs : List Int) (gone : Nat) (e : Ending) (w' : World) : Prop :=
  e = .returned (.tuple #[]) ∧ Gd tl w' r g zs gone ∧ Fr w w' r g
set_option maxHeartbeats 800000 in
theorem gpass_any (r : Nat) (g : Option Nat) (zs : List Int) (gone n : Nat) (w : World) (h : Gd tl w r g zs gone) (hl : zs.length ≤ 140737488355328) (hg : gone < 8) (hn : gone + n ≤ 8 * zs.length) (hn8 : n ≤ 8) :
    Calls Tryz.prog 146 #[.pointer (some ⟨r, 0, none⟩), .int .i64 n] w fun e w' => GPassPost tl w r g (zs.drop ((gone + n) / 8)) ((gone + n) % 8) e w' := by
  have HP : Hid (g ≠ some r) := h.sep
  obtain ⟨v, hh, hs⟩ := h
  obtain ⟨av, cv, hv, hl1, hl2, hl3⟩ := hs.shape
  subst hv
  rw [vals_len] at hh hs hl1
  obtain ⟨q0, q1, f0, f1⟩ := gtwo_cells hh
  have HH : Hid (w.heap[r]? = some (.cells (#[.slice av zs.length cv, .int .i64 gone] ++ tl) 119 (0, 0))) := hh
  have HS : Hid (Sl w 5 (.slice av zs.length cv) g (vals zs)) := hs
  clear hh hs
  unfold maxLen at hl2
  go_enter Tryz.func146, Tryz.ntmps146
  go_wp2
  go_region
  have hs2 := HS.out.cut ((gone + n) / 8) (by rw [vals_len]; omega) (vals_len zs)
  generalize (if cv = (gone + n) / 8 then av else Option.map (fun x => x.add ((gone + n) / 8)) av) = a2 at hs2 ⊢
  have HS2 : Hid (Sl w 5 (.slice a2 (zs.length - (gone + n) / 8) (cv - (gone + n) / 8)) g ((vals zs).drop ((gone + n) / 8))) := hs2
  clear hs2 HS
  go_wp2
  go_end0
  unfold GPassPost
  have hw : ∀ k, g = some k → k ≠ r := fun k hk e => HP.out (by rw [hk, e])
  refine ⟨rfl, ⟨.slice a2 (zs.length - (gone + n) / 8) (cv - (gone + n) / 8), ?_, ?_⟩, ?_⟩
  · have := gtwo_set1 (u := .int .i64 (((gone : Int) + n) % 8)) (gtwo_set0 (u := .slice a2 (zs.length - (gone + n) / 8) (cv - (gone + n) / 8)) (gtwo_set1 (u := .int .i64 ((gone : Int) + n)) HH.out))
    rw [show (((gone + n) % 8 : Nat) : Int) = ((gone : Int) + n) % 8 by omega]
    exact this
  · rw [show vals (zs.drop ((gone + n) / 8)) = (vals zs).drop ((gone + n) / 8) by simp [vals]]
    exact HS2.out.same fun k hk => ((Below.heap_setCell _ _ _ k (hw k hk)).trans (Below.heap_setCell _ _ _ k (hw k hk))).trans (Below.heap_setCell _ _ _ k (hw k hk))
  · have h1 := Fr.set (w := w) r 1 (.int .i64 ((gone : Int) + n)) g
    have h2 := h1.trans (Fr.set r 0 (.slice a2 (zs.length - (gone + n) / 8) (cv - (gone + n) / 8)) g) (.inl rfl)
    have h3 := h2.trans (Fr.set r 1 (.int .i64 (((gone : Int) + n) % 8)) g) (.inl rfl)
    exact ⟨h3.os, h3.tape, h3.output, h3.size, h3.block⟩

theorem Gd.drewN {w : World} {r : Nat} {g : Option Nat} {zs : List Int} {gone : Nat} (h : Gd tl w r g zs gone) (n : Nat) : Gd tl (w.drewN n) r g zs gone := h.same rfl fun _ _ => rfl

set_option maxHeartbeats 800000 in
theorem glook_no (r : Nat) (g : Option Nat) (zs : List Int) (gone : Nat) (i : Int) (w : World) (h : Gd tl w r g zs gone) (hl : zs.length ≤ 140737488355328) (hg : gone < 8) (hi : i < 0 ∨ 8 * (zs.length : Int) - gone ≤ i) :
    Calls Tryz.prog 149 #[.pointer (some ⟨r, 0, none⟩), .int .i64 i] w fun e w' => e = .returned (.int .i64 (-1)) ∧ ∃ n, w' = w.drewN n := by
  have C := ghave_any r g zs gone w h hl hg
  clear h
  by_cases h0 : i < 0
  · clear hi
    go_enter Tryz.func149, Tryz.ntmps149
    go_wp2
    go_ret
    exact ⟨rfl, 0, rfl⟩
  · have h1 : (zs.length : Int) * 8 - gone ≤ i := by omega
    have h2 : 0 ≤ i := by omega
    clear hi h0
    go_enter Tryz.func149, Tryz.ntmps149
    go_wp2_with (go_at_call 129; refine C.mono ?_; rintro e w' ⟨rfl, nn, rfl⟩)
    go_ret
    exact ⟨rfl, nn, rfl⟩
set_option maxHeartbeats 800000 in
theorem glook_yes (r : Nat) (g : Option Nat) (zs : List Int) (gone i : Nat) (w : World) (h : Gd tl w r g zs gone) (hb : Bytes zs) (hl : zs.length ≤ 140737488355328) (hg : gone < 8) (hi : gone + i < 8 * zs.length) :
    Calls Tryz.prog 149 #[.pointer (some ⟨r, 0, none⟩), .int .i64 i] w fun e w' => e = .returned (.int .i64 (bitV zs gone / 2 ^ i % 2)) ∧ ∃ n, w' = w.drewN n := by
  have C := ghave_any r g zs gone w h hl hg
  obtain ⟨v, hh, hs⟩ := h
  obtain ⟨av, cv, hv, hl1, hl2, hl3⟩ := hs.shape
  subst hv
  rw [vals_len] at hh hs hl1
  have hne : ∃ b off, av = some ⟨b, off, none⟩ := by
    rcases hs with ⟨h, _, hx⟩ | ⟨b, off, c, cur, h, _⟩
    · have : zs.length = 0 := by simp [vals] at hx; rw [hx]; rfl
      omega
    · simp only [Value.slice.injEq] at h; exact ⟨b, off, h.1⟩
  obtain ⟨b, off, rfl⟩ := hne
  have hck : w.cell? ⟨b, off + (gone + i) / 8, none⟩ = some (.int .u8 (zs[(gone + i) / 8]?.getD 0)) := by
    rw [hs.cell _ (by rw [vals_len]; omega), vals_at _ _ (by omega)]
  have hzb := hb.at ((gone + i) / 8)
  have HL : Hid (bitV zs gone / 2 ^ i % 2 = (zs[(gone + i) / 8]?.getD 0) / 2 ^ ((gone + i) % 8) % 2) := bitV_look hb gone i
  obtain ⟨q0, q1, _, _⟩ := gtwo_cells hh
  rw [HL.out]
  clear hh hs hl2 hl3 hl1
  generalize hz : zs[(gone + i) / 8]?.getD 0 = z at *
  have HZ : Hid _ := hz
  clear hz
  have h1 : (i : Int) < (zs.length : Int) * 8 - gone := by omega
  go_enter Tryz.func149, Tryz.ntmps149
  go_wp2_with (go_at_call 129; refine C.mono ?_; rintro e w' ⟨rfl, nn, rfl⟩)
  go_ret
  exact ⟨ret_int (and_one _ (div_byte z _ hzb.1 hzb.2)), nn, rfl⟩

set_option maxHeartbeats 800000 in
theorem galign_no (r : Nat) (g : Option Nat) (zs : List Int) (w : World) (h : Gd tl w r g zs 0) :
    Calls Tryz.prog 126 #[.pointer (some ⟨r, 0, none⟩)] w fun e w' => e = .returned (.int .i64 0) ∧ w' = w := by
  obtain ⟨v, hh, hs⟩ := h
  obtain ⟨q0, q1, _, _⟩ := gtwo_cells hh
  clear hh hs
  go_enter Tryz.func126, Tryz.ntmps126
  go_wp2
  go_ret
  exact ⟨rfl, rfl⟩
def GAlignPost (tl : Array Value) (w : World) (r : Nat) (g : Option Nat) (zs : List Int) (k : Nat) (e : Ending) (w' : World) : Prop :=
  e = .returned (.int .i64 k) ∧ Gd tl w' r g zs 0 ∧ Fr w w' r g
set_option maxHeartbeats 800000 in
theorem galign_yes (r : Nat) (g : Option Nat) (zs : List Int) (gone : Nat) (w : World) (h : Gd tl w r g zs gone) (hl : zs.length ≤ 140737488355328) (hg : gone < 8) (hp : 0 < gone) (hz : 0 < zs.length) :
    Calls Tryz.prog 126 #[.pointer (some ⟨r, 0, none⟩)] w fun e w' => GAlignPost tl w r g (zs.drop 1) (8 - gone) e w' := by
  have C := gpass_any r g zs gone (8 - gone) w h hl hg (by omega) (by omega)
  rw [show (gone + (8 - gone)) / 8 = 1 by omega, show (gone + (8 - gone)) % 8 = 0 by omega, show ((8 - gone : Nat) : Int) = 8 - (gone : Int) by omega] at C
  obtain ⟨v, hh, hs⟩ := h
  obtain ⟨q0, q1, _, _⟩ := gtwo_cells hh
  have hne : ((gone : Int) == 0) = false := by simp; omega
  clear hh hs
  go_enter Tryz.func126, Tryz.ntmps126
  go_wp2_with (go_at_call 146; refine C.mono ?_; rintro e w' ⟨rfl, hr, hf⟩)
  go_ret
  exact ⟨ret_int (by omega), hr, hf⟩

def GTakePost (tl : Array Value) (w : World) (r : Nat) (g : Option Nat) (v : Int) (zs : List Int) (gone : Nat) (e : Ending) (w' : World) : Prop :=
  e = .returned (.tuple #[.int .i64 v, .bool true]) ∧ Gd tl w' r g zs gone ∧ Fr w w' r g
set_option maxHeartbeats 800000 in
theorem gtake_no (r : Nat) (g : Option Nat) (zs : List Int) (gone : Nat) (n : Int) (w : World) (h : Gd tl w r g zs gone) (hl : zs.length ≤ 140737488355328) (hg : gone < 8) (hn : n < 0 ∨ 32 < n ∨ 8 * (zs.length : Int) - gone < n) :
    Calls Tryz.prog 124 #[.pointer (some ⟨r, 0, none⟩), .int .i64 n] w fun e w' => e = .returned (.tuple #[.int .i64 0, .bool false]) ∧ ∃ n, w' = w.drewN n := by
  have C := ghave_any r g zs gone w h hl hg
  clear h
  by_cases h0 : n < 0
  · clear hn
    go_enter Tryz.func124, Tryz.ntmps124
    go_wp2
    go_ret2
    exact ⟨rfl, 0, rfl⟩
  · by_cases h1 : 32 < n
    · clear hn
      go_enter Tryz.func124, Tryz.ntmps124
      go_wp2
      go_ret2
      exact ⟨rfl, 0, rfl⟩
    · have h2 : (zs.length : Int) * 8 - gone < n := by omega
      clear hn
      go_enter Tryz.func124, Tryz.ntmps124
      go_wp2_with (go_at_call 129; refine C.mono ?_; rintro e w' ⟨rfl, nn, rfl⟩)
      go_ret2
      exact ⟨rfl, nn, rfl⟩
end Go.Proofs.YtloagniacjfkfaaGreatDoor
namespace Go.Proofs.YtloagniacjfkfaaGreatDoor
open Go.RowKit
variable {tl : Array Value}

set_option maxHeartbeats 1600000 in
theorem gtake_yes (r : Nat) (g : Option Nat) (zs : List Int) (gone n : Nat) (w : World) (h : Gd tl w r g zs gone) (hb : Bytes zs) (hl : zs.length ≤ 140737488355328) (hg : gone < 8) (hn : n ≤ 32) (hh : gone + n ≤ 8 * zs.length) :
    Calls Tryz.prog 124 #[.pointer (some ⟨r, 0, none⟩), .int .i64 n] w fun e w' => GTakePost tl w r g (bitV zs gone % 2 ^ n) (zs.drop ((gone + n) / 8)) ((gone + n) % 8) e w' := by
  have C := ghave_any r g zs gone w h hl hg
  have HR : Hid (Gd tl w r g zs gone) := h
  have HB : Hid (Bytes zs) := hb
  clear h hb
  have h1 : (n : Int) ≤ (zs.length : Int) * 8 - gone := by omega
  go_enter Tryz.func124, Tryz.ntmps124
  go_wp2_with (go_at_call 129; refine C.mono ?_; rintro e w' ⟨rfl, nn, rfl⟩; clear C)
  go_loopw [6, 7, 8] (fun v t _ wr => ∃ got : Nat, got ≤ n ∧ t = .int .i64 got ∧ v = .int .u64 (bitV zs gone % 2 ^ got) ∧ Gd tl wr r g (zs.drop ((gone + got) / 8)) ((gone + got) % 8) ∧ Fr w wr r g) (fun _ t _ _ => n - (intOf t).toNat)
  case atStart =>
    refine ⟨0, Nat.zero_le _, rfl, by simp, ?_, (Fr.refl w r g).drewN nn⟩
    rw [show (gone + 0) / 8 = 0 by omega, show (gone + 0) % 8 = gone by omega]
    exact HR.out.drewN nn
  case round =>
    obtain ⟨got, hgot, rfl, rfl, hrd, hfr⟩ := hrel
    by_cases hlt : got < n
    · have hzl : (zs.drop ((gone + got) / 8)).length = zs.length - (gone + got) / 8 := by simp
      have hz0 : 0 < zs.length - (gone + got) / 8 := by omega
      have hbd : Bytes (zs.drop ((gone + got) / 8)) := HB.out.drop _
      have HRD : Hid (Gd tl wr r g (zs.drop ((gone + got) / 8)) ((gone + got) % 8)) := hrd
      obtain ⟨v, hh', hs⟩ := hrd
      obtain ⟨av, cv, hv, hl1, hl2, hl3⟩ := hs.shape
      subst hv
      rw [vals_len, hzl] at hh' hs hl1
      have hne : ∃ b off, av = some ⟨b, off, none⟩ := by
        rcases hs with ⟨_, _, hx⟩ | ⟨b, off, c, cur, h, _⟩
        · have := congrArg List.length hx
          rw [vals_len, hzl] at this
          simp at this; omega
        · simp only [Value.slice.injEq] at h; exact ⟨b, off, h.1⟩
      obtain ⟨b, off, rfl⟩ := hne
      have hck : wr.cell? ⟨b, off, none⟩ = some (.int .u8 ((zs.drop ((gone + got) / 8))[0]?.getD 0)) := by
        have := hs.cell 0 (by rw [vals_len, hzl]; omega)
        rw [Nat.add_zero] at this
        rw [this, vals_at _ _ (by rw [hzl]; omega)]
      have hzb := hbd.at 0
      obtain ⟨q0, q1, _, _⟩ := gtwo_cells hh'
      have HT : Hid (∀ p, (gone + got) % 8 + p ≤ 8 → got + p ≤ 32 → bits .or .u64 (bitV zs gone % 2 ^ got) (IntKind.u64.wrap (((zs.drop ((gone + got) / 8))[0]?.getD 0) / 2 ^ ((gone + got) % 8) % 2 ^ p * 2 ^ got)) = bitV zs gone % 2 ^ (got + p)) := fun p h1 h2 => take_or HB.out gone got p h1 h2
      have PS : Hid (∀ (m : Int) (p : Nat) (wx : World), m = (p : Int) → Gd tl wx r g (zs.drop ((gone + got) / 8)) ((gone + got) % 8) → p ≤ 8 → (gone + got) % 8 + p ≤ 8 * (zs.length - (gone + got) / 8) → Calls Tryz.prog 146 #[.pointer (some ⟨r, 0, none⟩), .int .i64 m] wx fun e w' => GPassPost tl wx r g (zs.drop ((gone + (got + p)) / 8)) ((gone + (got + p)) % 8) e w') := by
        intro m p wx hm hx h1 h2
        subst hm
        have := gpass_any r g _ _ p wx hx (by rw [hzl]; omega) (by omega) (by rw [hzl]; exact h2) h1
        rw [List.drop_drop, show (gone + got) / 8 + ((gone + got) % 8 + p) / 8 = (gone + (got + p)) / 8 by omega, show ((gone + got) % 8 + p) % 8 = (gone + (got + p)) % 8 by omega] at this
        exact this
      generalize hz : (zs.drop ((gone + got) / 8))[0]?.getD 0 = z at *
      generalize hj : (gone + got) % 8 = j at *
      have HJ : Hid _ := hj
      have hj8 : j < 8 := by omega
      generalize hV : bitV zs gone % 2 ^ got = V at *
      clear hz hV hh' hs hl1 hl2 hl3 hbd hzl hj
      have hdb := div_byte z j hzb.1 hzb.2
      have hgj : j + 8 * ((gone + got) / 8) = gone + got := by have := HJ.out; omega
      have HGJ : Hid (j + 8 * ((gone + got) / 8) = gone + got) := hgj
      clear hgj
      by_cases hmn : (n : Int) - got ≤ 8 - j
      · obtain ⟨p, hp⟩ : ∃ p : Nat, (n : Int) - got = p := ⟨n - got, by omega⟩
        have HPP : Hid ((n : Int) - got = p) := hp
        clear hp
        go_wp2
        go_quiet ((go_at_call 98; exact Calls.quiet_of_same (lowest_int _ _ p _ HPP.out hdb.1 (by omega) (by have := HPP.out; omega))))
        go_wp2_with (go_at_call 146; refine (PS.out _ p _ HPP.out (HRD.out.drewN _) (by have := HPP.out; omega) (by have := HPP.out; have := HGJ.out; omega)).mono ?_; rintro e w2 ⟨rfl, hr2, hf2⟩)
        go_roundw
        case rel => exact ⟨got + p, by have := HPP.out; omega, congrArg (Value.int .i64) (by have := HPP.out; omega), congrArg (Value.int .u64) (HT.out p (by have := HPP.out; omega) (by have := HPP.out; omega)), hr2, (hfr.drewN _).trans hf2 (.inl rfl)⟩
        case measure => have := HPP.out; simp [intOf]; omega
      · obtain ⟨p, hp⟩ : ∃ p : Nat, 8 - (j : Int) = p := ⟨8 - j, by omega⟩
        have HPP : Hid (8 - (j : Int) = p) := hp
        clear hp
        go_wp2
        go_quiet ((go_at_call 98; exact Calls.quiet_of_same (lowest_int _ _ p _ HPP.out hdb.1 (by omega) (by have := HPP.out; omega))))
        go_wp2_with (go_at_call 146; refine (PS.out _ p _ HPP.out (HRD.out.drewN _) (by have := HPP.out; omega) (by have := HPP.out; have := HGJ.out; omega)).mono ?_; rintro e w2 ⟨rfl, hr2, hf2⟩)
        go_roundw
        case rel => exact ⟨got + p, by have := HPP.out; omega, congrArg (Value.int .i64) (by have := HPP.out; omega), congrArg (Value.int .u64) (HT.out p (by have := HPP.out; omega) (by have := HPP.out; omega)), hr2, (hfr.drewN _).trans hf2 (.inl rfl)⟩
        case measure => have := HPP.out; simp [intOf]; omega
    · have : got = n := by omega
      subst this
      have hvb := mod_bound (bitV zs gone) got hn
      go_wp2
      go_ret2
      exact ⟨rfl, hrd, hfr⟩
end Go.Proofs.YtloagniacjfkfaaGreatDoor
/- The next symbol, as the program reads it. -/
namespace Go.Proofs.YtloagniacjfkfaaGreatDoor
open Go.RowKit
variable {tl : Array Value}

/-- What Next leaves: of the reader zs' and gone' are left. -/
def GNextPost (tl : Array Value) (w : World) (r : Nat) (g : Option Nat) (zs : List Int) (gone : Nat) (o : Int × Int × Nat) (e : Ending) (w' : World) : Prop :=
  e = .returned (.tuple #[.int .i64 o.1, .int .i64 o.2.1]) ∧ Gd tl w' r g (zs.drop ((gone + o.2.2) / 8)) ((gone + o.2.2) % 8) ∧ Fr w w' r g
theorem GNextPost.stay {w wr : World} {r : Nat} {g : Option Nat} {zs : List Int} {gone : Nat} {s e : Int} (hr : Gd tl w r g zs gone) (hg : gone < 8) (hb : Below w.heap.size w wr) : GNextPost tl w r g zs gone (s, e, 0) (.returned (.tuple #[.int .i64 s, .int .i64 e])) wr := by
  refine ⟨rfl, ?_, Fr.of_heap hb⟩
  rw [show (gone + (s, e, 0).2.2) / 8 = 0 by simp; omega, show (gone + (s, e, 0).2.2) % 8 = gone by simp; omega]
  exact hr.old hb

set_option maxHeartbeats 1600000 in
set_option maxRecDepth 10000 in
theorem gnext_any (c r : Nat) (g : Option Nat) (ns : List Nat) (zs : List Int) (gone : Nat) (w : World) (h : CodeAt w c ns) (hc : Cd ns) (hr : Gd tl w r g zs gone) (hb : Bytes zs) (hl : zs.length ≤ 140737488355328) (hg : gone < 8) (hgz : gone ≤ 8 * zs.length) :
    Calls Tryz.prog 130 #[.pointer (some ⟨c, 0, none⟩), .pointer (some ⟨r, 0, none⟩)] w fun e w' => GNextPost tl w r g zs gone (nxt ns (bitF zs gone) (8 * zs.length - gone) 15 0) e w' := by
  have HC : Hid (Cd ns) := hc
  have HR : Hid (Gd tl w r g zs gone) := hr
  have HB : Hid (Bytes zs) := hb
  have HCO : Hid (CodeAt w c ns) := h
  have HS : Hid (NxRel w w.heap.size 0 0 (w.alloc (.cells #[.int .u16 0, .int .u16 0] 172))) := ⟨heap_alloc_new _ _, (Below.refl _ _).alloc (Nat.le_refl _) _⟩
  clear h hc hr hb
  have mixed := Tryz.mixed
  go_enter Tryz.func130, Tryz.ntmps130
  go_wp2
  go_step3
  go_wp2
  go_step3
  go_wp2
  generalize hM : w.heap.size = M at HS ⊢
  have HM : Hid (w.heap.size = M) := hM
  clear hM
  go_loopg [7] 15 (fun fu _ wr => ∃ j : Nat, j ≤ 14 ∧ j + fu = 15 ∧ Hid (nxt ns (bitF zs gone) (8 * zs.length - gone) (15 - j) j = nxt ns (bitF zs gone) (8 * zs.length - gone) 15 0) ∧ NxRel w M j (pv (bitF zs gone) j) wr)
  case atStart => exact ⟨0, by omega, by omega, rfl, HS.out⟩
  case round =>
    clear HS
    obtain ⟨j, hj14, hjf, HQ, hMM, hbel⟩ := hrel
    obtain ⟨q0, q1, f0, f1⟩ := two_cells hMM
    have hwj : IntKind.i64.wrap (j : Int) = (j : Int) := by rw [IntKind.wrap_i64]; omega
    have HMM : Hid (wr.heap[M]? = some (.cells #[.int .u16 j, .int .u16 (pv (bitF zs gone) j : Nat)] 172 (0, 0))) := hMM
    have HBL : Hid (Below w.heap.size w wr) := hbel
    clear hMM hbel
    have HST : Hid (nxt ns (bitF zs gone) (8 * zs.length - gone) (15 - j) j = if 8 * zs.length - gone ≤ j then (0, 2, 0) else if stB (fin ns) ns.length (j + 1) (pv (bitF zs gone) (j + 1)) then nxt ns (bitF zs gone) (8 * zs.length - gone) (15 - (j + 1)) (j + 1) else match wdF ns ns.length (j + 1) (pv (bitF zs gone) (j + 1)) with | some s => (s, 0, j + 1) | none => (0, 6, 0)) := by
      show _ = _
      rw [show 15 - j = (15 - (j + 1)) + 1 by omega]
      rfl
    by_cases hN : 8 * zs.length - gone ≤ j
    · have HP : Hid (GNextPost tl w r g zs gone (nxt ns (bitF zs gone) (8 * zs.length - gone) 15 0) (.returned (.tuple #[.int .i64 0, .int .i64 2])) (wr.drewN 0) ∧ ∀ n, GNextPost tl w r g zs gone (nxt ns (bitF zs gone) (8 * zs.length - gone) 15 0) (.returned (.tuple #[.int .i64 0, .int .i64 2])) (wr.drewN n)) := by
        have : ∀ n, GNextPost tl w r g zs gone (nxt ns (bitF zs gone) (8 * zs.length - gone) 15 0) (.returned (.tuple #[.int .i64 0, .int .i64 2])) (wr.drewN n) := fun n => by
          rw [← HQ.out, HST.out, if_pos hN]
          exact GNextPost.stay HR.out hg (below_drewN' HBL.out n)
        exact ⟨this 0, this⟩
      go_wp2_with fail
      refine (glook_no r g zs gone j _ (HR.out.old HBL.out) hl hg (.inr (by omega))).mono ?_
      rintro e w2 ⟨rfl, n2, rfl⟩
      go_wp2
      rw [Exit.noGoto_ret]
      go_ret2
      exact HP.out.2 n2
    · go_wp2_with fail
      refine (glook_yes r g zs gone j _ (HR.out.old HBL.out) HB.out hl hg (by omega)).mono ?_
      rintro e w2 ⟨rfl, n2, rfl⟩
      rw [bitF_int]
      have hbj := bitF_lt zs gone j
      obtain ⟨w2, hw2⟩ : ∃ w2, wr.drewN n2 = w2 := ⟨_, rfl⟩
      have HM2 : Hid (w2.heap[M]? = some (.cells #[.int .u16 j, .int .u16 (pv (bitF zs gone) j : Nat)] 172 (0, 0))) := by rw [← hw2]; exact HMM.out
      have HB2 : Hid (Below w.heap.size w w2) := by rw [← hw2]; exact below_drewN' HBL.out n2
      rw [hw2]
      clear hw2 HMM HBL q0 q1 f0 f1
      obtain ⟨q0, q1, f0, f1⟩ := two_cells HM2.out
      have HPV : Hid (pv (bitF zs gone) (j + 1) = pv (bitF zs gone) j * 2 + bitF zs gone j) := rfl
      have hp1 := pv_lt (bitF_lt zs gone) j
      have hp2 : (2 : Nat) ^ j ≤ 2 ^ 14 := Nat.pow_le_pow_right (by omega) hj14
      have hp3 : pv (bitF zs gone) j ≤ 16383 := by omega
      clear hp1 hp2
      obtain ⟨bb, hbb⟩ : ∃ bb, bitF zs gone j = bb := ⟨_, rfl⟩
      rw [hbb] at HPV hbj ⊢
      have hw16 : IntKind.u16.wrap (bb : Int) = (bb : Int) := by rw [IntKind.wrap_u16]; omega
      obtain ⟨P, hP⟩ : ∃ P, pv (bitF zs gone) j = P := ⟨_, rfl⟩
      rw [hP] at HPV hp3 q1 HM2
      clear hbb hP
      go_wp2_with fail
      refine (and_any j P bb _ (by omega) (by omega) (by omega)).mono ?_
      rintro e w3 ⟨rfl, hb3⟩
      have HM3 : Hid (w3.heap[M]? = some (.cells #[.int .u16 j, .int .u16 P] 172 (0, 0))) := (hb3.block _ (lt_of_block HM2.out)).trans HM2.out
      have HB3 : Hid (Below w.heap.size w w3) := HB2.out.trans (hb3.mono HB2.out.size)
      clear hb3 HM2 HB2 q0 q1 f0 f1
      obtain ⟨q0, q1, f0, f1⟩ := two_cells HM3.out
      obtain ⟨w4, hw4⟩ : ∃ w4, (w3.setCell ⟨M, 0, none⟩ (.int .u16 ((j : Int) + 1))).setCell ⟨M, 1, none⟩ (.int .u16 ((P : Int) * 2 + (bb : Int))) = w4 := ⟨_, rfl⟩
      have HM4 : Hid (w4.heap[M]? = some (.cells #[.int .u16 ((j + 1 : Nat) : Int), .int .u16 ((P * 2 + bb : Nat) : Int)] 172 (0, 0))) := by rw [← hw4]; exact two_set1 (two_set0 HM3.out)
      have HB4 : Hid (Below w.heap.size w w4) := by
        rw [← hw4]
        exact Fr.below HB3.out ((Fr.set M 0 _ none).trans (Fr.set M 1 _ none) (.inl rfl)) (by rw [HM.out]; exact Nat.le_refl _) (by intro q hq; cases hq) HB3.out.size
      obtain ⟨bw, bs, B, n1, nn2, hcode, hmw, hms, hrow⟩ := HCO.out.old HB4.out
      obtain ⟨p0, p1, p2, _⟩ := three_cells hcode
      have hXl : P * 2 + bb < 65536 := by omega
      have hls : ∀ n, (Instr.lookup 167 (.map (some bs)) (.agg #[.int .u16 ((j : Int) + 1), .int .u16 ((P : Int) * 2 + (bb : Int))]) true).run Tryz.prog (w4.drewN n) = .ok (.tuple #[.int .i64 ((stF (fin ns) ns.length (j + 1) (P * 2 + bb)).getD 0), .bool (stF (fin ns) ns.length (j + 1) (P * 2 + bb)).isSome]) (w4.drewN n) := fun n => MapF.look (w := w4.drewN n) hms (j + 1) (P * 2 + bb) (by omega) hXl
      have HST2 : Hid (nxt ns (bitF zs gone) (8 * zs.length - gone) 15 0 = if stB (fin ns) ns.length (j + 1) (P * 2 + bb) then nxt ns (bitF zs gone) (8 * zs.length - gone) (15 - (j + 1)) (j + 1) else match wdF ns ns.length (j + 1) (P * 2 + bb) with | some s => (s, 0, j + 1) | none => (0, 6, 0)) := by
        show _ = _
        rw [← HQ.out, HST.out, if_neg hN, HPV.out]
      have HMW : Hid (MapF w4 bw n1 (wdF ns ns.length)) := hmw
      have HCD : Hid (w4.heap[c]? = some (.cells #[.map (some bw), .map (some bs), .slice (some ⟨B, 0, none⟩) ns.length ns.length] 170 (0, 0))) := hcode
      clear HST HQ hcode hmw hms hrow
      have HW4 : Hid _ := hw4
      clear hw4
      have m0 : w4.cell? ⟨M, 0, none⟩ = some (.int .u16 ((j : Int) + 1)) := (two_cells HM4.out).1
      have m1 : w4.cell? ⟨M, 1, none⟩ = some (.int .u16 ((P : Int) * 2 + (bb : Int))) := (two_cells HM4.out).2.1
      by_cases hst : stB (fin ns) ns.length (j + 1) (P * 2 + bb) = true
      · have e1 : stF (fin ns) ns.length (j + 1) (P * 2 + bb) = some ((j + 1 : Nat) : Int) := by unfold stF; rw [if_pos hst]
        have hj15 := stB_small HC.out hst
        have R : Hid (nxt ns (bitF zs gone) (8 * zs.length - gone) (15 - (j + 1)) (j + 1) = nxt ns (bitF zs gone) (8 * zs.length - gone) 15 0) := by show _ = _; rw [HST2.out, if_pos hst]
        rw [e1] at hls
        simp only [Option.getD_some, Option.isSome_some] at hls
        clear HST2 hst e1 HMW HCD
        go_wp2
        rw [HW4.out]
        go_quiet (fail)
        go_wp2
        go_roundg (15 - (j + 1))
        case rel => exact ⟨j + 1, by omega, by omega, R.out, by rw [HPV.out]; exact HM4.out, below_drewN' HB4.out nq⟩
        case measure => omega
      · have e1 : stF (fin ns) ns.length (j + 1) (P * 2 + bb) = none := by unfold stF; rw [if_neg hst]
        rw [e1] at hls
        simp only [Option.getD_none, Option.isSome_none] at hls
        have HST3 : Hid (nxt ns (bitF zs gone) (8 * zs.length - gone) 15 0 = match wdF ns ns.length (j + 1) (P * 2 + bb) with | some s => (s, 0, j + 1) | none => (0, 6, 0)) := by show _ = _; rw [HST2.out, if_neg hst]
        clear HST2 hst e1
        go_wp2
        rw [HW4.out]
        go_quiet (fail)
        go_wp2
        obtain ⟨w5, hw5⟩ : ∃ w5, w4.drewN nq = w5 := ⟨_, rfl⟩
        rw [hw5]
        have HM5 : Hid (w5.heap[M]? = some (.cells #[.int .u16 ((j + 1 : Nat) : Int), .int .u16 ((P * 2 + bb : Nat) : Int)] 172 (0, 0))) := by rw [← hw5]; exact HM4.out
        have HB5 : Hid (Below w.heap.size w w5) := by rw [← hw5]; exact below_drewN' HB4.out nq
        have hcd5 : w5.heap[c]? = some (.cells #[.map (some bw), .map (some bs), .slice (some ⟨B, 0, none⟩) ns.length ns.length] 170 (0, 0)) := by rw [← hw5]; exact HCD.out
        have hmw5 : MapF w5 bw n1 (wdF ns ns.length) := by rw [← hw5]; exact HMW.out
        clear hw5 m0 m1 p0 p1 p2 hls HW4 HM4 HB4 HCD HMW
        have hlw : ∀ n, (Instr.lookup 167 (.map (some bw)) (.agg #[.int .u16 ((j : Int) + 1), .int .u16 ((P : Int) * 2 + (bb : Int))]) true).run Tryz.prog (w5.drewN n) = .ok (.tuple #[.int .i64 ((wdF ns ns.length (j + 1) (P * 2 + bb)).getD 0), .bool (wdF ns ns.length (j + 1) (P * 2 + bb)).isSome]) (w5.drewN n) := fun n => MapF.look (w := w5.drewN n) hmw5 (j + 1) (P * 2 + bb) (by omega) hXl
        obtain ⟨p0, p1, p2, _⟩ := three_cells hcd5
        have m0 : w5.cell? ⟨M, 0, none⟩ = some (.int .u16 ((j : Int) + 1)) := (two_cells HM5.out).1
        have m1 : w5.cell? ⟨M, 1, none⟩ = some (.int .u16 ((P : Int) * 2 + (bb : Int))) := (two_cells HM5.out).2.1
        clear hcd5 hmw5
        cases hwd : wdF ns ns.length (j + 1) (P * 2 + bb) with
        | none =>
          rw [hwd] at HST3 hlw
          simp only [Option.getD_none, Option.isSome_none] at hlw
          have HP : Hid (∀ n, GNextPost tl w r g zs gone (nxt ns (bitF zs gone) (8 * zs.length - gone) 15 0) (.returned (.tuple #[.int .i64 0, .int .i64 6])) (w5.drewN n)) := fun n => by
            rw [HST3.out]
            exact GNextPost.stay HR.out hg (below_drewN' HB5.out n)
          clear HST3 hwd
          go_quiet (fail)
          go_wp2
          rw [Exit.noGoto_ret]
          go_ret2
          exact HP.out _
        | some s =>
          rw [hwd] at HST3 hlw
          simp only [Option.getD_some, Option.isSome_some] at hlw
          have HST4 : Hid (nxt ns (bitF zs gone) (8 * zs.length - gone) 15 0 = (s, 0, j + 1)) := HST3.out
          clear HST3 hwd
          have hwj1 : IntKind.i64.wrap ((j : Int) + 1) = (j : Int) + 1 := by rw [IntKind.wrap_i64]; omega
          go_quiet (fail)
          go_wp2_with fail
          refine (gtake_yes r g zs gone (j + 1) _ (HR.out.old (below_drewN' HB5.out _)) HB.out hl hg (by omega) (by omega)).mono ?_
          rintro e w6 ⟨rfl, hr6, hf6⟩
          have HP : Hid (GNextPost tl w r g zs gone (nxt ns (bitF zs gone) (8 * zs.length - gone) 15 0) (.returned (.tuple #[.int .i64 s, .int .i64 0])) w6) := by
            show GNextPost tl _ _ _ _ _ _ _ _
            rw [HST4.out]
            exact ⟨rfl, hr6, (Fr.of_heap (below_drewN' HB5.out _)).trans hf6 (.inl rfl)⟩
          clear hr6 hf6 HST4
          go_wp2
          rw [Exit.noGoto_ret]
          go_ret2
          exact HP.out
end Go.Proofs.YtloagniacjfkfaaGreatDoor
