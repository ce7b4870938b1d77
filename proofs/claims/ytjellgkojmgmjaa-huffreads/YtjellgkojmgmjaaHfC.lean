/- The words of lengths, as the program spells them. -/
import Derived.Test.YtjellgkojmgmjaaHfB
import Derived.WalkMore
namespace Go.Proofs.Ytjellgkojmgmjaa
open Go.RowKit

def ints (ns : List Nat) : List Int := ns.map fun (n : Nat) => (n : Int)
theorem ints_at (ns : List Nat) (k : Nat) : (ints ns)[k]?.getD 0 = (hn ns k : Int) := by
  unfold ints hn
  rw [List.getElem?_map]
  cases ns[k]? <;> rfl
theorem ints_len (ns : List Nat) : (ints ns).length = ns.length := by simp [ints]
theorem ints_words (ns : List Nat) : wordsN (ints ns) = hleft ns 1 0 := by
  rw [hleft_start]
  unfold wordsN ints
  rw [List.countP_map]
  congr 1
  funext n
  simp
theorem ints_toNat {ls : List Int} (h : okLens ls = true) : ints (ls.map Int.toNat) = ls := by
  unfold ints
  rw [List.map_map]
  apply List.ext_getElem?
  intro i
  rw [List.getElem?_map]
  have := okLens_at h i
  cases hx : ls[i]? with
  | none => rfl
  | some x => rw [hx] at this; simp at this ⊢; omega
theorem Try.info67 : (Try.prog.info? 68).map (fun i => (i.zero, i.size, i.bytes)) = some (some (.agg #[.int .u16 0, .int .u16 0]), 2, 4) := by kernel_rfl

/-- Words that lie in block B: symbol s's is f s. -/
def WRow (w : World) (B len : Nat) (f : Nat → Nat × Nat) : Prop :=
  ∃ cur, w.heap[B]? = some (.cells cur 68 (0, 0)) ∧ cur.size = len * 2 ∧ ∀ s, s < len → cur[s * 2]? = some (.int .u16 (f s).1) ∧ cur[s * 2 + 1]? = some (.int .u16 (f s).2)
theorem WRow.same {w w' : World} {B len : Nat} {f : Nat → Nat × Nat} (h : WRow w B len f) (hs : w'.heap[B]? = w.heap[B]?) : WRow w' B len f := by
  obtain ⟨cur, hh, r⟩ := h
  exact ⟨cur, hs.trans hh, r⟩
theorem WRow.lt {w : World} {B len : Nat} {f : Nat → Nat × Nat} (h : WRow w B len f) : B < w.heap.size := by
  obtain ⟨cur, hh, _⟩ := h; exact lt_of_block hh
theorem WRow.cell {w : World} {B len : Nat} {f : Nat → Nat × Nat} (h : WRow w B len f) (s : Nat) (hs : s < len) : w.cell? ⟨B, s * 2, none⟩ = some (.int .u16 (f s).1) ∧ w.cell? ⟨B, s * 2 + 1, none⟩ = some (.int .u16 (f s).2) := by
  obtain ⟨cur, hh, _, r⟩ := h
  obtain ⟨r1, r2⟩ := r s hs
  simp [World.cell?, hh, r1, r2]
theorem WRow.frozen {w : World} {B len : Nat} {f : Nat → Nat × Nat} (h : WRow w B len f) (j : Nat) : w.frozen? ⟨B, j, none⟩ = false := by
  obtain ⟨cur, hh, _, r⟩ := h
  simp [World.frozen?, hh]
theorem WRow.congr {w : World} {B len : Nat} {f g : Nat → Nat × Nat} (h : WRow w B len f) (hfg : ∀ s, s < len → f s = g s) : WRow w B len g := by
  obtain ⟨cur, hh, hz, r⟩ := h
  exact ⟨cur, hh, hz, fun s hs => by rw [← hfg s hs]; exact r s hs⟩
theorem WRow.made {w : World} {base B len n : Nat} (h : w.ownsRow base 68 2 (.slice (some ⟨B, 0, none⟩) len len) n (madeCells (Value.agg #[.int .u16 0, .int .u16 0]).cells (len * 2)).toList) : WRow w B len (fun _ => (0, 0)) := by
  obtain ⟨hl, h⟩ := h
  rw [Array.length_toList, size_madeCells] at hl
  obtain rfl : len = n := by omega
  rcases h with ⟨h, _⟩ | ⟨g, cap, cur, h, _, hh, h1, h2, h3, h4⟩
  · cases h
  · simp only [Value.slice.injEq, Option.some.injEq, Addr.mk.injEq] at h
    obtain ⟨⟨rfl, _, _⟩, _, rfl⟩ := h
    rw [List.take_of_length_le (by rw [Array.length_toList, h3]; exact Nat.le_refl _)] at h4
    have h5 : cur = madeCells (Value.agg #[.int .u16 0, .int .u16 0]).cells (len * 2) := Array.toList_inj.1 h4
    refine ⟨cur, hh, h3, fun s hs => ?_⟩
    subst h5
    unfold madeCells
    rw [Array.getElem?_map, Array.getElem?_map, Array.getElem?_range, Array.getElem?_range, if_pos (by omega), if_pos (by omega)]
    have e1 : (Value.agg #[.int .u16 0, .int .u16 0]).cells = #[.int .u16 0, .int .u16 0] := rfl
    rw [e1]
    simp
theorem WRow.set {w : World} {B len : Nat} {f : Nat → Nat × Nat} (h : WRow w B len f) (i : Nat) (x y : Nat) (hi : i < len) : WRow ((w.setCell ⟨B, i * 2, none⟩ (.int .u16 x)).setCell ⟨B, i * 2 + 1, none⟩ (.int .u16 y)) B len (fun s => if s = i then (x, y) else f s) := by
  obtain ⟨cur, hh, hz, r⟩ := h
  refine ⟨_, heap_setCell_same _ B (i * 2 + 1) _ _ _ (heap_setCell_same w B (i * 2) cur _ _ hh), by simp [hz], fun s hs => ?_⟩
  obtain ⟨r1, r2⟩ := r s hs
  by_cases e : s = i
  · subst e
    simp [Array.getElem?_setIfInBounds, hz]
    omega
  · simp only [if_neg e]
    rw [Array.getElem?_setIfInBounds_ne (by omega), Array.getElem?_setIfInBounds_ne (by omega), Array.getElem?_setIfInBounds_ne (by omega), Array.getElem?_setIfInBounds_ne (by omega)]
    exact ⟨r1, r2⟩

/-- At the head of the round of words of n bits. -/
def SpHead (w : World) (B F len : Nat) (ns : List Nat) (n : Nat) (wr : World) : Prop :=
  ∃ fz : Nat, (n ≤ 15 → fz * 2 = hfree ns n 0) ∧ WRow wr B len (hmid ns n 0) ∧ wr.heap[F]? = some (.cells #[.int .u16 ((n - 1 : Nat) : Int), .int .u16 fz] 68 (0, 0)) ∧ Below w.heap.size w wr
/-- Within it, the symbols below i done. -/
def SpRel (w : World) (B F len : Nat) (ns : List Nat) (n i : Nat) (wr : World) : Prop :=
  WRow wr B len (hmid ns n i) ∧ wr.heap[F]? = some (.cells #[.int .u16 n, .int .u16 (hfree ns n i)] 68 (0, 0)) ∧ Below w.heap.size w wr
theorem SpHead.start {w w' : World} {B len : Nat} {ns : List Nat} (h : WRow w' B len fun _ => (0, 0)) (hb : Below w.heap.size w w') : SpHead w B w'.heap.size len ns 1 (w'.alloc (.cells #[.int .u16 0, .int .u16 0] 68)) :=
  ⟨0, fun _ => by rw [hfree_start], (h.congr fun s _ => by rw [hmid_start]).same (((Below.refl w'.heap.size w').alloc (Nat.le_refl _) _).block _ h.lt), heap_alloc_new _ _, hb.alloc hb.size _⟩
theorem SpRel.last {w wr : World} {B F len : Nat} {ns : List Nat} {n : Nat} (hl : ns.length = len) (h1 : 1 ≤ n) (h : SpRel w B F len ns n len wr) : SpHead w B F len ns (n + 1) wr := by
  obtain ⟨hw, hf, hb⟩ := h
  subst hl
  exact ⟨hfree ns n ns.length, fun h => by rw [hfree_end ns n h1 h], hw.congr fun s _ => by rw [hmid_end ns n s h1], by rw [Nat.add_sub_cancel]; exact hf, hb⟩
theorem Fr.swap {w w' : World} {r r' : Nat} (h : Fr w w' r none) : Fr w w' r' (some r) := ⟨h.os, h.tape, h.output, h.size, fun k hk _ hg => h.block k hk (fun e => hg (by rw [e])) (by simp)⟩
theorem hleft_le (ns : List Nat) (n i : Nat) : hleft ns n i ≤ 2 * ns.length := by
  unfold hleft
  have h1 : (ns.countP fun k => decide (n < k)) ≤ ns.length := List.countP_le_length
  have h2 : ((ns.drop i).countP fun k => decide (k = n)) ≤ (ns.drop i).length := List.countP_le_length
  rw [List.length_drop] at h2
  omega
def SpPost (w : World) (len : Nat) (ns : List Nat) (e : Ending) (w' : World) : Prop :=
  ∃ B, e = .returned (.slice (some ⟨B, 0, none⟩) len len) ∧ w.heap.size ≤ B ∧ WRow w' B len (fun s => (hn ns s, hv ns s)) ∧ Below w.heap.size w w'
theorem SpRel.done {w wr : World} {B F len : Nat} {ns : List Nat} {n i : Nat} (h1 : 1 ≤ n) (hB : w.heap.size = B) (h0 : hleft ns n i = 0) (h : SpRel w B F len ns n i wr) : SpPost w len ns (.returned (.slice (some ⟨B, 0, none⟩) len len)) wr := by
  obtain ⟨hw, hf, hb⟩ := h
  exact ⟨B, rfl, by omega, hw.congr fun s _ => hmid_done h1 h0 s, hb⟩
theorem hleft_out {ns : List Nat} (h : Cd ns) : hleft ns 16 0 = 0 := by
  have hx : ∀ x ∈ ns, x ≤ 15 := by
    intro x hx
    obtain ⟨k, hk, rfl⟩ := List.mem_iff_getElem.1 hx
    have := h.le k
    unfold hn at this
    rw [List.getElem?_eq_getElem hk] at this
    exact this
  unfold hleft
  rw [List.countP_eq_zero.2, List.countP_eq_zero.2]
  · intro x hm
    have := hx x (List.mem_of_mem_drop hm)
    simp; omega
  · intro x hm
    have := hx x hm
    simp; omega

set_option maxHeartbeats 1600000 in
set_option maxRecDepth 10000 in
theorem spell_any (a : Option Addr) (len cap : Nat) (ns : List Nat) (w : World) (hn' : ns.length = len) (hc : Cd ns) (hr : IRow w a (ints ns)) :
    Calls Try.prog 29 #[.slice a len cap] w fun e w' => SpPost w len ns e w' := by
  have HN : Hid (ns.length = len) := hn'
  have HR : Hid (IRow w a (ints ns)) := hr
  have HC : Hid (Cd ns) := hc
  have hl : len ≤ 288 := by rw [← hn']; exact hc.few
  clear hn' hr hc
  obtain ⟨i0, hi, hz0, hz1, hz2⟩ := info_parts Try.info67
  have hby : i0.bytes = 4 := hz2
  have hmk : i0.bytes * len ≤ 281474976710656 := by rw [hby]; omega
  go_enter Try.func29, Try.ntmps29
  go_wp2
  go_step3
  go_wp2_with (at_make; refine wpList_make_full _ rfl _ _ 63 rfl w.heap.size 68 i0 _ 2 Try.underlying63 hi hz0 hz1 .i64 .i64 len len len rfl rfl rfl rfl hmk (by unfold maxLen; omega) (Nat.le_refl _) ?_)
  intro w1 hown hgrow
  have hrow := WRow.made hown
  have HB1 : Hid (Below w.heap.size w w1) := ⟨hgrow.os, hgrow.tape, hgrow.output, hgrow.size, fun k hk => hgrow.block k hk (by simp)⟩
  have HW1 : Hid (WRow w1 w.heap.size len fun _ => (0, 0)) := hrow
  clear hown hgrow hrow
  have hbig := HW1.out.lt
  go_wp2_with (go_at_call 28; refine (withWord_any a len cap (ints ns) _ (by rw [ints_len]; exact HN.out) (by omega) (HR.out.old HB1.out)).mono ?_; rintro e w' ⟨rfl, rfl⟩)
  have HS : Hid (SpHead w w.heap.size w'.heap.size len ns 1 (w'.alloc (.cells #[.int .u16 0, .int .u16 0] 68))) := SpHead.start HW1.out HB1.out
  have hlt0 : Hid (wordsN (ints ns) = hleft ns 1 0) := ints_words ns
  go_step3
  go_wp2
  generalize w'.heap.size = F at HS hbig ⊢
  generalize hB : w.heap.size = B at HS hbig ⊢
  have HBB : Hid (w.heap.size = B) := hB
  have hBF : ¬ B = F := by omega
  have hFB : ¬ F = B := by omega
  rw [hlt0.out]
  clear HW1 HB1 hB
  go_loopw [4, 6] (fun l n wr => ∃ k : Nat, 1 ≤ k ∧ k ≤ 16 ∧ n = .int .i64 k ∧ l = .int .i64 (hleft ns k 0) ∧ SpHead w B F len ns k wr) (fun _ n _ => 17 - (intOf n).toNat)
  case atStart => exact ⟨1, by omega, by omega, rfl, rfl, HS.out⟩
  case round =>
    obtain ⟨k, hk1, hk16, rfl, rfl, fz, hfz, hrow, hF, hbel⟩ := hrel
    by_cases hk : k ≤ 15
    · obtain ⟨q0, q1, f0, f1⟩ := two_cells hF
      have HFZ : Hid (fz * 2 = hfree ns k 0) := hfz hk
      have hfle : fz ≤ 16384 := by
        have := hfree_le ns k 0 hk1 hk HC.out.sum
        have h2 : (2 : Nat) ^ k ≤ 2 ^ 15 := Nat.pow_le_pow_right (by omega) hk
        have := HFZ.out; omega
      have HR1 : Hid (WRow wr B len (hmid ns k 0)) := hrow
      have HBL : Hid (Below w.heap.size w wr) := hbel
      have HF1 : Hid (wr.heap[F]? = some (.cells #[.int .u16 ((k - 1 : Nat) : Int), .int .u16 fz] 68 (0, 0))) := hF
      clear hfz hrow hbel hF HS
      obtain ⟨j, rfl⟩ : ∃ j, k = j + 1 := ⟨k - 1, by omega⟩
      rw [Nat.add_sub_cancel] at q0
      have hj15 : (j : Int) + 1 ≤ 15 := by omega
      go_wp2_with fail
      refine (and_any j fz 0 _ (by omega) (by omega) (.inl rfl)).mono ?_
      rintro e w2 ⟨rfl, hb2⟩
      have hF2 : w2.heap[F]? = some (.cells #[.int .u16 ((j : Nat) : Int), .int .u16 fz] 68 (0, 0)) := (hb2.block F (lt_of_block HF1.out)).trans (by have := HF1.out; rwa [Nat.add_sub_cancel] at this)
      have HR2 : Hid (WRow w2 B len (hmid ns (j + 1) 0)) := HR1.out.same (hb2.block B HR1.out.lt)
      have HB2 : Hid (Below w.heap.size w w2) := HBL.out.trans (hb2.mono HBL.out.size)
      obtain ⟨p0, p1, g0, g1⟩ := two_cells hF2
      have HF2 : Hid (w2.heap[F]? = some (.cells #[.int .u16 ((j : Nat) : Int), .int .u16 fz] 68 (0, 0))) := hF2
      clear hb2 hF2 HR1 HBL HF1 q0 q1 f0 f1
      go_wp2
      have HS2 : Hid (SpRel w B F len ns (j + 1) 0 ((w2.setCell ⟨F, 0, none⟩ (.int .u16 ((j : Int) + 1))).setCell ⟨F, 1, none⟩ (.int .u16 ((fz : Int) * 2)))) := by
        refine ⟨HR2.out.same ?_, ?_, ?_⟩
        · rw [Below.heap_setCell _ _ _ _ hBF, Below.heap_setCell _ _ _ _ hBF]
        · rw [← HFZ.out]
          exact two_set1 (two_set0 HF2.out)
        · have h1 : Fr w2 ((w2.setCell ⟨F, 0, none⟩ (.int .u16 ((j : Int) + 1))).setCell ⟨F, 1, none⟩ (.int .u16 ((fz : Int) * 2))) F none := (Fr.set F 0 _ none).trans (Fr.set F 1 _ none) (.inl rfl)
          exact Fr.below HB2.out h1 (by rw [HBB.out]; omega) (by intro q hq; cases hq) HB2.out.size
      clear HR2 HB2 HF2 p0 p1 g0 g1
      go_loopw [4, 23] (fun l s wr => ∃ i : Nat, i ≤ len ∧ s = .int .i64 i ∧ l = .int .i64 (hleft ns (j + 1) i) ∧ SpRel w B F len ns (j + 1) i wr) (fun _ s _ => len - (intOf s).toNat)
      case atStart => exact ⟨0, Nat.zero_le _, rfl, rfl, HS2.out⟩
      case round =>
        clear HS2
        obtain ⟨i, hi, rfl, rfl, hrow, hF, hbel⟩ := hrel
        have HREL : Hid (SpRel w B F len ns (j + 1) i wr) := ⟨hrow, hF, hbel⟩
        by_cases hlt : i < len
        · obtain ⟨b, off, rfl, hck⟩ := HR.out.at i (by rw [ints_len]; have := HN.out; omega)
          rw [ints_at] at hck
          have hck' : wr.cell? ⟨b, off + i, none⟩ = some (.int .i64 (hn ns i : Nat)) := (hbel.cell (p := ⟨b, off + i, none⟩) (cell_lt hck)).trans hck
          have hni : hn ns i ≤ 15 := HC.out.le i
          obtain ⟨q0, q1, f0, f1⟩ := two_cells hF
          obtain ⟨c0, c1⟩ := hrow.cell i hlt
          have d0 := hrow.frozen (i * 2)
          have d1 := hrow.frozen (i * 2 + 1)
          clear hck hrow hF hbel
          have hle := hfree_le ns (j + 1) i hk1 hk HC.out.sum
          have hp2 : (2 : Nat) ^ (j + 1) ≤ 2 ^ 15 := Nat.pow_le_pow_right (by omega) hk
          have hfi : hfree ns (j + 1) i ≤ 32768 := by omega
          clear hle hp2
          by_cases hz : hleft ns (j + 1) i = 0
          · have HZ : Hid (hleft ns (j + 1) i = 0) := hz
            go_wp2
            rw [Exit.noGoto_ret]
            go_ret
            exact SpRel.done hk1 HBB.out HZ.out HREL.out
          · have HLS : Hid (hleft ns (j + 1) i = hleft ns (j + 1) (i + 1) + if hn ns i = j + 1 then 1 else 0) := hleft_succ ns (j + 1) i (by rw [HN.out]; exact hlt)
            have HFS : Hid (hfree ns (j + 1) (i + 1) = hfree ns (j + 1) i + if hn ns i = j + 1 then 1 else 0) := hfree_succ ns (j + 1) i hk (by rw [HN.out]; exact hlt)
            have HMS : Hid (∀ s, hmid ns (j + 1) (i + 1) s = if s = i ∧ hn ns i = j + 1 then (j + 1, hfree ns (j + 1) i) else hmid ns (j + 1) i s) := fun s => hmid_succ ns (j + 1) i s hk1
            by_cases he : hn ns i = j + 1
            · rw [he] at hck'
              have HL2 : Hid (hleft ns (j + 1) i = hleft ns (j + 1) (i + 1) + 1) := by show _ = _; rw [HLS.out, if_pos he]
              have hlz : (0 : Int) < (hleft ns (j + 1) i : Int) := by omega
              have HE : Hid (hn ns i = j + 1) := he
              clear HLS he hni
              have hck2 : wr.cell? ⟨b, off + i, none⟩ = some (.int .i64 ((j : Int) + 1)) := hck'
              clear hck'
              have hl3 : hleft ns (j + 1) i ≤ 576 := by have h1 := hleft_le ns (j + 1) i; have := HN.out; omega
              go_wp2
              go_roundw
              case rel =>
                refine ⟨i + 1, by omega, by go_num, ?_, ?_⟩
                · have := HL2.out
                  congr 1
                  omega
                · obtain ⟨r1, r2, r3⟩ := HREL.out
                  refine ⟨?_, ?_, ?_⟩
                  · refine WRow.congr ((r1.set i (j + 1) (hfree ns (j + 1) i) hlt).same (Below.heap_setCell _ _ _ _ hBF)) fun s hs => ?_
                    rw [HMS.out]
                    by_cases e : s = i
                    · rw [if_pos e, if_pos ⟨e, HE.out⟩]
                    · rw [if_neg e, if_neg (fun h => e h.1)]
                  · rw [HFS.out, if_pos HE.out]
                    refine two_set1 (v1 := .int .u16 (hfree ns (j + 1) i : Nat)) ?_
                    rw [Below.heap_setCell _ _ _ _ hFB, Below.heap_setCell _ _ _ _ hFB]
                    exact r2
                  · have h1 : Fr wr (((wr.setCell ⟨B, i * 2, none⟩ (.int .u16 ((j : Int) + 1))).setCell ⟨B, i * 2 + 1, none⟩ (.int .u16 (hfree ns (j + 1) i : Nat))).setCell ⟨F, 1, none⟩ (.int .u16 ((hfree ns (j + 1) i : Nat) + 1 : Int))) F (some B) :=
                      ((Fr.swap ((Fr.set B (i * 2) _ none).trans (Fr.set B (i * 2 + 1) _ none) (.inl rfl))).trans (Fr.set F 1 _ _) (.inl rfl))
                    exact Fr.below r3 h1 (by rw [HBB.out]; omega) (by intro q hq; cases hq; rw [HBB.out]; exact Nat.le_refl _) r3.size
              case measure => simp [intOf]; omega
            · have heZ : ¬ ((hn ns i : Nat) : Int) = (j : Int) + 1 := by omega
              have R : Hid (SpRel w B F len ns (j + 1) (i + 1) wr) := by
                obtain ⟨r1, r2, r3⟩ := HREL.out
                refine ⟨r1.congr fun s _ => ?_, ?_, r3⟩
                · rw [HMS.out, if_neg (by omega)]
                · rw [HFS.out, if_neg he]; exact r2
              have HL2 : Hid (hleft ns (j + 1) (i + 1) = hleft ns (j + 1) i) := by show _ = _; rw [HLS.out, if_neg he]; rfl
              clear HREL HLS HFS HMS
              generalize hn ns i = z at *
              go_wp2
              go_roundw
              case rel => exact ⟨i + 1, by omega, by go_num, by rw [HL2.out], R.out⟩
              case measure => simp [intOf]; omega
        · obtain rfl : i = len := by omega
          have R : Hid (SpHead w B F i ns (j + 1 + 1) wr) := HREL.out.last HN.out hk1
          have HL2 : Hid (hleft ns (j + 1 + 1) 0 = hleft ns (j + 1) i) := by have := hleft_end ns (j + 1); rwa [HN.out] at this
          clear HREL hrow hF hbel
          go_wp2
          go_roundw
          case rel => exact ⟨j + 1 + 1, by omega, by omega, by go_num, by rw [HL2.out], R.out⟩
          case measure => simp [intOf]; omega
    · obtain rfl : k = 16 := by omega
      have R : SpPost w len ns (.returned (.slice (some ⟨B, 0, none⟩) len len)) wr :=
        ⟨B, rfl, by rw [HBB.out]; exact Nat.le_refl _, hrow.congr fun s _ => hmid_done (by omega) (hleft_out HC.out) s, hbel⟩
      have HRR : Hid (SpPost w len ns (.returned (.slice (some ⟨B, 0, none⟩) len len)) wr) := R
      clear R hrow hF hbel hfz HS
      go_wp2
      rw [Exit.noGoto_ret]
      go_ret
      exact HRR.out
end Go.Proofs.Ytjellgkojmgmjaa
