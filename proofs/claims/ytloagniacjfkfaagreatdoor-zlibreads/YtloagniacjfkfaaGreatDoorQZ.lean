/- Joined: CpB SmC Zf1. -/
import Derived.Test.YtloagniacjfkfaaGreatDoorQA
import Derived.Test.YtloagniacjfkfaaGreatDoorQD
import Derived.Test.YtloagniacjfkfaaGreatDoorQU
import Derived.Test.YtloagniacjfkfaaGreatDoorQV
import Derived.Test.YtloagniacjfkfaaGreatDoorQY
/- 'append([]byte{}, x...)'. -/
namespace Go.Proofs.YtloagniacjfkfaaGreatDoor
open Go.RowKit

theorem Row.alloc {w : World} {a : Option Addr} {l : List Int} (h : Row w a l) (o : Obj) : Row (w.alloc o) a l := h.old ((Below.refl _ _).alloc (Nat.le_refl _) _)
theorem Sl.empty (w : World) (e : TypeId) : Sl (w.alloc (.cells #[] e)) e (.slice (some ⟨w.heap.size, 0, none⟩) 0 0) (some w.heap.size) [] :=
  .inr ⟨_, 0, 0, #[], rfl, rfl, heap_alloc_new _ _, by simp, by simp, by unfold maxLen; omega, by simp⟩
theorem wpList_copy {wr : World} {ops : Array Oper} {rest : List Oper} {o : Oper} {a : Act} {Q : Exit → Act → World → Prop} (hgd : o.guard = none) (s x : Operand)
    (ho : o.op = .call { callee := .builtin .append, args := #[s, x], argTypes := #[22, 22] })
    (ad : Option Addr) (m c : Nat) (zs : List Int) (hs : a.eval s = .slice (some ⟨wr.heap.size, 0, none⟩) 0 0) (hx : a.eval x = .slice ad m c) (hc : ad = none → c = 0) (hm : zs.length = m) (hr : Row wr ad zs) (hlen : m ≤ 140737488351232)
    (h : ∀ a' c' w' g', Sl w' 5 (.slice a' m c') g' (vals zs) → (∀ k, g' = some k → wr.heap.size ≤ k) → Below wr.heap.size wr w' → wpList Tryz.prog ops Q rest (a.put o.dst (.slice a' m c')) w') : wpList Tryz.prog ops Q (o :: rest) a (wr.alloc (.cells #[] 5)) := by
  obtain ⟨i0, hi, hz0, hz1, hz2⟩ := info_parts Tryz.info5
  have hB : Below wr.heap.size wr (wr.alloc (.cells #[] 5)) := (Below.refl _ _).alloc (Nat.le_refl _) _
  cases ad with
  | none =>
    have hb : zs = [] := by
      rcases hr with h | ⟨b, off, h, _⟩
      · exact h
      · cases h
    have hc0 := hc rfl
    subst hb hc0
    simp at hm
    subst hm
    refine wpList_append_sl_none hgd s x 22 ho 5 i0 Tryz.underlying22 hi _ 0 0 hs (Nat.le_refl _) hx ?_
    exact h _ 0 _ (some wr.heap.size) (Sl.empty wr 5) (by intro k hk; cases hk; exact Nat.le_refl _) hB
  | some y =>
    refine wpList_append_sl hgd s x 22 ho 5 i0 (.int .u8 0) 1 Tryz.underlying22 hi hz0 hz1 hz2 rfl _ _ [] hs (Sl.empty wr 5) y m c (vals zs) hx (by rw [vals_len]; exact hm) (news_row (hr.alloc _)) (vals_one zs) (by simp; omega) (by simp; unfold maxLen; omega) ?_
    intro v' w' g' h1 h2 h3
    obtain ⟨a', c', hv, _⟩ := h1.shape
    rw [List.nil_append] at h1 hv
    rw [vals_len, hm] at hv
    subst hv
    refine h a' c' w' g' h1 ?_ ⟨h3.os.trans hB.os, h3.tape.trans hB.tape, h3.output.trans hB.output, Nat.le_trans hB.size h3.size, fun k hk => (h3.block k (by simp; omega) (by simp; omega)).trans (hB.block k hk)⟩
    intro k hk
    rcases h2 with e | ⟨q, e, hq⟩
    · rw [e] at hk; cases hk; exact Nat.le_refl _
    · rw [e] at hk; cases hk; simp at hq; omega
end Go.Proofs.YtloagniacjfkfaaGreatDoor
/- Whether bytes are the same; a byte of a slice is another one. -/
namespace Go.Proofs.YtloagniacjfkfaaGreatDoor
open Go.RowKit

theorem conv_row {w : World} {a : Option Addr} {n c : Nat} {l : List Int} (hl : l.length = n) (hr : Row w a l) : (convert 22 9 (.slice a n c)).run Tryz.prog w = .ok (.string (strOfNums l)) w := by
  rcases hr with rfl | ⟨b, off, rfl, hc⟩
  · simp at hl
    subst hl
    cases a with
    | none => exact run_convert_bytes_nil w 22 5 Tryz.underlying22 Tryz.underlying5 0 c 9 Tryz.underlying9
    | some x =>
      rw [run_convert_bytes_string w 22 9 5 _ 0 c Tryz.underlying22 Tryz.underlying5 Tryz.underlying9, run_bytesToString w x 0 c [] (by simpa using run_loadCells_list (P := Tryz.prog) w x [] (fun j v hj => by simp at hj))]
      rfl
  · exact run_convert_bytes_arg w 22 5 Tryz.underlying22 Tryz.underlying5 b off n c l hl (fun i hi => by rw [hc i (by omega)]; simp) 9 Tryz.underlying9
set_option maxHeartbeats 800000 in
theorem same_any (a b : Option Addr) (n ca cb : Nat) (l : List Int) (w : World) (hl : l.length = n) (ra : Row w a l) (rb : Row w b l) :
    Calls Tryz.prog 14 #[.slice a n ca, .slice b n cb] w fun e w' => e = .returned (.bool true) ∧ w' = w := by
  have h1 := conv_row (c := ca) hl ra
  have h2 := conv_row (c := cb) hl rb
  clear ra rb hl
  generalize strOfNums l = s at *
  go_enter Tryz.func14, Tryz.ntmps14
  go_wp2
  go_ret
  exact ⟨rfl, rfl⟩

theorem str_inj {l m : List Int} (hl : Bytes l) (hm : Bytes m) (h : (strOfNums l).toList = (strOfNums m).toList) : l = m := by
  have e := h
  rw [ByteArray.toList_eq, ByteArray.toList_eq, strOfNums_data, strOfNums_data] at e
  clear h
  induction l generalizing m with
  | nil => cases m with
    | nil => rfl
    | cons y r => simp at e
  | cons x q ih =>
    cases m with
    | nil => simp at e
    | cons y r =>
      simp only [List.map_cons, List.cons.injEq] at e
      have hx := hl x (by simp)
      have hy := hm y (by simp)
      have e1 := congrArg UInt8.toNat e.1
      simp at e1
      have := ih (m := r) (fun z hz => hl z (by simp [hz])) (fun z hz => hm z (by simp [hz])) e.2
      rw [this]
      congr 1
      omega
set_option maxHeartbeats 800000 in
theorem unlike_any (a b : Option Addr) (n ca cb : Nat) (l m : List Int) (w : World) (hl : l.length = n) (hm : m.length = n) (bl : Bytes l) (bm : Bytes m) (ra : Row w a l) (rb : Row w b m) (hne : l ≠ m) :
    Calls Tryz.prog 14 #[.slice a n ca, .slice b n cb] w fun e w' => e = .returned (.bool false) ∧ w' = w := by
  have h1 := conv_row (c := ca) hl ra
  have h2 := conv_row (c := cb) hm rb
  have h3 : ((strOfNums l).toList == (strOfNums m).toList) = false := by
    rw [Bool.eq_false_iff]
    intro h
    exact hne (str_inj bl bm (by simpa using h))
  clear ra rb hl hm bl bm hne
  generalize strOfNums l = s at *
  generalize strOfNums m = t at *
  go_enter Tryz.func14, Tryz.ntmps14
  go_wp2
  go_ret
  exact ⟨rfl, rfl⟩
theorem Sl.setAt {w : World} {e : TypeId} {g : Option Nat} {xs : List Value} {b off n cap : Nat} (h : Sl w e (.slice (some ⟨b, off, none⟩) n cap) g xs) (k : Nat) (u : Value) : Sl (w.setCell ⟨b, off + k, none⟩ u) e (.slice (some ⟨b, off, none⟩) n cap) g (xs.set k u) := by
  rcases h with ⟨h, _⟩ | ⟨b', off', cap', cur, h, hg, hh, h1, h2, h3, hc⟩
  · cases h
  · simp at h
    obtain ⟨⟨rfl, rfl⟩, rfl, rfl⟩ := h
    refine .inr ⟨b, off, cap, cur.setIfInBounds (off + k) u, by simp, hg, heap_setCell_same w b (off + k) cur e u hh, by simpa using h1, by simpa using h2, h3, fun i hi => ?_⟩
    simp at hi
    by_cases hik : i = k
    · subst hik
      rw [Array.getElem?_setIfInBounds_self_of_lt (by omega), List.getElem?_set_self (by omega)]
    · rw [Array.getElem?_setIfInBounds_ne (by omega), List.getElem?_set_ne (by omega), hc i hi]
theorem vals_setC (l : List Int) (k : Nat) (v : Int) : vals (l.set k v) = (vals l).set k (.int .u8 v) := by simp [vals]
end Go.Proofs.YtloagniacjfkfaaGreatDoor
/- zlib: the calls whose answers the document fixes. -/
namespace Go.Proofs.YtloagniacjfkfaaGreatDoor
open Go.RowKit
theorem ZMem.old {base : Nat} {w w' : World} {d : Nat} {lim : Int} {bs : List Int} {z : Zo} {S : Nat → Prop} (h : ZMem base w d lim bs z S) (hb : Below w.heap.size w w') : ZMem base w' d lim bs z S := by
  obtain ⟨h1, h2, h3, h4, now, vp, vk, sum, vr, gr, c1, c2, c3, c4, c5, c6, c7, c8, c9⟩ := h
  have hsl : ∀ {v g xs}, Sl w 5 v g xs → Sl w' 5 v g xs := fun hs => hs.same fun k hk => hb.block k (hs.lt hk)
  refine ⟨h1, fun k hk => ⟨(h2 k hk).1, Nat.lt_of_lt_of_le (h2 k hk).2 hb.size⟩, h3, h4, now, vp, vk, sum, vr, gr, c1.same (hb.block _ c1.lt), hsl c2, c3, fun e => ?_, fun e => ?_, fun e => ?_, c7, c8, c9⟩
  · obtain ⟨a, b, gp, c, d⟩ := c4 e
    exact ⟨a, b, gp, hsl c, d⟩
  · obtain ⟨a, b, c, p, o, r, e1, e2, e3⟩ := c5 e
    exact ⟨a, b, c, p, o, r, e1, e2.old hb, e3⟩
  · obtain ⟨a, b, c, zs, gp, e1, e2, e3, e4⟩ := c6 e
    exact ⟨a, b, c, zs, gp, e1, e2, hsl e3, e4⟩
theorem ex_z : Runs 1 St.start (bitsL [1, 1, 0, 254, 255, 7, 0, 8, 0, 8]) (.stop ⟨11, [7], true, 0, 0, 0, 0, none, [], 0, none, none, 0, 0, 0⟩ (bitsL [0, 8, 0, 8])) := by
  have e1 : item 1 St.start (bitsL [1, 1, 0, 254, 255, 7, 0, 8, 0, 8]) = .ok ⟨1, [], true, 0, 0, 0, 0, none, [], 0, none, none, 0, 0, 0⟩ 8 := rfl
  have e2 : item 1 ⟨1, [], true, 0, 0, 0, 0, none, [], 0, none, none, 0, 0, 0⟩ ((bitsL [1, 1, 0, 254, 255, 7, 0, 8, 0, 8]).drop 8) = .ok ⟨2, [], true, 1, 0, 0, 0, none, [], 0, none, none, 0, 0, 0⟩ 32 := rfl
  have e3 : item 1 ⟨2, [], true, 1, 0, 0, 0, none, [], 0, none, none, 0, 0, 0⟩ (((bitsL [1, 1, 0, 254, 255, 7, 0, 8, 0, 8]).drop 8).drop 32) = .ok ⟨11, [7], true, 0, 0, 0, 0, none, [], 0, none, none, 0, 0, 0⟩ 8 := rfl
  exact .ok (by decide) e1 (.ok (by decide) e2 (.ok (by decide) e3 (.fin rfl)))
theorem zsays_7 : ZSays (1 : Int).toNat [120, 1, 1, 1, 0, 254, 255, 7, 0, 8, 0, 8] ⟨3, [7], 0, []⟩ := by
  refine ⟨fun h => absurd h (by decide), fun _ h => absurd h (by decide), fun _ _ => .inr (.inr ⟨[7], [0, 8, 0, 8], ⟨_, rfl, rfl, ?_, ex_z⟩, fun h => absurd h (by decide), fun _ _ => rfl, fun _ h => absurd (by decide) h⟩)⟩
  intro z hz
  simp at hz
  omega
set_option maxHeartbeats 1600000 in
set_option maxRecDepth 20000 in
theorem zfixed_any (w : World) (hord : Ord w) (hsec : Sec w) : Calls Tryz.prog 9 #[] w fun e w' => e = .returned (.bool true) ∧ Below w.heap.size w w' := by
  have HO : Hid (Ord w ∧ Sec w) := ⟨hord, hsec⟩
  have hba : Below w.heap.size w (w.alloc (.cells #[.int .u8 7] 5)) := (Below.refl _ w).alloc (Nat.le_refl _) _
  have C1 := zpack7_any (some ⟨w.heap.size, 0, none⟩) (w.alloc (.cells #[.int .u8 7] 5)) (hsec.below hba hsec.pos) (row_lit w [7])
  have HBA : Hid (Below w.heap.size w (w.alloc (.cells #[.int .u8 7] 5))) := hba
  clear hord hsec hba
  go_enter Tryz.func9, Tryz.ntmps9
  go_wp2_with fail
  refine C1.mono ?_
  rintro e w1 ⟨v1, g1, rfl, hs1, hg1, hb1⟩
  have HB1 : Hid (Below w.heap.size w w1) := HBA.out.trans (hb1.mono HBA.out.size)
  obtain ⟨a1, c1, hv1, hl1, hl2, hl3⟩ := hs1.shape
  rw [vals_len] at hv1 hl1
  simp only [List.length_cons, List.length_nil, Nat.zero_add, Nat.reduceAdd] at hv1 hl1
  subst hv1
  have HS1 : Hid (Sl w1 5 (.slice a1 12 c1) g1 (vals [120, 1, 1, 1, 0, 254, 255, 7, 0, 8, 0, 8]) ∧ (a1 = none → c1 = 0) ∧ 12 ≤ c1 ∧ c1 ≤ 9223372036854775807) := ⟨hs1, hl3, hl1, hl2⟩
  clear hs1 hg1 hb1 hl1 hl2 hl3 C1 HBA
  go_wp2_with fail
  refine (znew_any 1 w1).mono ?_
  rintro e w2 ⟨rfl, hm2, hb2⟩
  have hs2 : Sl w2 5 (.slice a1 12 c1) g1 (vals [120, 1, 1, 1, 0, 254, 255, 7, 0, 8, 0, 8]) := HS1.out.1.same fun k hk => hb2.block k (HS1.out.1.lt hk)
  have hrow2 := hs2.row rfl
  have hB2 : Below w.heap.size w w2 := HB1.out.trans (hb2.mono HB1.out.size)
  have hO1 : 3 ≤ w.heap.size := HO.out.1.pos
  have C2 := zpush_any hm2 [120, 1, 1, 1, 0, 254, 255, 7, 0, 8, 0, 8] a1 12 c1 rfl HS1.out.2.2.1 HS1.out.2.2.2 HS1.out.2.1 hrow2 (by intro z hz; simp at hz; omega) Bytes.nil (by
      intro x hx hne hS
      have := (HS1.out.1.row rfl).lt x hx hne
      omega) (HO.out.1.below hB2 hO1) hb2.size (by have := HB1.out.size; omega) (by decide) (by decide)
  have HB2 : Hid (Below w.heap.size w w2 ∧ w.heap.size ≤ w1.heap.size ∧ w1.heap.size ≤ w2.heap.size ∧ Below w1.heap.size w1 w2) := ⟨hB2, HB1.out.size, hb2.size, hb2⟩
  clear hm2 hb2 hs2 hrow2 hB2 hO1
  go_wp2_with fail
  refine C2.mono ?_
  rintro e w3 ⟨z', S', tv, tg, rfl, hz3, _, hs3, hg3, hS3, hf3⟩
  have hzz : z' = ⟨3, [7], 0, []⟩ := hz3.2.2.1.det zsays_7
  subst hzz
  simp only [List.length_nil, List.drop_zero] at hs3
  obtain ⟨a3, c3, hv3, -⟩ := hs3.shape
  rw [vals_len] at hv3
  simp only [List.length_cons, List.length_nil, Nat.zero_add] at hv3
  subst hv3
  have hb13 : Below w1.heap.size w1 w3 := by
    have h := HB2.out.2.2.2
    exact ⟨hf3.os.trans h.os, hf3.tape.trans h.tape, hf3.output.trans h.output, Nat.le_trans h.size hf3.size, fun k hk => (hf3.block k (by have := h.size; omega) (fun e => by omega)).trans (h.block k hk)⟩
  have HB3 : Hid (Below w.heap.size w w3 ∧ Row w3 a1 [120, 1, 1, 1, 0, 254, 255, 7, 0, 8, 0, 8]) := ⟨HB1.out.trans (hb13.mono HB1.out.size), (HS1.out.1.row rfl).old hb13⟩
  have HX : Hid (Row w3 a3 [7] ∧ ZMem w1.heap.size w3 w1.heap.size 1 [120, 1, 1, 1, 0, 254, 255, 7, 0, 8, 0, 8] ⟨3, [7], 0, []⟩ S') := ⟨hs3.row rfl, hz3⟩
  clear C2 hz3 hs3 hg3 hS3 hf3 hb13 HB2
  have hn1 : Row (w3.alloc (.cells #[.int .u8 120, .int .u8 1, .int .u8 1, .int .u8 1, .int .u8 0, .int .u8 254, .int .u8 255, .int .u8 7, .int .u8 0, .int .u8 8, .int .u8 0, .int .u8 8] 5)) (some ⟨w3.heap.size, 0, none⟩) [120, 1, 1, 1, 0, 254, 255, 7, 0, 8, 0, 8] := row_lit w3 [120, 1, 1, 1, 0, 254, 255, 7, 0, 8, 0, 8]
  have C4 := same_any a1 (some ⟨w3.heap.size, 0, none⟩) 12 c1 12 [120, 1, 1, 1, 0, 254, 255, 7, 0, 8, 0, 8] _ rfl (HB3.out.2.alloc _) hn1
  clear hn1
  go_wp2_with fail
  refine C4.mono ?_
  rintro e w4 ⟨rfl, hw4⟩
  rw [hw4]
  clear hw4 C4
  obtain ⟨w5, hw5⟩ : ∃ w5, w3.alloc (.cells #[.int .u8 120, .int .u8 1, .int .u8 1, .int .u8 1, .int .u8 0, .int .u8 254, .int .u8 255, .int .u8 7, .int .u8 0, .int .u8 8, .int .u8 0, .int .u8 8] 5) = w5 := ⟨_, rfl⟩
  have hb5 : Below w3.heap.size w3 w5 := by rw [← hw5]; exact (Below.refl _ _).alloc (Nat.le_refl _) _
  rw [hw5]
  obtain ⟨adx, rfl, hcx⟩ := conv_one c3 (by decide) (HX.out.1.old hb5)
  have HDn := zdone_any (HX.out.2.old hb5)
  have e1 : (⟨#[UInt8.ofNat (7 : Int).toNat]⟩ : ByteArray) = ⟨#[7]⟩ := rfl
  rw [e1] at hcx
  have HB5 : Hid (Below w.heap.size w w5) := HB3.out.1.trans (hb5.mono HB3.out.1.size)
  clear hb5 hw5 HX HB3 e1 HS1 HB1 HO
  simp only at HDn
  go_wp2_with fail
  refine HDn.mono ?_
  rintro e w6 ⟨rfl, hw6⟩
  rw [hw6]
  clear hw6 HDn
  go_wp2
  go_ret
  exact ⟨rfl, HB5.out⟩
end Go.Proofs.YtloagniacjfkfaaGreatDoor
