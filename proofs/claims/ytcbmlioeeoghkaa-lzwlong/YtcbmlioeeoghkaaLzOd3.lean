/- LZW, the document's: a text is told, byte by byte. -/
import Derived.Test.YtcbmlioeeoghkaaLzOd2
namespace Go.Proofs.Ytcbmlioeeoghkaa
open Go.RowKit
section
variable {B : Nat} {w w' : World} {tv : Value} {tg og : Option Nat} {n : Nat} {f : Nat → List Int}
theorem TbM.at9 {a : Option Addr} {cp : Nat} (h : TbM B w (.slice a n cp) tg og n f) (i : Nat) (hi : i < n) : ∃ tb toff k off m c, a = some ⟨tb, toff, none⟩ ∧ w.cell? ⟨tb, toff + i, none⟩ = some (.slice (some ⟨k, off, none⟩) m c) ∧ (f i).length = m ∧ 1 ≤ m ∧ m ≤ c ∧ c ≤ 9223372036854775807 ∧ Row w (some ⟨k, off, none⟩) (f i) ∧ w.cell? ⟨k, off, none⟩ = some (.int .u8 ((f i)[0]?.getD 0)) ∧ (∃ cur, w.heap[k]? = some (.cells cur 5 (0, 0))) ∧ some k ≠ og := by
  obtain ⟨vs, h2, h3, h4⟩ := h.sl
  obtain ⟨k, off, m, c, e1, e2, e3, e4, e5, e6, e7, e8, e9⟩ := h4 i hi
  have ha : ∃ b off, a = some ⟨b, off, none⟩ := by
    rcases h2 with ⟨e, _, e2⟩ | ⟨b, off, cap, cur, e, _⟩
    · rw [e2] at h3; simp at h3; omega
    · simp at e; exact ⟨b, off, e.1⟩
  obtain ⟨tb, toff, rfl⟩ := ha
  have hc := h2.cell i (by omega)
  rw [e1] at hc
  refine ⟨tb, toff, k, off, m, c, rfl, hc, e2, e3, e4, e5, e6, ?_, e7, e8⟩
  rcases e6 with e | ⟨b', off', e, h9⟩
  · rw [e] at e2; simp at e2; omega
  · cases e
    exact h9 0 (by omega)
/-- Blocks of bytes and the table's own stay. -/
theorem TbM.tags {og' : Option Nat} (h : TbM B w tv tg og n f) (h5 : ∀ (k : Nat) (cur : Array Value), w.heap[k]? = some (.cells cur 5 (0, 0)) → some k ≠ og → w'.heap[k]? = w.heap[k]?) (ht : ∀ (k : Nat) (cur : Array Value), w.heap[k]? = some (.cells cur 22 (0, 0)) → w'.heap[k]? = w.heap[k]?) (ho : og' = og ∨ ∃ j, og' = some j ∧ w.heap.size ≤ j) : TbM B w' tv tg og' n f := by
  obtain ⟨vs, h1, h2, h3⟩ := h.sl
  refine ⟨⟨vs, h1.same fun k hk' => ?_, h2, fun i hi => ?_⟩, h.tn⟩
  · obtain ⟨c, hc⟩ := Sl.tagB9 h1 hk'
    exact ht k c hc
  obtain ⟨k, off, m, c, e1, e2, e3, e4, e5, e6, ⟨cur, e7⟩, e8, e9⟩ := h3 i hi
  have hkk := h5 k cur e7 e8
  refine ⟨k, off, m, c, e1, e2, e3, e4, e5, e6.same fun x hx _ => ?_, ⟨cur, hkk.trans e7⟩, ?_, e9⟩
  · cases hx; exact hkk
  · rcases ho with rfl | ⟨j, rfl, hj⟩
    · exact e8
    · intro e; cases e; have := lt_of_block e7; omega
end
/-- While a text is told. -/
structure OfI (w : World) (P6 P11 : Nat) (bs : List Int) (N : Nat) (f : Nat → List Int) (T : List Int) (kt offt : Nat) (out : List Int) (lv tv ov : Value) (lg tg og : Option Nat) (wr : World) : Prop where
  r6 : RC9 wr P6 (.slice none 0 0) (.slice none 0 0) 0 false
  r11 : RC9 wr P11 ov (.slice none 0 0) 0 false
  osl : Sl wr 5 ov og (vals out)
  lsl : Sl wr 3 lv lg (ivals bs)
  tb : TbM w.heap.size wr tv tg og N f
  be : Below w.heap.size w wr
  pb : w.heap.size ≤ P6 ∧ w.heap.size ≤ P11 ∧ P6 ≠ P11
  on : ∀ k, og = some k → w.heap.size ≤ k
  tx : Row wr (some ⟨kt, offt, none⟩) T
  tk : ∃ cur, wr.heap[kt]? = some (.cells cur 5 (0, 0))
  ok : some kt ≠ og
section
variable {w : World} {P6 P11 : Nat} {bs : List Int} {N : Nat} {f : Nat → List Int} {T : List Int} {kt offt : Nat} {out : List Int} {lv tv ov : Value} {lg tg og : Option Nat} {wr : World}
theorem OfI.og6 (h : OfI w P6 P11 bs N f T kt offt out lv tv ov lg tg og wr) : og ≠ some P6 ∧ og ≠ some P11 := by
  have h6 := h.r6
  have h11 := h.r11
  unfold RC9 at h6 h11
  refine ⟨fun e => ?_, fun e => ?_⟩
  · obtain ⟨c, hc⟩ := Sl.tagB9 h.osl e; rw [h6] at hc; simp at hc
  · obtain ⟨c, hc⟩ := Sl.tagB9 h.osl e; rw [h11] at hc; simp at hc
/-- A byte more. -/
theorem OfI.tell (h : OfI w P6 P11 bs N f T kt offt out lv tv ov lg tg og wr) {x : Int} {v7 : Value} {w7 : World} {g7 : Option Nat} (hs : Sl w7 5 v7 g7 (vals (out ++ [x]))) (hg : g7 = og ∨ ∃ k, g7 = some k ∧ (wr.alloc (.cells #[.int .u8 x] 5)).heap.size ≤ k) (hgr : (wr.alloc (.cells #[.int .u8 x] 5)).grownBy w7 og) :
    RC9 w7 P11 ov (.slice none 0 0) 0 false ∧ OfI w P6 P11 bs N f T kt offt (out ++ [x]) lv tv v7 lg tg g7 (w7.setCell ⟨P11, 0, none⟩ v7) := by
  obtain ⟨p1, p2, p3⟩ := h.pb
  obtain ⟨g1, g2⟩ := h.og6
  have hsz : (wr.alloc (.cells #[.int .u8 x] 5)).heap.size = wr.heap.size + 1 := by simp
  have hk7 : ∀ k, k < wr.heap.size → some k ≠ og → w7.heap[k]? = wr.heap[k]? := fun k hk hn => (hgr.block k (by omega) hn).trans (Below.heap_alloc _ _ _ hk)
  have l6 := lt_of_block h.r6
  have l11 := lt_of_block h.r11
  have r11' : RC9 w7 P11 ov (.slice none 0 0) 0 false := h.r11.of (hk7 P11 l11 (fun e => g2 e.symm))
  have r6' : RC9 w7 P6 (.slice none 0 0) (.slice none 0 0) 0 false := h.r6.of (hk7 P6 l6 (fun e => g1 e.symm))
  have hk8 : ∀ k, k < wr.heap.size → some k ≠ og → k ≠ P11 → (w7.setCell ⟨P11, 0, none⟩ v7).heap[k]? = wr.heap[k]? := fun k hk hn h11 => (Below.heap_setCell _ _ _ _ h11).trans (hk7 k hk hn)
  have hz8 : (w7.setCell ⟨P11, 0, none⟩ v7).heap.size = w7.heap.size := by simp [World.setCell]
  have hz7 := hgr.size
  have hws := h.be.size
  have n11 : ∀ (k : Nat) (t : TypeId) (cur : Array Value), wr.heap[k]? = some (.cells cur t (0, 0)) → t ≠ 30 → k ≠ P11 := fun k t cur hk ht e => by
    have h11 := h.r11
    unfold RC9 at h11
    rw [e, h11] at hk
    simp at hk
    exact ht hk.2.symm
  have hog5 : ∀ (k : Nat) (t : TypeId) (cur : Array Value), wr.heap[k]? = some (.cells cur t (0, 0)) → t ≠ 5 → some k ≠ og := fun k t cur hk ht e => by
    obtain ⟨c, hc⟩ := Sl.tagB9 h.osl e.symm
    rw [hk] at hc
    simp at hc
    exact ht hc.2
  have hgo : g7 = og ∨ ∃ j, g7 = some j ∧ wr.heap.size ≤ j := hg.imp_right fun ⟨j, e, hj⟩ => ⟨j, e, by omega⟩
  refine ⟨r11', ⟨?_, r11'.set0 v7, ?_, ?_, ?_, ?_, h.pb, ?_, ?_, ?_, ?_⟩⟩
  · exact r6'.of (Below.heap_setCell _ _ _ _ p3)
  · refine hs.same fun k hk => Below.heap_setCell _ _ _ _ (fun (e : k = P11) => ?_)
    obtain ⟨c, hc⟩ := Sl.tagB9 hs hk
    unfold RC9 at r11'
    rw [e, r11'] at hc
    simp at hc
  · refine h.lsl.same fun k hk => ?_
    obtain ⟨c, hc⟩ := Sl.tagB9 h.lsl hk
    exact hk8 k (lt_of_block hc) (hog5 k 3 c hc (by decide)) (n11 k 3 c hc (by decide))
  · exact h.tb.tags (fun k cur hk hn => hk8 k (lt_of_block hk) hn (n11 k 5 cur hk (by decide))) (fun k cur hk => hk8 k (lt_of_block hk) (hog5 k _ cur hk (by decide)) (n11 k _ cur hk (by decide))) hgo
  · refine ⟨hgr.os.trans h.be.os, hgr.tape.trans h.be.tape, hgr.output.trans h.be.output, by omega, fun k hk => ?_⟩
    exact (hk8 k (by omega) (fun e => by have := h.on k e.symm; omega) (by omega)).trans (h.be.block k hk)
  · intro k hk
    rcases hgo with e | ⟨j, e, hj⟩
    · exact h.on k (e.symm.trans hk)
    · rw [e] at hk; cases hk; omega
  · obtain ⟨cur, hc⟩ := h.tk
    exact h.tx.same fun y hy _ => by cases hy; exact hk8 kt (lt_of_block hc) h.ok (n11 kt 5 cur hc (by decide))
  · obtain ⟨cur, hc⟩ := h.tk
    exact ⟨cur, (hk8 kt (lt_of_block hc) h.ok (n11 kt 5 cur hc (by decide))).trans hc⟩
  · obtain ⟨cur, hc⟩ := h.tk
    rcases hgo with e | ⟨j, e, hj⟩
    · rw [e]; exact h.ok
    · rw [e]; intro e2; cases e2; have := lt_of_block hc; omega
/-- The run ends, with an error. -/
theorem OfI.stop (h : OfI w P6 P11 bs N f T kt offt out lv tv ov lg tg og wr) (E : Int) (s : Lz) (ho : s.out = out) (hr : s.rest = []) (he : (if s.k = 0 then 2 else s.er) = E) (hd : s.k ≠ 1) {ao : Option Addr} {co : Nat} (hov : ov = .slice ao out.length co) :
    RC9 (wr.setCell ⟨P11, 2, none⟩ (.int .i64 E)) P11 ov (.slice none 0 0) E false ∧ RC9 (wr.setCell ⟨P11, 2, none⟩ (.int .i64 E)) P6 (.slice none 0 0) (.slice none 0 0) 0 false ∧ RC9 (lay4 (wr.setCell ⟨P11, 2, none⟩ (.int .i64 E)) P6 ov (.slice none 0 0) E false) P6 ov (.slice none 0 0) E false ∧
    OfP w s (.returned (.agg #[ov, .slice none 0 0, .int .i64 E, .bool false])) (lay4 (wr.setCell ⟨P11, 2, none⟩ (.int .i64 E)) P6 ov (.slice none 0 0) E false) := by
  obtain ⟨p1, p2, p3⟩ := h.pb
  obtain ⟨g1, g2⟩ := h.og6
  have h11 : RC9 wr P11 ov (.slice none 0 0) 0 false := h.r11
  have h6 : RC9 (wr.setCell ⟨P11, 2, none⟩ (.int .i64 E)) P6 (.slice none 0 0) (.slice none 0 0) 0 false := (Below.heap_setCell _ _ _ _ p3).trans h.r6
  have hz : (wr.setCell ⟨P11, 2, none⟩ (.int .i64 E)).heap.size = wr.heap.size := by simp [World.setCell]
  have hb : Below w.heap.size w (wr.setCell ⟨P11, 2, none⟩ (.int .i64 E)) := ⟨h.be.os, h.be.tape, h.be.output, by rw [hz]; exact h.be.size, fun k hk => by rw [Below.heap_setCell _ _ _ _ (by show k ≠ P11; omega)]; exact h.be.block k hk⟩
  refine ⟨h11.set2 E, h6, lay4_run h6 _ _ _ _, ?_⟩
  obtain ⟨a', c', hv, hl1, hl2, hl3⟩ := h.osl.shape
  rw [vals_len] at hv hl1
  unfold maxLen at hl2
  rw [hov] at hv
  simp only [Value.slice.injEq, true_and] at hv
  obtain ⟨rfl, rfl⟩ := hv
  have hsl : Sl (lay4 (wr.setCell ⟨P11, 2, none⟩ (.int .i64 E)) P6 ov (.slice none 0 0) E false) 5 ov og (vals out) := h.osl.same fun k hk => by
    rw [lay4_heap _ _ _ _ _ _ (fun e => g1 (by rw [hk, e]))]
    exact Below.heap_setCell _ _ _ _ (fun (e : k = P11) => g2 (by rw [hk, e]))
  refine ⟨ao, co, none, 0, ?_, ?_, by rw [hr]; exact .inl rfl, ?_, by omega, hl3, lay4_below hb P6 p1 _ _ _ _⟩
  · rw [ho, hr, he, hov]
    have : (s.k == 1) = false := by simpa using hd
    rw [this]; rfl
  · rw [ho]; exact hsl.row hov
  · rw [ho]; exact hl1
theorem OfI.at (h : OfI w P6 P11 bs N f T kt offt out lv tv ov lg tg og wr) {i : Nat} (hi : i < T.length) : wr.cell? ⟨kt, offt + i, none⟩ = some (.int .u8 (T[i]?.getD 0)) := by
  rcases h.tx with e | ⟨b, off, e, h9⟩
  · rw [e] at hi; simp at hi
  · cases e; exact h9 i hi
/-- What a text tells that there is no room for. -/
theorem lzT_more {zs : List Int} {P lm : Nat} {fs fs2 : List Tx} {ah : Int} {out T : List Int} {c i : Nat} (hi : i < T.length) (hl : out.length + i = lm) : (lzT (lzAt zs P (lm - out.length) fs ah out) fs2 c T).out = out ++ T.take i ∧ (lzT (lzAt zs P (lm - out.length) fs ah out) fs2 c T).k = 2 ∧ (lzT (lzAt zs P (lm - out.length) fs ah out) fs2 c T).er = 9 ∧ (lzT (lzAt zs P (lm - out.length) fs ah out) fs2 c T).rest = [] := by
  have e : lm - out.length = i := by omega
  unfold lzT
  rw [if_neg (by show ¬ T.length ≤ lm - out.length; omega)]
  refine ⟨?_, rfl, rfl, rfl⟩
  show out ++ T.take (lm - out.length) = _
  rw [e]
theorem lzT_room {zs : List Int} {P lm : Nat} {fs fs2 : List Tx} {ah : Int} {out T : List Int} {c : Nat} (hl : out.length + T.length ≤ lm) : lzT (lzAt zs P (lm - out.length) fs ah out) fs2 c T = lzAt zs P (lm - (out ++ T).length) fs2 c (out ++ T) := by
  unfold lzT
  rw [if_pos (by show T.length ≤ lm - out.length; omega)]
  show (⟨0, (lm - out.length) - T.length, fs2, c, zs.drop (P / 8), P % 8, 0, out ++ T, []⟩ : Lz) = ⟨0, lm - (out ++ T).length, fs2, c, zs.drop (P / 8), P % 8, 0, out ++ T, []⟩
  rw [List.length_append, Nat.sub_sub]
end
/-- A code's text: what is learnt with it. -/
theorem flw_text {L : Nat} {fs fs2 : List Tx} {ah : Int} {c : Nat} (hwf : WfT L fs) (hct : fcN L + fs.length ≤ 4096) (hahd : ah = -1 ∨ ∃ A : Nat, ah = (A : Int) ∧ A < fcN L + fs.length) (hc4 : c < 4096) (hfl : flwN L fs ah c = some fs2) :
    ∃ yT, (txC L fs2 c)[0]? = some yT ∧ (ah = -1 → fs2 = fs ∧ c < 2 ^ L) ∧ (∀ A : Nat, ah = (A : Int) → fs2 = lrnP L fs A yT) ∧ (c < fcN L + fs.length → txC L fs2 c = txC L fs c) ∧
      (¬ c < fcN L + fs.length → ∃ A : Nat, ah = (A : Int) ∧ A < fcN L + fs.length ∧ c = fcN L + fs.length ∧ txC L fs2 c = txC L fs A ++ [yT] ∧ (txC L fs A)[0]? = some yT) := by
  obtain ⟨o1, o2, o3⟩ := flwN_ok hwf hct hahd hc4 hfl
  obtain ⟨yT, hyT⟩ : ∃ yT, (txC L fs2 c)[0]? = some yT := by
    have h1 := (txC_bytes o1 c o3).2
    exact ⟨(txC L fs2 c)[0], List.getElem?_eq_getElem (by omega)⟩
  refine ⟨yT, hyT, ?_⟩
  rcases hahd with hah | ⟨A, hah, hAl⟩
  · unfold flwN at hfl
    rw [if_pos hah] at hfl
    split at hfl
    · cases hfl
    · injection hfl with hfl
      subst hfl
      have hr : c < 2 ^ L := by omega
      refine ⟨fun _ => ⟨rfl, hr⟩, fun A h => by omega, fun _ => rfl, fun h => ?_⟩
      exfalso; apply h; unfold fcN; omega
  · unfold flwN at hfl
    rw [hah, if_neg (by omega), Int.toNat_natCast] at hfl
    by_cases hcN : c < fcN L + fs.length
    · rw [if_pos hcN] at hfl
      injection hfl with hfl
      have ht2 : txC L fs2 c = txC L fs c := by
        rw [← hfl, lrnP_lrnN]
        unfold lrnP
        split
        · exact tx_app hwf _ c hcN
        · rfl
      have hh := tx_head hwf c hcN
      rw [← ht2, hyT] at hh
      simp only [Option.some.injEq] at hh
      refine ⟨fun h => by omega, fun A' h => ?_, fun _ => ht2, fun h => absurd hcN h⟩
      obtain rfl : A = A' := by omega
      rw [← hfl, ← hh, lrnP_lrnN]
    · rw [if_neg hcN] at hfl
      split at hfl
      · rename_i hceN
        injection hfl with hfl
        have hh := tx_head hwf A hAl
        have hne := (txC_bytes hwf A hAl).2
        have hroom : fs.length < 4096 - fcN L := by omega
        have hf2 : fs2 = fs ++ [(A, (fsC L fs A : Int) % 256)] := by
          rw [← hfl, lrnP_lrnN]; unfold lrnP; rw [if_pos hroom]
        have hT2 : txC L fs2 c = txC L fs A ++ [(fsC L fs A : Int) % 256] := by
          rw [hceN, hf2]
          rw [tx_last (by rw [← hf2]; exact o1) (show (fs ++ [(A, (fsC L fs A : Int) % 256)])[fs.length]? = some (A, (fsC L fs A : Int) % 256) by simp), tx_app hwf _ A hAl]
        have hy : yT = (fsC L fs A : Int) % 256 := by
          rw [hT2, List.getElem?_append_left (by omega), hh] at hyT
          simp only [Option.some.injEq] at hyT
          exact hyT.symm
        refine ⟨fun h => by omega, fun A' h => ?_, fun h => absurd h hcN, fun _ => ⟨A, hah, hAl, hceN, by rw [hT2, hy], by rw [hh, hy]⟩⟩
        obtain rfl : A = A' := by omega
        rw [hf2, hy]
        unfold lrnP
        rw [if_pos hroom]
      · cases hfl
section
variable {w : World} {L P6 P11 lim : Nat} {zs : List Int} {P : Nat} {fs : List Tx} {ah : Int} {out : List Int} {lv0 lv tv tv2 ov : Value} {lg0 lg tg tg2 og : Option Nat} {wd we wf : World}
theorem OfI.of {bs T : List Int} {N2 kt offt : Nat} {f2 : Nat → List Int} (h : OfR w L P6 P11 lim zs P fs ah out lv0 tv ov lg0 tg og wd) (hl : Sl wd 3 lv lg (ivals bs)) (hb : Below wd.heap.size wd we) (hk : ∀ k, k < we.heap.size → some k ≠ tg → wf.heap[k]? = we.heap[k]?) (hos : wf.os = we.os) (hta : wf.tape = we.tape) (hou : wf.output = we.output) (hsz : we.heap.size ≤ wf.heap.size)
    (htb : TbM w.heap.size wf tv2 tg2 og N2 f2) (hx : Row we (some ⟨kt, offt, none⟩) T) (hxk : ∃ cur, we.heap[kt]? = some (.cells cur 5 (0, 0))) (hxo : some kt ≠ og) : OfI w P6 P11 bs N2 f2 T kt offt out lv tv2 ov lg tg2 og wf := by
  obtain ⟨vs, v1, -⟩ := h.tb.sl
  have hbs := hb.size
  have hn : ∀ (k : Nat) (t : TypeId) (cur : Array Value), we.heap[k]? = some (.cells cur t (0, 0)) → t ≠ 22 → some k ≠ tg := fun k t cur hk ht e => by
    obtain ⟨c, hc⟩ := Sl.tagB9 v1 e.symm
    rw [← hb.block k (v1.lt e.symm), hk] at hc
    simp at hc
    exact ht hc.2
  have hkk : ∀ (k : Nat) (t : TypeId) (cur : Array Value), wd.heap[k]? = some (.cells cur t (0, 0)) → t ≠ 22 → wf.heap[k]? = wd.heap[k]? := fun k t cur hk' ht => by
    have hl := lt_of_block hk'
    have e := hb.block k hl
    exact (hk k (by omega) (hn k t cur (e.trans hk') ht)).trans e
  refine ⟨(hkk P6 _ _ h.r6 (by decide)).trans h.r6, (hkk P11 _ _ h.r11 (by decide)).trans h.r11, h.osl.same fun k hk' => ?_, hl.same fun k hk' => ?_, htb, ⟨hos.trans (hb.os.trans h.be.os), hta.trans (hb.tape.trans h.be.tape), hou.trans (hb.output.trans h.be.output), by have := h.be.size; omega, fun k hk' => ?_⟩, h.pb, h.on, hx.same fun y hy _ => ?_, ?_, hxo⟩
  · obtain ⟨c, hc⟩ := Sl.tagB9 h.osl hk'
    exact hkk k 5 c hc (by decide)
  · obtain ⟨c, hc⟩ := Sl.tagB9 hl hk'
    exact hkk k 3 c hc (by decide)
  · have hws := h.be.size
    exact (hk k (by omega) (fun e => by have := h.tb.tn k e.symm; omega)).trans ((hb.block k (by omega)).trans (h.be.block k hk'))
  · obtain ⟨cur, hc⟩ := hxk
    cases hy
    exact hk kt (lt_of_block hc) (hn kt 5 cur hc (by decide))
  · obtain ⟨cur, hc⟩ := hxk
    exact ⟨cur, (hk kt (lt_of_block hc) (hn kt 5 cur hc (by decide))).trans hc⟩
end
end Go.Proofs.Ytcbmlioeeoghkaa
