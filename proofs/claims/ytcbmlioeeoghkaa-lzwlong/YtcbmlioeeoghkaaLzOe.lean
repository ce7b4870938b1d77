/- LZW, the document's: Of, walked. -/
import Derived.Test.YtcbmlioeeoghkaaLzOd
import Derived.Test.YtcbmlioeeoghkaaLzOc2
import Derived.Test.YtcbmlioeeoghkaaLzOd2
import Derived.Test.YtcbmlioeeoghkaaLzOd3
import Derived.Deep.DeepCutAuto
import Derived.Deep.CutBlock
import Derived.Deep.RegionLaw
namespace Go.Proofs.Ytcbmlioeeoghkaa
open Go.RowKit
/-- A slice's length. -/
def slN (v : Value) : Nat := match v with | .slice _ n _ => n | _ => 0
theorem gw_of {g : Option Nat} {X Y B : Nat} (h : g = some X ∨ ∃ k, g = some k ∧ Y ≤ k) (h1 : B ≤ X) (h2 : B ≤ Y) : ∀ k, g = some k → B ≤ k := by
  intro k hk
  rcases h with e | ⟨j, e, hj⟩
  · rw [e] at hk; cases hk; exact h1
  · rw [e] at hk; cases hk; omega
theorem cell_new9 (w : World) (u : Value) : (w.alloc (.cells #[u] 22)).cell? ⟨w.heap.size, 0, none⟩ = some u := by
  have := heap_alloc_new w (.cells #[u] 22)
  simp only [World.cell?]
  rw [this]
  rfl
theorem row_oneO (w : World) (z : Int) : Row (w.alloc (.cells #[.int .u8 z] 5)) (some ⟨w.heap.size, 0, none⟩) [z] := by
  refine .inr ⟨w.heap.size, 0, rfl, fun i hi => ?_⟩
  obtain rfl : i = 0 := by simp at hi; omega
  have := heap_alloc_new w (.cells #[.int .u8 z] 5)
  simp only [World.cell?]
  rw [this]
  rfl
theorem Sl.some9 {w : World} {v : Value} {g : Option Nat} {zs : List Int} (h : Sl w 5 v g (vals zs)) (h1 : 1 ≤ zs.length) : ∃ k off c, v = .slice (some ⟨k, off, none⟩) zs.length c ∧ zs.length ≤ c ∧ c ≤ 9223372036854775807 ∧ g = some k ∧ Row w (some ⟨k, off, none⟩) zs ∧ ∃ cur, w.heap[k]? = some (.cells cur 5 (0, 0)) := by
  have hs := h
  rcases h with ⟨_, _, h⟩ | ⟨b, off, cap, cur, hv, hg, hh, _, h3, h4, _⟩
  · have := congrArg List.length h; rw [vals_len, List.length_nil] at this; omega
  · rw [vals_len] at hv h3
    unfold maxLen at h4
    exact ⟨b, off, cap, hv, h3, by omega, hg, hs.row hv, cur, hh⟩
/-- While the table is made. -/
structure OfT (w w1 : World) (P6 : Nat) (bits : List Int) (lv : Value) (lg : Option Nat) (i : Nat) (tv : Value) (tg : Option Nat) (wr : World) : Prop where
  tb : TbM w.heap.size wr tv tg none i (fun c => [(c : Int) % 256])
  be : Below w1.heap.size w1 wr
theorem OfT.next {w w1 : World} {P6 : Nat} {bits : List Int} {lv : Value} {lg : Option Nat} {i : Nat} {tv : Value} {tg : Option Nat} {wr : World} (hw : w.heap.size ≤ w1.heap.size) (h : OfT w w1 P6 bits lv lg i tv tg wr) (ht1 : ∀ k, tg = some k → w1.heap.size ≤ k) {vs : List Value} (hs : Sl wr 22 tv tg vs ∧ vs.length = i ∧ ∀ j, j < i → ∃ k off m c, vs[j]? = some (.slice (some ⟨k, off, none⟩) m c) ∧ ([(j : Int) % 256]).length = m ∧ 1 ≤ m ∧ m ≤ c ∧ c ≤ 9223372036854775807 ∧ Row wr (some ⟨k, off, none⟩) [(j : Int) % 256] ∧ (∃ cur, wr.heap[k]? = some (.cells cur 5 (0, 0))) ∧ some k ≠ (none : Option Nat) ∧ w.heap.size ≤ k)
    {W v' : _} {w7 : World} {g7 : Option Nat} (hW : (wr.alloc (.cells #[.int .u8 ((i : Int) % 256)] 5)).alloc (.cells #[.slice (some ⟨wr.heap.size, 0, none⟩) 1 1] 22) = W) (h1 : Sl w7 22 v' g7 (vs ++ [.slice (some ⟨wr.heap.size, 0, none⟩) 1 1])) (h2 : g7 = tg ∨ ∃ k, g7 = some k ∧ W.heap.size ≤ k) (h3 : W.grownBy w7 tg) : OfT w w1 P6 bits lv lg (i + 1) v' g7 w7 ∧ ∀ k, g7 = some k → w1.heap.size ≤ k := by
  obtain ⟨q1, q2, q3⟩ := hs
  have hbW : Below wr.heap.size wr W := by rw [← hW]; exact ((Below.refl _ wr).alloc (Nat.le_refl _) _).alloc (by simp) _
  have hsW : W.heap.size = wr.heap.size + 2 := by rw [← hW]; simp
  have hs1 := h.be.size
  have hnew : W.heap[wr.heap.size]? = some (.cells #[.int .u8 ((i : Int) % 256)] 5 (0, 0)) := by rw [← hW, Below.heap_alloc _ _ _ (by simp)]; exact heap_alloc_new _ _
  have hb7 : ∀ k, k < W.heap.size → some k ≠ tg → w7.heap[k]? = W.heap[k]? := h3.block
  have hkw : ∀ k, k < wr.heap.size → some k ≠ tg → w7.heap[k]? = wr.heap[k]? := fun k hk hn => (hb7 k (by omega) hn).trans (hbW.block k hk)
  have htt : ∀ k cur, wr.heap[k]? = some (.cells cur 5 (0, 0)) → some k ≠ tg := fun k cur hk e => by
    obtain ⟨c, hc⟩ := Sl.tagB9 q1 e.symm; rw [hk] at hc; simp at hc
  have hnt : some wr.heap.size ≠ tg := fun e => by have := q1.lt e.symm; omega
  have h7n : w7.heap[wr.heap.size]? = some (.cells #[.int .u8 ((i : Int) % 256)] 5 (0, 0)) := (hb7 _ (by omega) hnt).trans hnew
  have hg7 : ∀ k, g7 = some k → w1.heap.size ≤ k := fun k hk => by
    rcases h2 with e | ⟨j, e, hj⟩
    · exact ht1 k (e.symm.trans hk)
    · rw [e] at hk; cases hk; omega
  refine ⟨⟨?_, ?_⟩, hg7⟩
  · have := TbM.push (B := w.heap.size) (w := w7) (og := none) (n := i) (f := fun c => [(c : Int) % 256]) (vs := vs) (t := [(i : Int) % 256]) (k := wr.heap.size) (off := 0) (m := 1) (c := 1) (fun j hj => ?_) q2 h1 rfl rfl (Nat.le_refl _) (Nat.le_refl _) (by decide) (.inr ⟨wr.heap.size, 0, rfl, fun l hl => ?_⟩) ⟨_, h7n⟩ (by simp) (by omega) (fun k hk => Nat.le_trans hw (hg7 k hk))
    · refine this.congr fun j hj => ?_
      by_cases e : j < i
      · simp only [if_pos e]
      · obtain rfl : j = i := by omega
        simp only [Nat.lt_irrefl, if_false]
    · obtain ⟨k, off, m, c, e1, e2, e3, e4, e5, e6, ⟨cur, e7⟩, e8, e9⟩ := q3 j hj
      have hk7 := hkw k (lt_of_block e7) (htt k cur e7)
      exact ⟨k, off, m, c, e1, e2, e3, e4, e5, e6.same fun x hx _ => by cases hx; exact hk7, ⟨cur, hk7.trans e7⟩, e8, e9⟩
    · obtain rfl : l = 0 := by simp at hl; omega
      simp [World.cell?, h7n]
  · exact ⟨h3.os.trans (hbW.os.trans h.be.os), h3.tape.trans (hbW.tape.trans h.be.tape), h3.output.trans (hbW.output.trans h.be.output), by have := h3.size; omega, fun k hk => (hkw k (by omega) (fun e => by have := ht1 k e.symm; omega)).trans (h.be.block k hk)⟩
set_option maxHeartbeats 64000000 in
set_option maxRecDepth 100000 in
theorem rof9_try {a : Option Addr} {n cap L : Nat} {lim : Int} {zs : List Int} {w : World} (hL : 2 ≤ L ∧ L ≤ 8) (hn : zs.length = n) (hn3 : n ≤ 30000) (hby : Bytes zs) (hrow : Row w a zs) (_hlim : lim ≤ 9223372036854775807) :
    Calls Try.prog 12 #[.slice a n cap, .int .i64 L, .int .i64 lim] w fun e w' => OfP w (lzO L lim.toNat zs) e w' := by
  have hP := fc_bd hL
  obtain ⟨lm, hlm⟩ : ∃ lm, lim.toNat = lm := ⟨_, rfl⟩
  rw [hlm]
  have HLM : Hid (lim.toNat = lm) := hlm
  obtain ⟨w0, hw0⟩ : ∃ w0, w.alloc (.cells #[.slice none 0 0, .slice none 0 0, .int .i64 0, .bool false] 30) = w0 := ⟨_, rfl⟩
  have hb0 : Below w.heap.size w w0 := by rw [← hw0]; exact (Below.refl _ _).alloc (Nat.le_refl _) _
  have hr0 : RC9 w0 w.heap.size (.slice none 0 0) (.slice none 0 0) 0 false := by rw [← hw0]; exact heap_alloc_new _ _
  have C1 := bits_any a n cap zs w0 hn hn3 hby (hrow.old hb0)
  have HA : Hid (zs.length = n ∧ Bytes zs ∧ Below w.heap.size w w0 ∧ RC9 w0 w.heap.size (.slice none 0 0) (.slice none 0 0) 0 false) := ⟨hn, hby, hb0, hr0⟩
  obtain ⟨P6, hP6⟩ : ∃ P6, w.heap.size = P6 := ⟨_, rfl⟩
  have HP6 : Hid (w.heap.size = P6) := hP6
  have h2l : ¬ (L : Int) < 2 := by omega
  have h8l : ¬ 8 < (L : Int) := by omega
  have hL1 : (1 : Int) ≤ (L : Int) := by omega
  have hL16 : (L : Int) ≤ 16 := by omega
  obtain ⟨Pw, hPw⟩ : ∃ Pw : Nat, 2 ^ L = Pw := ⟨_, rfl⟩
  have HPw : Hid (2 ^ L = Pw) := hPw
  have hPi : (2 : Int) ^ L = (Pw : Int) := by rw [← hPw]; simp
  have hLt : (L : Int).toNat = L := by simp
  rw [hPw] at hP
  clear hn hby hrow hb0 hr0 hlm hPw
  go_enter Try.func12, Try.ntmps12
  go_wp2_with fail
  clear hw0
  refine C1.mono ?_
  clear C1
  rintro e w1 ⟨la, lc, lg, rfl, hl1, hlg1, hb1⟩
  have hbl : (bitsL zs).length = 8 * n := by rw [bitsL_len, HA.out.1]
  have HB1 : Hid (Below w.heap.size w w1 ∧ RC9 w1 P6 (.slice none 0 0) (.slice none 0 0) 0 false ∧ Sl w1 3 (.slice la (8 * n) lc) lg (ivals (bitsL zs)) ∧ P6 < w1.heap.size) := by
    have h := HA.out.2.2
    have hr := h.2.of (hb1.block _ (lt_of_block h.2))
    rw [HP6.out] at hr
    exact ⟨h.1.trans (hb1.mono h.1.size), hr, by rw [← hbl]; exact hl1, lt_of_block hr⟩
  rw [hbl]
  clear hl1 hlg1 hb1 hbl hP6
  have HT0 : Hid (OfT w w1 P6 (bitsL zs) (.slice la (8 * n) lc) lg 0 (.slice none 0 0) none w1) := ⟨⟨⟨[], Sl.nil _ _, rfl, fun i hi => absurd hi (Nat.not_lt_zero _)⟩, (fun k hk => by cases hk)⟩, Below.refl _ _⟩
  go_wp2
  go_loopw [9, 10, 30, 31, 32, 33, 34, 35, 36, 37, 38, 39, 40, 41] (fun tv v10 _ _ _ _ _ _ _ _ _ _ _ _ wr => ∃ (i : Nat) (tg : Option Nat), v10 = .int .i64 (i : Int) ∧ i ≤ Pw + 2 ∧ Hid (OfT w w1 P6 (bitsL zs) (.slice la (8 * n) lc) lg i tv tg wr ∧ ∀ k, tg = some k → w1.heap.size ≤ k)) (fun _ v10 _ _ _ _ _ _ _ _ _ _ _ _ _ => Pw + 2 - (intOf v10).toNat)
  case atStart => exact ⟨0, none, rfl, Nat.zero_le _, HT0.out, (fun k hk => by cases hk)⟩
  case round =>
    clear HT0
    obtain ⟨i, tg, rfl, hi, HT⟩ := hrel
    by_cases hlt : i < Pw + 2
    · as_aux_lemma =>
      have hltI : (i : Int) < (Pw : Int) + 2 := by omega
      obtain ⟨vs, q1, q2, q3⟩ := HT.out.1.tb.sl
      obtain ⟨ta, tc, htv, -⟩ := q1.shape
      rw [q2] at htv
      have HQ : Hid (Sl wr 22 (.slice ta i tc) tg vs ∧ vs.length ≤ 1000000) := ⟨by rw [← htv]; exact q1, by omega⟩
      have hi0 : (0 : Int) ≤ (i : Int) := by omega
      obtain ⟨W2, hW2⟩ : ∃ W2, (wr.alloc (.cells #[.int .u8 ((i : Int) % 256)] 5)).alloc (.cells #[.slice (some ⟨wr.heap.size, 0, none⟩) 1 1] 22) = W2 := ⟨_, rfl⟩
      have HW2 : Hid (Sl W2 22 (.slice ta i tc) tg vs ∧ W2.cell? ⟨wr.heap.size + 1, 0, none⟩ = some (.slice (some ⟨wr.heap.size, 0, none⟩) 1 1)) := by
        rw [← hW2]
        refine ⟨HQ.out.1.same fun k hk => (Below.heap_alloc _ _ _ (by have := HQ.out.1.lt hk; simp; omega)).trans (Below.heap_alloc _ _ _ (HQ.out.1.lt hk)), ?_⟩
        have := heap_alloc_new (wr.alloc (.cells #[.int .u8 ((i : Int) % 256)] 5)) (.cells #[.slice (some ⟨wr.heap.size, 0, none⟩) 1 1] 22)
        rw [World.size_alloc] at this
        simp only [World.cell?]
        rw [this]
        rfl
      have HN : Hid (∀ v7 w7 g7, Sl w7 22 v7 g7 (vs ++ [.slice (some ⟨wr.heap.size, 0, none⟩) 1 1]) → (g7 = tg ∨ ∃ k, g7 = some k ∧ W2.heap.size ≤ k) → W2.grownBy w7 tg → OfT w w1 P6 (bitsL zs) (.slice la (8 * n) lc) lg (i + 1) v7 g7 w7 ∧ ∀ k, g7 = some k → w1.heap.size ≤ k) :=
        fun v7 w7 g7 h1 h2 h3 => HT.out.1.next HB1.out.1.size HT.out.2 ⟨q1, q2, q3⟩ hW2 h1 h2 h3
      subst htv
      clear q1 q2 q3 HT
      go_wp2_with (at_builtin; refine wpList_push_row rfl _ _ rfl (.slice ta i tc) tg vs rfl HW2.out.1 (wr.heap.size + 1) 1 (.slice (some ⟨wr.heap.size, 0, none⟩) 1 1) rfl HW2.out.2 rfl HQ.out.2 ?_; intro v7 w7 g7 hs7 hg7 hgr7; have HN7 := HN.out v7 w7 g7 hs7 hg7 hgr7; obtain ⟨a7, c7, hv7, -⟩ := hs7.shape; generalize (vs ++ [Value.slice (some ⟨wr.heap.size, 0, none⟩) 1 1]).length = z7 at hv7; subst hv7; have HN8 : Hid (OfT w w1 P6 (bitsL zs) (.slice la (8 * n) lc) lg (i + 1) (.slice a7 z7 c7) g7 w7 ∧ ∀ k, g7 = some k → w1.heap.size ≤ k) := HN7; clear hs7 hg7 hgr7 HN7 hW2)
      go_roundw
      case rel => exact ⟨i + 1, g7, by go_num, by omega, HN8.out⟩
      case measure => simp [intOf]; omega
    · obtain rfl : i = Pw + 2 := by omega
      obtain ⟨P11, hP11⟩ : ∃ P11, wr.heap.size = P11 := ⟨_, rfl⟩
      obtain ⟨w2, hw2⟩ : ∃ w2, wr.alloc (.cells #[.slice none 0 0, .slice none 0 0, .int .i64 0, .bool false] 30) = w2 := ⟨_, rfl⟩
      obtain ⟨vs, q1, q2, q3⟩ := HT.out.1.tb.sl
      obtain ⟨ta, tc, htv, -⟩ := q1.shape
      rw [q2] at htv
      have HR0 : Hid (OfR w L P6 P11 lm zs 0 [] (-1) [] (.slice la (8 * n) lc) (.slice ta (Pw + 2) tc) (.slice none 0 0) lg tg none w2) := by
        have hb2 : Below wr.heap.size wr w2 := by rw [← hw2]; exact (Below.refl _ _).alloc (Nat.le_refl _) _
        have hT := HT.out.1.tb.old hb2
        rw [htv] at hT
        have hbe := HT.out.1.be
        have hb12 : Below w1.heap.size w1 w2 := hbe.trans (hb2.mono hbe.size)
        have hsz := hbe.size
        have h1 := HB1.out
        have h6 := HP6.out
        have hFe : fcN L = Pw + 2 := by unfold fcN; rw [HPw.out]
        refine ⟨(hb12.block _ h1.2.2.2).trans h1.2.1, by rw [← hw2, ← hP11]; exact heap_alloc_new _ _, Sl.nil _ _, ?_, ?_, h1.1.trans (hb12.mono h1.1.size), ⟨by omega, by have := h1.1.size; omega, by have := h1.2.2.2; omega⟩, (fun k hk => by cases hk), Nat.zero_le _, WfT.nil L, by rw [hFe]; simp; omega, .inl rfl, Nat.zero_le _, ?_⟩
        · rw [List.drop_zero]; exact h1.2.2.1.same fun k hk => hb12.block k (h1.2.2.1.lt hk)
        · have e : fcN L + ([] : List Tx).length = Pw + 2 := by rw [hFe]; rfl
          rw [e]
          exact hT.congr fun c hc => by rw [txC_root (by omega)]
        · rfl
      subst htv
      clear q1 q2 q3 HT
      go_wp2
      clear hw2 hP11
      go_loopw [7, 9, 12, 13, 14, 15, 17, 42, 43, 44, 45, 46, 47, 48, 49, 50, 51, 52, 53, 54, 55, 56, 57, 58, 59, 60, 61, 62, 63, 64, 65, 66, 67, 68, 69, 70, 71, 72, 73, 74, 75, 76, 77, 78, 79, 80, 81, 82, 83, 84, 85, 86, 87, 88, 89, 90, 91, 92, 93, 94, 95, 96, 97, 98, 99, 100, 101, 102, 103, 104, 105, 106, 107, 108, 109, 110, 111, 112, 113, 114, 115, 116, 117, 118, 119, 120, 121, 122, 123, 124, 125, 126, 127, 128, 129, 130, 131, 132, 133, 134, 135, 136, 137, 138, 139, 140, 141, 142, 143, 144, 145, 146, 147, 148, 149, 150, 151, 152, 153, 154, 155, 156, 157, 158, 159, 160, 161, 162, 163, 164, 165, 166, 167] (fun v7 v9 v12 _ _ _ _ _ _ _ _ _ _ _ _ _ _ _ _ _ _ _ _ _ _ _ _ _ _ _ _ _ _ _ _ _ _ _ _ _ _ _ _ _ _ _ _ _ _ _ _ _ _ _ _ _ _ _ _ _ _ _ _ _ _ _ _ _ _ _ _ _ _ _ _ _ _ _ _ _ _ _ _ _ _ _ _ _ _ _ _ _ _ _ _ _ _ _ _ _ _ _ _ _ _ _ _ _ _ _ _ _ _ _ _ _ _ _ _ _ _ _ _ _ _ _ _ _ _ _ _ _ _ wr => ∃ (P : Nat) (fs : List Tx) (ah : Int) (out : List Int) (la : Option Addr) (lc : Nat) (ta : Option Addr) (tc : Nat) (ov : Value) (lg tg og : Option Nat), Hid (v7 = .slice la (8 * n - P) lc ∧ v9 = .slice ta (fcN L + fs.length) tc ∧ P ≤ 8 * n ∧ out.length ≤ 5000 * P) ∧ v12 = .int .i64 ah ∧ Hid (OfR w L P6 P11 lm zs P fs ah out (.slice la (8 * n - P) lc) (.slice ta (fcN L + fs.length) tc) ov lg tg og wr)) (fun v7 _ _ _ _ _ _ _ _ _ _ _ _ _ _ _ _ _ _ _ _ _ _ _ _ _ _ _ _ _ _ _ _ _ _ _ _ _ _ _ _ _ _ _ _ _ _ _ _ _ _ _ _ _ _ _ _ _ _ _ _ _ _ _ _ _ _ _ _ _ _ _ _ _ _ _ _ _ _ _ _ _ _ _ _ _ _ _ _ _ _ _ _ _ _ _ _ _ _ _ _ _ _ _ _ _ _ _ _ _ _ _ _ _ _ _ _ _ _ _ _ _ _ _ _ _ _ _ _ _ _ _ _ _ => slN v7)
      case atStart => exact ⟨0, [], -1, [], la, lc, ta, tc, .slice none 0 0, lg, tg, none, ⟨rfl, by rw [show fcN L + ([] : List Tx).length = Pw + 2 by unfold fcN; rw [HPw.out]; rfl], Nat.zero_le _, Nat.zero_le _⟩, rfl, by rw [show fcN L + ([] : List Tx).length = Pw + 2 by unfold fcN; rw [HPw.out]; rfl]; exact HR0.out⟩
      case round =>
        clear HR0
        obtain ⟨P, fs, ah, out, la, lc, ta, tc, ov, lg, tg, og, HV, rfl, HX⟩ := hrel
        rw [HV.out.1, HV.out.2.1]
        obtain ⟨M, hM⟩ : ∃ M, 8 * n - P = M := ⟨_, rfl⟩
        obtain ⟨N, hN⟩ : ∃ N, fcN L + fs.length = N := ⟨_, rfl⟩
        rw [hM, hN]
        have HM : Hid (8 * n - P = M ∧ fcN L + fs.length = N ∧ P ≤ 8 * n ∧ fcN L = Pw + 2) := ⟨hM, hN, HV.out.2.2.1, by unfold fcN; rw [HPw.out]⟩
        have HOB : Hid (out.length ≤ 5000 * P) := HV.out.2.2.2
        have HX' := HX.out
        rw [hM, hN] at HX'
        have HX2 : Hid (OfR w L P6 P11 lm zs P fs ah out (.slice la M lc) (.slice ta N tc) ov lg tg og wr) := HX'
        clear HX HX' HV hM hN
        have hN4 : N ≤ 4096 ∧ Pw + 2 ≤ N := by have := HX2.out.ct; have := HM.out; omega
        have hM8 : M ≤ 240000 := by have := HM.out; omega
        have C2 := rwidth_any (n := N) hL wr
        obtain ⟨W, hW⟩ : ∃ W, widN L N = W := ⟨_, rfl⟩
        have hWb := widN_le L N hL.2
        rw [hW] at C2 hWb
        have HW : Hid (widN L N = W) := hW
        clear hW
        obtain ⟨ao, co, hov, hoc, -, -⟩ := HX2.out.osl.shape
        rw [vals_len] at hov hoc
        obtain ⟨ol, hol⟩ : ∃ ol, out.length = ol := ⟨_, rfl⟩
        have HOV : Hid (ov = .slice ao out.length co ∧ out.length = ol) := ⟨hov, hol⟩
        rw [hol] at hov hoc
        obtain ⟨lca, hlc⟩ : ∃ cap', M ≤ cap' ∧ lc = cap' := by
          obtain ⟨a', c', h1, h2, -⟩ := HX2.out.lsl.shape
          rw [ivals_len, List.length_drop, bitsL_len, HA.out.1] at h1 h2
          have := HM.out
          simp only [Value.slice.injEq] at h1
          exact ⟨lc, by omega, rfl⟩
        have hMc : M ≤ lc := by omega
        have hlc9 : lc ≤ 9223372036854775807 := by
          obtain ⟨a', c', h1, h2, h3, -⟩ := HX2.out.lsl.shape
          simp only [Value.slice.injEq] at h1
          unfold maxLen at h3; omega
        clear hlc
        subst hov
        by_cases hsh : M < W
        · as_aux_lemma =>
          have hshI : (M : Int) < (W : Int) := by omega
          have HE : Hid (RC9 (wr.setCell ⟨P11, 2, none⟩ (.int .i64 2)) P11 (.slice ao ol co) (.slice none 0 0) 2 false ∧ RC9 (wr.setCell ⟨P11, 2, none⟩ (.int .i64 2)) P6 (.slice none 0 0) (.slice none 0 0) 0 false ∧ RC9 (lay4 (wr.setCell ⟨P11, 2, none⟩ (.int .i64 2)) P6 (.slice ao ol co) (.slice none 0 0) 2 false) P6 (.slice ao ol co) (.slice none 0 0) 2 false ∧ OfP w (lzO L lm zs) (.returned (.agg #[.slice ao ol co, .slice none 0 0, .int .i64 2, .bool false])) (lay4 (wr.setCell ⟨P11, 2, none⟩ (.int .i64 2)) P6 (.slice ao ol co) (.slice none 0 0) 2 false)) := by
            have hsn : lzS L (lzAt zs P (lm - out.length) fs ah out) = none := by
              unfold lzS
              rw [if_pos]
              show 8 * (zs.drop (P / 8)).length < P % 8 + widN L (fcN L + fs.length)
              have := HM.out
              rw [HM.out.2.1, HW.out, List.length_drop, HA.out.1]; omega
            exact HX2.out.stop 2 (lzAt zs P (lm - out.length) fs ah out) (by rw [HX2.out.go, lzG_stop (.inr hsn)]) rfl rfl rfl (by show 0 ≠ 1; decide) (by rw [HOV.out.2])
          obtain ⟨x0, x1, x2, x3, xf⟩ := (show RC9 wr P11 (.slice ao ol co) (.slice none 0 0) 0 false from HX2.out.r11).cells
          obtain ⟨y0, y1, y2, y3, yf⟩ := HE.out.1.cells
          obtain ⟨u0, u1, u2, u3, uf⟩ := HE.out.2.1.cells
          have xf2 := xf 2
          have uf0 := uf 0
          have uf1 := uf 1
          have uf2 := uf 2
          have uf3 := uf 3
          clear xf yf uf HX2 HOV
          go_wp2_with fail
          refine C2.mono ?_
          clear C2
          rintro e w' ⟨rfl, hw'⟩
          subst w'
          go_wp2
          obtain ⟨z0, z1, z2, z3, zf⟩ := HE.out.2.2.1.cells
          have HPF := HE.out.2.2.2
          clear HE
          change bodyPost Try.prog Try.f12 _ Exit.ret _ (lay4 (wr.setCell ⟨P11, 2, none⟩ (.int .i64 2)) P6 (.slice ao ol co) (.slice none 0 0) 2 false)
          generalize lay4 (wr.setCell ⟨P11, 2, none⟩ (.int .i64 2)) P6 (.slice ao ol co) (.slice none 0 0) 2 false = wf at *
          refine bodyPost_ret (v := .agg #[.slice ao ol co, .slice none 0 0, .int .i64 2, .bool false]) ?_ rfl HPF
          rw [results_cell9 rfl]
          clear HPF
          go_simp
        · have hWM : W ≤ M := by omega
          have hWMi : ¬ (M : Int) < (W : Int) := by omega
          have hWMj : (W : Int) ≤ (M : Int) := by omega
          have hWlc : (W : Int) ≤ (lc : Int) := by omega
          have hW0 : (0 : Int) ≤ (W : Int) := by omega
          have hPW : P + W ≤ 8 * zs.length := by have := HM.out; have := HA.out.1; omega
          have hnum := bits_num HA.out.2.1 P W hPW
          obtain ⟨c, hc, hc4⟩ : ∃ c : Nat, binN (((bitsL zs).drop P).take W) = (c : Int) ∧ c < 4096 := by
            have hb := binN_bound (((bitsL_bit zs).drop P).take W)
            have h3 : (2 : Int) ^ (((bitsL zs).drop P).take W).length ≤ 2 ^ 12 := pow_le_of _ _ (by rw [List.length_take]; omega)
            have h4 : (2 : Int) ^ 12 = 4096 := by decide
            exact ⟨(binN (((bitsL zs).drop P).take W)).toNat, by omega, by omega⟩
          rw [hc] at hnum
          have HST : Hid (lzS L (lzAt zs P (lm - out.length) fs ah out) = some (lzC L (lzAt zs (P + W) (lm - out.length) fs ah out) c)) := lz_read HA.out.2.1 (by rw [HM.out.2.1]; exact HW.out) hPW hnum.symm
          have HG : Hid (lzO L lm zs = lzG L (lzC L (lzAt zs (P + W) (lm - out.length) fs ah out) c)) := by
            show _ = _
            rw [HX2.out.go, lzG_step hL.2 rfl HST.out]
          have hlsl := HX2.out.lsl
          obtain ⟨lb, loff, rfl⟩ : ∃ lb loff, la = some ⟨lb, loff, none⟩ := by
            rcases hlsl with ⟨h, -⟩ | ⟨b, off, cp, cur, h, -⟩
            · simp only [Value.slice.injEq] at h; omega
            · simp only [Value.slice.injEq] at h; exact ⟨b, off, h.1⟩
          have C3 := number_any (some ⟨lb, loff, none⟩) W lc (((bitsL zs).drop P).take W) wr (by rw [List.length_take, List.length_drop, bitsL_len]; omega) (by omega) (((bitsL_bit zs).drop P).take W) (by
            have e : (ivals ((bitsL zs).drop P)).take W = ivals (((bitsL zs).drop P).take W) := by unfold ivals; rw [List.map_take]
            rcases hlsl.take W (by rw [ivals_len, List.length_drop, bitsL_len]; omega) with h9
            rw [e] at h9
            exact h9.irow rfl)
          rw [hc] at C3
          have HL2 : Hid (∀ la2, ((W < lc ∧ la2 = some ⟨lb, loff + W, none⟩) ∨ (W = lc ∧ la2 = some ⟨lb, loff, none⟩)) → Sl wr 3 (.slice la2 (M - W) (lc - W)) lg (ivals ((bitsL zs).drop (P + W)))) := by
            intro la2 h
            have e : (ivals ((bitsL zs).drop P)).drop W = ivals ((bitsL zs).drop (P + W)) := by unfold ivals; rw [← List.map_drop, List.drop_drop]
            rw [← e]
            rcases h with ⟨h1, rfl⟩ | ⟨h1, rfl⟩
            · exact hlsl.drop W (by rw [ivals_len, List.length_drop, bitsL_len]; omega) (loff + W) (M - W) (by rw [ivals_len, List.length_drop, bitsL_len, HA.out.1]; have := HM.out; omega) (.inl ⟨h1, rfl⟩)
            · exact hlsl.drop W (by rw [ivals_len, List.length_drop, bitsL_len]; omega) loff (M - W) (by rw [ivals_len, List.length_drop, bitsL_len, HA.out.1]; have := HM.out; omega) (.inr ⟨h1, rfl⟩)
          clear hlsl hnum hc hsh HST
          go_wp2_with fail
          refine C2.mono ?_
          clear C2
          rintro e w' ⟨rfl, hw'⟩
          subst w'
          go_wp2_with fail
          refine C3.mono ?_
          clear C3
          rintro e w' ⟨rfl, hw'⟩
          subst w'
          go_upto_region 17 with fail
          go_cut [7, 58] (fun v7 v58 wx => wx = wr ∧ v58 = v7 ∧ ∃ la2, ((W < lc ∧ la2 = some ⟨lb, loff + W, none⟩) ∨ (W = lc ∧ la2 = some ⟨lb, loff, none⟩)) ∧ v7 = .slice la2 (M - W) (lc - W))
          case first => as_aux_lemma =>
            by_cases hcK : lc = W
            · obtain rfl : M = W := by omega
              subst hcK
              go_wp2
              go_meet
              exact ⟨rfl, by first | rfl | trivial, some ⟨lb, loff, none⟩, .inr ⟨by first | rfl | trivial, by first | rfl | trivial⟩, by simp⟩
            · have hcKi : ¬ (lc : Int) = (W : Int) := by omega
              go_wp2
              go_meet
              exact ⟨rfl, by first | rfl | trivial, some ⟨lb, loff + W, none⟩, .inl ⟨by omega, by first | rfl | trivial⟩, by first | rfl | trivial⟩
          case rest =>
            obtain ⟨rfl, rfl, la2, hla2, rfl⟩ := hcut
            have HL3 : Hid (Sl wc 3 (.slice la2 (M - W) (lc - W)) lg (ivals ((bitsL zs).drop (P + W)))) := HL2.out la2 hla2
            clear HL2 hla2 hWMi hWMj hWlc
            obtain ⟨M2, hM2⟩ : ∃ M2, M - W = M2 := ⟨_, rfl⟩
            obtain ⟨lc2, hlc2⟩ : ∃ lc2, lc - W = lc2 := ⟨_, rfl⟩
            have HM2 : Hid (M - W = M2 ∧ 8 * n - (P + W) = M2 ∧ P + W ≤ 8 * n ∧ M2 < M) := ⟨hM2, by have := HM.out; omega, by have := HM.out; omega, by omega⟩
            have hM2c : M2 ≤ lc2 := by omega
            have hlc29 : lc2 ≤ 9223372036854775807 := by omega
            rw [hM2, hlc2] at HL3
            rw [hM2, hlc2]
            clear hM2 hlc2
            by_cases hcl : c = Pw
            · as_aux_lemma =>
              have HN : Hid (OfR w L P6 P11 lm zs (P + W) [] (-1) out (.slice la2 M2 lc2) (.slice ta (Pw + 2) tc) (.slice ao ol co) lg tg og wc ∧ fcN L + ([] : List Tx).length = Pw + 2) := by
                have hX := HX2.out
                have hm := HM.out
                refine ⟨⟨hX.r6, hX.r11, hX.osl, HL3.out, ?_, hX.be, hX.pb, hX.on, by have := HM2.out; have := HA.out.1; omega, WfT.nil L, by rw [hm.2.2.2]; simp; omega, .inl rfl, hX.ol, ?_⟩, by rw [hm.2.2.2]; rfl⟩
                · have e : fcN L + ([] : List Tx).length = Pw + 2 := by rw [hm.2.2.2]; rfl
                  have ht := hX.tb
                  rw [hm.2.1] at ht
                  rw [e]
                  exact (ht.take (Pw + 2) hN4.2 (by omega)).congr fun q hq => by rw [txC_root (by omega), txC_root (by omega)]
                · rw [HG.out]
                  unfold lzC
                  rw [if_pos (by rw [HPw.out]; exact hcl)]
                  rfl
              obtain ⟨ttc, htc1, htc2⟩ : ∃ q, q = tc ∧ N ≤ q := by
                obtain ⟨vs, h1, h2, -⟩ := HX2.out.tb.sl
                obtain ⟨a', c', h3, h4, -⟩ := h1.shape
                simp only [Value.slice.injEq] at h3
                rw [HM.out.2.1] at h2
                exact ⟨tc, rfl, by omega⟩
              subst htc1
              have hcPi : (c : Int) = (Pw : Int) := by omega
              have hPt : (Pw : Int) + 2 ≤ (ttc : Int) := by omega
              clear HX2 HL3 HG hcl
              go_wp2
              go_roundw
              case rel =>
                refine ⟨_, _, _, _, _, _, _, _, _, _, _, _, _, _, _, _, _, _, _, _, _, _, _, _, _, _, _, _, _, _, _, _, _, _, _, _, _, _, _, _, _, _, _, _, _, _, _, _, _, _, _, _, _, _, _, _, _, _, _, _, _, _, _, _, _, _, _, _, _, _, _, _, _, _, _, _, _, _, _, _, _, _, _, _, _, _, _, _, _, _, _, _, _, _, _, _, _, _, _, _, _, _, _, _, _, _, _, _, _, _, _, _, _, _, _, _, _, _, _, _, _, _, _, _, _, _, _, _, _, _, _, _, _, ?_, rfl⟩
                exact ⟨P + W, [], -1, out, la2, lc2, ta, ttc, .slice ao ol co, lg, tg, og, ⟨by rw [HM2.out.2.1], by rw [HN.out.2], HM2.out.2.2.1, by have := HOB.out; omega⟩, rfl, by rw [HM2.out.2.1, HN.out.2]; exact HN.out.1⟩
              case measure => exact HM2.out.2.2.2
            by_cases hce : c = Pw + 1
            · obtain ⟨j, hj⟩ : ∃ j, (P + W + 7) / 8 = j := ⟨_, rfl⟩
              obtain ⟨Q, hQ⟩ : ∃ Q, M2 % 8 = Q := ⟨_, rfl⟩
              have hQb : Q ≤ M2 ∧ Q < 8 := by omega
              have hjn : j ≤ n ∧ P + W + Q = 8 * j ∧ M2 - Q = 8 * (n - j) := by have := HM2.out; omega
              have HE0 : Hid (lzO L lm zs = ⟨1, lm - out.length, [], 0, [], 0, 0, out, zs.drop j⟩) := by
                show _ = _
                rw [HG.out]
                have e : lzC L (lzAt zs (P + W) (lm - out.length) fs ah out) c = ⟨1, lm - out.length, [], 0, [], 0, 0, out, zs.drop j⟩ := by
                  unfold lzC
                  rw [if_neg (by rw [HPw.out]; exact hcl), if_pos (by rw [HPw.out]; exact hce)]
                  have hr : (if (lzAt zs (P + W) (lm - out.length) fs ah out).gone = 0 then (lzAt zs (P + W) (lm - out.length) fs ah out).zs else (lzAt zs (P + W) (lm - out.length) fs ah out).zs.drop 1) = zs.drop j := by
                    show (if (P + W) % 8 = 0 then zs.drop ((P + W) / 8) else (zs.drop ((P + W) / 8)).drop 1) = zs.drop j
                    split
                    · congr 1; omega
                    · rw [List.drop_drop]; congr 1; omega
                  rw [hr]
                  rfl
                rw [e, lzG_stop (.inl (by show 1 ≠ 0; decide))]
              have hcPn : ¬ (c : Int) = (Pw : Int) := by omega
              have hcPe : (c : Int) = (Pw : Int) + 1 := by omega
              obtain ⟨n5, hn5⟩ : ∃ n5, (zs.drop j).length = n5 := ⟨_, rfl⟩
              have HJ : Hid ((zs.drop j).length = n5 ∧ n5 = n - j) := ⟨hn5, by rw [← hn5, List.length_drop, HA.out.1]⟩
              have H11 : Hid (RC9 wc P11 (.slice ao ol co) (.slice none 0 0) 0 false) := HX2.out.r11
              have HFN : Hid (∀ a5 c5 w5, Below (wc.setCell ⟨P11, 3, none⟩ (.bool true)).heap.size (wc.setCell ⟨P11, 3, none⟩ (.bool true)) w5 → Row w5 a5 (zs.drop j) → Hid (RC9 w5 P11 (.slice ao ol co) (.slice none 0 0) 0 true ∧ RC9 (w5.setCell ⟨P11, 1, none⟩ (.slice a5 n5 c5)) P11 (.slice ao ol co) (.slice a5 n5 c5) 0 true ∧ RC9 (w5.setCell ⟨P11, 1, none⟩ (.slice a5 n5 c5)) P6 (.slice none 0 0) (.slice none 0 0) 0 false ∧ RC9 (lay4 (w5.setCell ⟨P11, 1, none⟩ (.slice a5 n5 c5)) P6 (.slice ao ol co) (.slice a5 n5 c5) 0 true) P6 (.slice ao ol co) (.slice a5 n5 c5) 0 true ∧ OfP w (lzO L lm zs) (.returned (.agg #[.slice ao ol co, .slice a5 n5 c5, .int .i64 0, .bool true])) (lay4 (w5.setCell ⟨P11, 1, none⟩ (.slice a5 n5 c5)) P6 (.slice ao ol co) (.slice a5 n5 c5) 0 true))) :=
                fun a5 c5 w5 hb hr => HX2.out.fin _ HE0.out rfl rfl rfl (by rw [HOV.out.2]) HJ.out.1 hb hr
              obtain ⟨x0, x1, x2, x3, xf⟩ := H11.out.cells
              have xf3 := xf 3
              have hQt : (M2 : Int).tmod 8 = (Q : Int) := by rw [Int.tmod_eq_emod_of_nonneg (by omega)]; omega
              have hQi : (M2 : Int) % 8 = (Q : Int) := by omega
              have hQc : (Q : Int) ≤ (lc2 : Int) := by omega
              have hQM : (Q : Int) ≤ (M2 : Int) := by omega
              have hQ0 : (0 : Int) ≤ (Q : Int) := by omega
              subst hce
              by_cases hcQ : lc2 = Q
              · as_aux_lemma =>
                have hcKi : (lc2 : Int) = (Q : Int) := by omega
                have hM2Q : M2 = Q := by omega
                have C4 := rest_call HL3.out H11.out HA.out.1 HA.out.2.1 hn3 hQb.1 hjn la2 (.inr hcQ.symm)
                rw [show 8 * (n - j) = 0 by omega, show lc2 - Q = 0 by omega] at C4
                clear xf HG hcl HX2 HOV HL3 H11 HE0 hQb hjn hQ hQi hQc hQM hM2c hlc29 hcKi
                subst hcQ
                subst hM2Q
                go_wp2_with fail
                refine C4.mono ?_
                clear C4
                rintro e w5 ⟨a5, c5, rfl, -, -, -, hr5, hb5⟩
                rw [HJ.out.1]
                have HE := HFN.out a5 c5 w5 hb5 hr5
                clear HFN hr5 hb5
                obtain ⟨x0, x1, x2, x3, xf⟩ := HE.out.1.cells
                have xf1 := xf 1
                obtain ⟨y0, y1, y2, y3, yf⟩ := HE.out.2.1.cells
                obtain ⟨u0, u1, u2, u3, uf⟩ := HE.out.2.2.1.cells
                have uf0 := uf 0
                have uf1 := uf 1
                have uf2 := uf 2
                have uf3 := uf 3
                clear xf yf uf
                go_wp2
                obtain ⟨z0, z1, z2, z3, zf⟩ := HE.out.2.2.2.1.cells
                have HPF := HE.out.2.2.2.2
                clear HE
                change bodyPost Try.prog Try.f12 _ Exit.ret _ (lay4 (w5.setCell ⟨P11, 1, none⟩ (.slice a5 n5 c5)) P6 (.slice ao ol co) (.slice a5 n5 c5) 0 true)
                generalize lay4 (w5.setCell ⟨P11, 1, none⟩ (.slice a5 n5 c5)) P6 (.slice ao ol co) (.slice a5 n5 c5) 0 true = wf at *
                refine bodyPost_ret (v := .agg #[.slice ao ol co, .slice a5 n5 c5, .int .i64 0, .bool true]) ?_ rfl HPF
                rw [results_cell9 rfl]
                clear HPF
                go_simp
              · as_aux_lemma =>
                have hcKi : ¬ (lc2 : Int) = (Q : Int) := by omega
                have C4 := rest_call HL3.out H11.out HA.out.1 HA.out.2.1 hn3 hQb.1 hjn _ (.inl ⟨by omega, rfl⟩)
                clear xf HG hcl HX2 HOV HL3 H11 HE0
                go_wp2_with fail
                refine C4.mono ?_
                clear C4
                rintro e w5 ⟨a5, c5, rfl, -, -, -, hr5, hb5⟩
                rw [HJ.out.1]
                have HE := HFN.out a5 c5 w5 hb5 hr5
                clear HFN hr5 hb5
                obtain ⟨x0, x1, x2, x3, xf⟩ := HE.out.1.cells
                have xf1 := xf 1
                obtain ⟨y0, y1, y2, y3, yf⟩ := HE.out.2.1.cells
                obtain ⟨u0, u1, u2, u3, uf⟩ := HE.out.2.2.1.cells
                have uf0 := uf 0
                have uf1 := uf 1
                have uf2 := uf 2
                have uf3 := uf 3
                clear xf yf uf
                go_wp2
                obtain ⟨z0, z1, z2, z3, zf⟩ := HE.out.2.2.2.1.cells
                have HPF := HE.out.2.2.2.2
                clear HE
                change bodyPost Try.prog Try.f12 _ Exit.ret _ (lay4 (w5.setCell ⟨P11, 1, none⟩ (.slice a5 n5 c5)) P6 (.slice ao ol co) (.slice a5 n5 c5) 0 true)
                generalize lay4 (w5.setCell ⟨P11, 1, none⟩ (.slice a5 n5 c5)) P6 (.slice ao ol co) (.slice a5 n5 c5) 0 true = wf at *
                refine bodyPost_ret (v := .agg #[.slice ao ol co, .slice a5 n5 c5, .int .i64 0, .bool true]) ?_ rfl HPF
                rw [results_cell9 rfl]
                clear HPF
                go_simp
            cases hfl : flwN L fs ah c with
            | none => as_aux_lemma =>
              have hcPn : ¬ (c : Int) = (Pw : Int) := by omega
              have hcPn1 : ¬ (c : Int) = (Pw : Int) + 1 := by omega
              have HG2 : Hid (lzO L lm zs = lzF (lzAt zs (P + W) (lm - out.length) fs ah out) 6) := by
                show _ = _
                rw [HG.out]
                have e : lzC L (lzAt zs (P + W) (lm - out.length) fs ah out) c = lzF (lzAt zs (P + W) (lm - out.length) fs ah out) 6 := by
                  unfold lzC
                  rw [if_neg (by rw [HPw.out]; exact hcl), if_neg (by rw [HPw.out]; exact hce)]
                  show (match flwN L fs ah c with | none => _ | some fs' => _) = _
                  rw [hfl]
                rw [e, lzG_stop (.inl (by show 2 ≠ 0; decide))]
              have HE : Hid (RC9 (wc.setCell ⟨P11, 2, none⟩ (.int .i64 6)) P11 (.slice ao ol co) (.slice none 0 0) 6 false ∧ RC9 (wc.setCell ⟨P11, 2, none⟩ (.int .i64 6)) P6 (.slice none 0 0) (.slice none 0 0) 0 false ∧ RC9 (lay4 (wc.setCell ⟨P11, 2, none⟩ (.int .i64 6)) P6 (.slice ao ol co) (.slice none 0 0) 6 false) P6 (.slice ao ol co) (.slice none 0 0) 6 false ∧ OfP w (lzO L lm zs) (.returned (.agg #[.slice ao ol co, .slice none 0 0, .int .i64 6, .bool false])) (lay4 (wc.setCell ⟨P11, 2, none⟩ (.int .i64 6)) P6 (.slice ao ol co) (.slice none 0 0) 6 false)) := HX2.out.stop 6 _ HG2.out rfl rfl rfl (by show 2 ≠ 1; decide) (by rw [HOV.out.2])
              obtain ⟨x0, x1, x2, x3, xf⟩ := (show RC9 wc P11 (.slice ao ol co) (.slice none 0 0) 0 false from HX2.out.r11).cells
              obtain ⟨y0, y1, y2, y3, yf⟩ := HE.out.1.cells
              obtain ⟨u0, u1, u2, u3, uf⟩ := HE.out.2.1.cells
              have xf2 := xf 2
              have uf0 := uf 0
              have uf1 := uf 1
              have uf2 := uf 2
              have uf3 := uf 3
              have hfl' := hfl
              unfold flwN at hfl'
              clear xf yf uf HG HG2 HL3 hfl
              rcases HX2.out.ahd with hah | ⟨A, hah, hAl⟩
              · have hPc : (Pw : Int) ≤ (c : Int) := by
                  rw [if_pos hah, HPw.out] at hfl'
                  split at hfl'
                  · omega
                  · cases hfl'
                subst hah
                clear hfl' HX2 HOV hcl hce
                go_wp2
                obtain ⟨z0, z1, z2, z3, zf⟩ := HE.out.2.2.1.cells
                have HPF := HE.out.2.2.2
                clear HE
                change bodyPost Try.prog Try.f12 _ Exit.ret _ (lay4 (wc.setCell ⟨P11, 2, none⟩ (.int .i64 6)) P6 (.slice ao ol co) (.slice none 0 0) 6 false)
                generalize lay4 (wc.setCell ⟨P11, 2, none⟩ (.int .i64 6)) P6 (.slice ao ol co) (.slice none 0 0) 6 false = wf at *
                refine bodyPost_ret (v := .agg #[.slice ao ol co, .slice none 0 0, .int .i64 6, .bool false]) ?_ rfl HPF
                rw [results_cell9 rfl]
                clear HPF
                go_simp
              · have hm := HM.out
                have hNc : (N : Int) < (c : Int) := by
                  rw [if_neg (by omega)] at hfl'
                  split at hfl'
                  · cases hfl'
                  · split at hfl'
                    · cases hfl'
                    · omega
                have hA0 : ¬ (A : Int) < 0 := by omega
                subst hah
                clear hfl' HX2 HOV hcl hce hm hAl
                go_wp2
                obtain ⟨z0, z1, z2, z3, zf⟩ := HE.out.2.2.1.cells
                have HPF := HE.out.2.2.2
                clear HE
                change bodyPost Try.prog Try.f12 _ Exit.ret _ (lay4 (wc.setCell ⟨P11, 2, none⟩ (.int .i64 6)) P6 (.slice ao ol co) (.slice none 0 0) 6 false)
                generalize lay4 (wc.setCell ⟨P11, 2, none⟩ (.int .i64 6)) P6 (.slice ao ol co) (.slice none 0 0) 6 false = wf at *
                refine bodyPost_ret (v := .agg #[.slice ao ol co, .slice none 0 0, .int .i64 6, .bool false]) ?_ rfl HPF
                rw [results_cell9 rfl]
                clear HPF
                go_simp
            | some fs2 =>
              have hcPn : ¬ (c : Int) = (Pw : Int) := by omega
              have hcPn1 : ¬ (c : Int) = (Pw : Int) + 1 := by omega
              obtain ⟨T, hT⟩ : ∃ T, txC L fs2 c = T := ⟨_, rfl⟩
              have HG2 : Hid (lzO L lm zs = lzG L (lzT (lzAt zs (P + W) (lm - out.length) fs ah out) fs2 c T)) := by
                show _ = _
                rw [HG.out]
                congr 1
                unfold lzC
                rw [if_neg (by rw [HPw.out]; exact hcl), if_neg (by rw [HPw.out]; exact hce)]
                show (match flwN L fs ah c with | none => _ | some fs' => _) = _
                rw [hfl, ← hT]
              obtain ⟨o1, o2, o3⟩ := flwN_ok HX2.out.wf HX2.out.ct HX2.out.ahd hc4 hfl
              have HO : Hid (WfT L fs2 ∧ fcN L + fs2.length ≤ 4096 ∧ c < fcN L + fs2.length ∧ txC L fs2 c = T) := ⟨o1, o2, o3, hT⟩
              clear o1 o2 o3 hT HG hcl hce
              have ht := HX2.out.tb
              rw [HM.out.2.1] at ht
              obtain ⟨yT, HY⟩ : ∃ yT, Hid (T[0]? = some yT ∧ (ah = -1 → fs2 = fs ∧ c < Pw) ∧ (∀ A : Nat, ah = (A : Int) → fs2 = lrnP L fs A yT) ∧ (c < N → T = txC L fs c) ∧ (¬ c < N → ∃ A : Nat, ah = (A : Int) ∧ A < N ∧ c = N ∧ T = txC L fs A ++ [yT] ∧ (txC L fs A)[0]? = some yT)) := by
                obtain ⟨yT, h⟩ := flw_text HX2.out.wf HX2.out.ct HX2.out.ahd hc4 hfl
                rw [HO.out.2.2.2, HM.out.2.1, HPw.out] at h
                exact ⟨yT, h⟩
              obtain ⟨tb, toff, -, -, -, -, hta0, -⟩ := ht.at 0 (by omega)
              subst hta0
              have hTl : 1 ≤ T.length ∧ T.length ≤ 5000 := by
                have h1 := (txC_bytes HO.out.1 c HO.out.2.2.1).2
                have h2 := txC_len HO.out.1 c HO.out.2.2.1 fs2.length (by have := HO.out.2.2.1; omega)
                have := HO.out.2.1
                rw [HO.out.2.2.2] at h1 h2
                omega
              have hcN9 : c ≤ N := by
                by_cases h : c < N
                · omega
                · obtain ⟨A, -, -, h9, -⟩ := HY.out.2.2.2.2 h; omega
              have hcNn : ¬ (N : Int) < (c : Int) := by omega
              have hc4i : ¬ (4096 : Int) ≤ (c : Int) := by omega
              clear hfl
              go_upto_region 25 with fail
              go_cut [14, 101] from 42 (fun v14 v101 wx => v14 = .int .i64 (c : Int) ∧ v101 = .bool false ∧ wx = wc)
              case first => as_aux_lemma =>
                rcases HX2.out.ahd with hah | ⟨A, hah, hAl⟩
                · have hcP := (HY.out.2.1 hah).2
                  have hcP1 : ¬ (Pw : Int) ≤ (c : Int) := by omega
                  have hcNi : ¬ (c : Int) = (N : Int) := by omega
                  subst hah
                  go_wp2
                  go_meet
                  exact ⟨by first | rfl | trivial, by first | rfl | trivial, rfl⟩
                · have hA0 : ¬ (A : Int) < 0 := by omega
                  subst hah
                  by_cases hcN : c < N
                  · have hcNi : ¬ (c : Int) = (N : Int) := by omega
                    go_wp2
                    go_meet
                    exact ⟨by first | rfl | trivial, by first | rfl | trivial, rfl⟩
                  · have hcNi : (c : Int) = (N : Int) := by omega
                    have hN4i : ¬ (4096 : Int) ≤ (N : Int) := by omega
                    go_wp2
                    go_meet
                    exact ⟨by first | rfl | (rw [hcNi]) | trivial, by first | rfl | trivial, rfl⟩
              case rest =>
                obtain ⟨rfl, rfl, hwcc⟩ := hcut
                subst hwcc
                obtain ⟨wd, rfl⟩ : ∃ x, x = wc := ⟨_, rfl⟩
                go_upto_if 107 with fail
                go_cut [14, 15] from 42 (fun v14 v15 wx => v14 = .int .i64 (c : Int) ∧ ∃ k off m cc, v15 = .slice (some ⟨k, off, none⟩) m cc ∧ Hid (Row wx (some ⟨k, off, none⟩) T ∧ T.length = m ∧ m ≤ cc ∧ cc ≤ 9223372036854775807 ∧ Below wd.heap.size wd wx ∧ (∃ cur, wx.heap[k]? = some (.cells cur 5 (0, 0))) ∧ some k ≠ og))
                case first => as_aux_lemma =>
                  by_cases hcN : c < N
                  · have hcNi : (c : Int) < (N : Int) := by omega
                    have hc0 : (0 : Int) ≤ (c : Int) := by omega
                    obtain ⟨tb2, toff2, kc, offc, mc, cc, etb, c1, c2, c3, c4, c5, c6, c7, c8, c9⟩ := ht.at9 c hcN
                    obtain ⟨rfl, rfl⟩ : tb = tb2 ∧ toff = toff2 := by simpa using etb
                    have HC6 : Hid (Row wd (some ⟨kc, offc, none⟩) T ∧ T.length = mc ∧ mc ≤ cc ∧ cc ≤ 9223372036854775807 ∧ (∃ cur, wd.heap[kc]? = some (.cells cur 5 (0, 0))) ∧ some kc ≠ og) := by rw [HY.out.2.2.2.1 hcN]; exact ⟨c6, c2, c4, c5, c8, c9⟩
                    clear c2 c4 c5 c6 c7 c8 c9 etb
                    go_wp2
                    go_meet
                    exact ⟨rfl, kc, offc, mc, cc, rfl, HC6.out.1, HC6.out.2.1, HC6.out.2.2.1, HC6.out.2.2.2.1, Below.refl _ _, HC6.out.2.2.2.2⟩
                  · obtain ⟨A, hah, hAl, hceN, hT3, hy3⟩ := HY.out.2.2.2.2 hcN
                    obtain ⟨tb2, toff2, ka, offa, ma, ca, etb, t1, t2, t3, t4, t5, t6, t7, -⟩ := ht.at A hAl
                    obtain ⟨rfl, rfl⟩ : tb = tb2 ∧ toff = toff2 := by simpa using etb
                    have hmab : ma ≤ 5000 := by
                      have h1 := txC_len HX2.out.wf A (by have := HM.out; omega) fs.length (by have := HM.out; omega)
                      have := HX2.out.ct
                      omega
                    have hA0 : ¬ (A : Int) < 0 := by omega
                    have hA1 : (0 : Int) ≤ (A : Int) := by omega
                    have hANi : (A : Int) < (N : Int) := by omega
                    have HOG : Hid (∀ k, wd.heap.size ≤ k → some k ≠ og) := fun k hk e => by have := HX2.out.osl.lt e.symm; omega
                    clear etb
                    subst hah
                    have hcNi : (c : Int) = (N : Int) := by omega
                    obtain ⟨yA, hyA⟩ : ∃ yA, ((txC L fs A)[0]?).getD 0 = yA := ⟨_, rfl⟩
                    rw [hyA] at t7
                    have HT1 : Hid (T = txC L fs A ++ [yA] ∧ Row wd (some ⟨ka, offa, none⟩) (txC L fs A) ∧ (txC L fs A).length = ma) := ⟨by rw [← hyA, hy3]; exact hT3, t6, t2⟩
                    have hNN : ¬ (N : Int) < (N : Int) := by omega
                    clear t6 t2 hyA hT3 hy3
                    have hma : (0 : Int) < (ma : Int) := by omega
                    have hma2 : ¬ (ma : Int) ≤ 0 := by omega
                    have hma3 : 0 < ma := by omega
                    have hma4 : ¬ ma ≤ 0 := by omega
                    have hma5 : ¬ ma = 0 := by omega
                    have hma6 : decide (0 < ma) = true := decide_eq_true hma3
                    have bA : Below wd.heap.size wd (wd.alloc (.cells #[] 5)) := (Below.refl _ _).alloc (Nat.le_refl _) _
                    have bB : Below wd.heap.size wd ((wd.alloc (.cells #[.int .u8 yA] 5)).alloc (.cells #[] 5)) := ((Below.refl _ _).alloc (Nat.le_refl _) _).alloc (by simp) _
                    have bC : Below wd.heap.size wd ((wd.alloc (.cells #[] 5)).alloc (.cells #[.int .u8 yA] 5)) := ((Below.refl _ _).alloc (Nat.le_refl _) _).alloc (by simp) _
                    have htbl := cell_lt t1
                    have hkal := cell_lt t7
                    have HCe : Hid (∀ W, Below wd.heap.size wd W → W.cell? ⟨tb, toff + A, none⟩ = some (.slice (some ⟨ka, offa, none⟩) ma ca) ∧ W.cell? ⟨ka, offa, none⟩ = some (.int .u8 yA)) := fun W h => ⟨(World.cell?_of_block (a := ⟨tb, toff + A, none⟩) (h.block _ htbl)).trans t1, (World.cell?_of_block (a := ⟨ka, offa, none⟩) (h.block _ hkal)).trans t7⟩
                    have eA1 := (HCe.out _ bA).1
                    have eA2 := (HCe.out _ bA).2
                    have eB1 := (HCe.out _ bB).1
                    have eB2 := (HCe.out _ bB).2
                    have eC1 := (HCe.out _ bC).1
                    have eC2 := (HCe.out _ bC).2
                    have eD1 := (HCe.out (wd.alloc (.cells #[.int .u8 yA] 5)) ((Below.refl _ _).alloc (Nat.le_refl _) _)).1
                    have eD2 := (HCe.out (wd.alloc (.cells #[.int .u8 yA] 5)) ((Below.refl _ _).alloc (Nat.le_refl _) _)).2
                    have HSA : Hid (Sl (wd.alloc (.cells #[] 5)) 5 (.slice (some ⟨wd.heap.size, 0, none⟩) 0 0) (some wd.heap.size) (vals [])) := Sl.empty wd 5
                    have HSB : Hid (Sl ((wd.alloc (.cells #[.int .u8 yA] 5)).alloc (.cells #[] 5)) 5 (.slice (some ⟨wd.heap.size + 1, 0, none⟩) 0 0) (some (wd.heap.size + 1)) (vals [])) := by have := Sl.empty (wd.alloc (.cells #[.int .u8 yA] 5)) 5; rw [World.size_alloc] at this; exact this
                    have HSC : Hid (Sl ((wd.alloc (.cells #[] 5)).alloc (.cells #[.int .u8 yA] 5)) 5 (.slice (some ⟨wd.heap.size, 0, none⟩) 0 0) (some wd.heap.size) (vals [])) := (Sl.empty wd 5).same fun k hk => by cases hk; exact Below.heap_alloc _ _ _ (by simp)
                    have HBB : Hid (Below wd.heap.size wd (wd.alloc (.cells #[] 5)) ∧ Below wd.heap.size wd ((wd.alloc (.cells #[.int .u8 yA] 5)).alloc (.cells #[] 5)) ∧ Below wd.heap.size wd ((wd.alloc (.cells #[] 5)).alloc (.cells #[.int .u8 yA] 5))) := ⟨bA, bB, bC⟩
                    have HF1 : Hid (∀ W X w7, Below wd.heap.size wd W → wd.heap.size ≤ X → W.grownBy w7 (some X) → w7.cell? ⟨tb, toff + A, none⟩ = some (.slice (some ⟨ka, offa, none⟩) ma ca) ∧ w7.cell? ⟨ka, offa, none⟩ = some (.int .u8 yA) ∧ Below wd.heap.size wd w7) := by
                      intro W X w7 h1 h2 h3
                      have hb : Below wd.heap.size wd w7 := h1.grown h3 h1.size (fun k hk => by cases hk; exact h2)
                      exact ⟨(HCe.out w7 hb).1, (HCe.out w7 hb).2, hb⟩
                    have HRB : Hid (∀ w7, ((wd.alloc (.cells #[.int .u8 yA] 5)).alloc (.cells #[] 5)).grownBy w7 (some (wd.heap.size + 1)) → Row w7 (some ⟨wd.heap.size, 0, none⟩) [yA]) := fun w7 h => by
                      have hr : Row (wd.alloc (.cells #[.int .u8 yA] 5)) (some ⟨wd.heap.size, 0, none⟩) [yA] := row_oneO wd yA
                      refine hr.same fun x hx _ => ?_
                      cases hx
                      exact (h.block wd.heap.size (by simp; omega) (by simp)).trans (Below.heap_alloc _ _ _ (by simp))
                    have HRC : Hid (∀ w7, ((wd.alloc (.cells #[] 5)).alloc (.cells #[.int .u8 yA] 5)).grownBy w7 (some wd.heap.size) → Row w7 (some ⟨wd.heap.size + 1, 0, none⟩) [yA]) := fun w7 h => by
                      have hr : Row ((wd.alloc (.cells #[] 5)).alloc (.cells #[.int .u8 yA] 5)) (some ⟨wd.heap.size + 1, 0, none⟩) [yA] := by have := row_oneO (wd.alloc (.cells #[] 5)) yA; rw [World.size_alloc] at this; exact this
                      refine hr.same fun x hx _ => ?_
                      cases hx
                      exact h.block (wd.heap.size + 1) (by simp) (by simp)
                    have HF2 : Hid (∀ W2 v8 w8 g8 g7, Below wd.heap.size wd W2 → (∀ k, g7 = some k → wd.heap.size ≤ k) → Sl w8 5 v8 g8 (vals (([] ++ txC L fs A) ++ [yA])) → (g8 = g7 ∨ ∃ k, g8 = some k ∧ W2.heap.size ≤ k) → W2.grownBy w8 g7 → ∃ k off m cc, v8 = .slice (some ⟨k, off, none⟩) m cc ∧ Hid (Row w8 (some ⟨k, off, none⟩) T ∧ T.length = m ∧ m ≤ cc ∧ cc ≤ 9223372036854775807 ∧ Below wd.heap.size wd w8 ∧ (∃ cur, w8.heap[k]? = some (.cells cur 5 (0, 0))) ∧ some k ≠ og)) := by
                      intro W2 v8 w8 g8 g7 h1 h2 h3 h5 h4
                      rw [List.nil_append, ← HT1.out.1] at h3
                      obtain ⟨k, off, cc, e1, e2, e3, e6, e4, e5⟩ := h3.some9 (by rw [HT1.out.1, List.length_append]; simp)
                      refine ⟨k, off, T.length, cc, e1, e4, rfl, e2, e3, h1.grown h4 h1.size h2, e5, HOG.out k ?_⟩
                      rcases h5 with e | ⟨j, e, hj⟩
                      · exact h2 k (by rw [← e]; exact e6)
                      · rw [e] at e6; cases e6; have := h1.size; omega
                    clear bA bB bC htbl hkal
                    go_wp2
                    go_region_held3 (fun u => u.cell? ⟨tb, toff + A, none⟩ = some (.slice (some ⟨ka, offa, none⟩) ma ca) ∧ u.cell? ⟨ka, offa, none⟩ = some (.int .u8 yA)) (first | (with_reducible exact ⟨by with_reducible assumption, by with_reducible assumption⟩) | go_keep) (first
                      | (refine step_more rfl _ _ rfl (.slice (some ⟨wd.heap.size, 0, none⟩) 0 0) (some (wd.heap.size)) [] rfl (HSA.out.same fun _ _ => rfl) (some ⟨ka, offa, none⟩) ma ca (txC L fs A) rfl (fun h => by cases h) HT1.out.2.2 ((HT1.out.2.1.old HBB.out.1).same fun _ _ _ => rfl) (by simp only [List.length_nil]; omega) ?_; intro v7 w7 g7 hs7 hg7 hgr7; have hgw := gw_of hg7 (show wd.heap.size ≤ _ by omega) (by simp <;> omega); obtain ⟨x71, x72, hb7⟩ := HF1.out _ _ w7 HBB.out.1 (by omega) ⟨hgr7.os, hgr7.tape, hgr7.output, hgr7.size, hgr7.block⟩; have x73 := (HCe.out (w7.alloc (.cells #[.int .u8 yA] 5)) (hb7.alloc hb7.size _)).1; have x74 := (HCe.out (w7.alloc (.cells #[.int .u8 yA] 5)) (hb7.alloc hb7.size _)).2; obtain ⟨a7, c7, hv7, -⟩ := hs7.shape; generalize hz7 : (vals ([] ++ txC L fs A)).length = z7 at hv7; subst hv7)
                      | (refine step_more rfl _ _ rfl (.slice (some ⟨wd.heap.size + 1, 0, none⟩) 0 0) (some (wd.heap.size + 1)) [] rfl (HSB.out.same fun _ _ => rfl) (some ⟨ka, offa, none⟩) ma ca (txC L fs A) rfl (fun h => by cases h) HT1.out.2.2 ((HT1.out.2.1.old HBB.out.2.1).same fun _ _ _ => rfl) (by simp only [List.length_nil]; omega) ?_; intro v7 w7 g7 hs7 hg7 hgr7; have hgw := gw_of hg7 (show wd.heap.size ≤ _ by omega) (by simp <;> omega); have hrB := HRB.out w7 ⟨hgr7.os, hgr7.tape, hgr7.output, hgr7.size, hgr7.block⟩; obtain ⟨x71, x72, hb7⟩ := HF1.out _ _ w7 HBB.out.2.1 (by omega) ⟨hgr7.os, hgr7.tape, hgr7.output, hgr7.size, hgr7.block⟩; have x73 := (HCe.out (w7.alloc (.cells #[.int .u8 yA] 5)) (hb7.alloc hb7.size _)).1; have x74 := (HCe.out (w7.alloc (.cells #[.int .u8 yA] 5)) (hb7.alloc hb7.size _)).2; obtain ⟨a7, c7, hv7, -⟩ := hs7.shape; generalize hz7 : (vals ([] ++ txC L fs A)).length = z7 at hv7; subst hv7)
                      | (refine step_more rfl _ _ rfl (.slice (some ⟨wd.heap.size, 0, none⟩) 0 0) (some (wd.heap.size)) [] rfl (HSC.out.same fun _ _ => rfl) (some ⟨ka, offa, none⟩) ma ca (txC L fs A) rfl (fun h => by cases h) HT1.out.2.2 ((HT1.out.2.1.old HBB.out.2.2).same fun _ _ _ => rfl) (by simp only [List.length_nil]; omega) ?_; intro v7 w7 g7 hs7 hg7 hgr7; have hgw := gw_of hg7 (show wd.heap.size ≤ _ by omega) (by simp <;> omega); have hrB := HRC.out w7 ⟨hgr7.os, hgr7.tape, hgr7.output, hgr7.size, hgr7.block⟩; obtain ⟨x71, x72, hb7⟩ := HF1.out _ _ w7 HBB.out.2.2 (by omega) ⟨hgr7.os, hgr7.tape, hgr7.output, hgr7.size, hgr7.block⟩; have x73 := (HCe.out (w7.alloc (.cells #[.int .u8 yA] 5)) (hb7.alloc hb7.size _)).1; have x74 := (HCe.out (w7.alloc (.cells #[.int .u8 yA] 5)) (hb7.alloc hb7.size _)).2; obtain ⟨a7, c7, hv7, -⟩ := hs7.shape; generalize hz7 : (vals ([] ++ txC L fs A)).length = z7 at hv7; subst hv7)
                      | (refine step_more rfl _ _ rfl (.slice a7 z7 c7) g7 ([] ++ txC L fs A) rfl ((hs7.same fun k hk => Below.heap_alloc w7 (.cells #[.int .u8 yA] 5) k (hs7.lt hk)).same fun _ _ => rfl) (some ⟨w7.heap.size, 0, none⟩) 1 1 [yA] rfl (fun h => by cases h) rfl ((row_oneO w7 yA).same fun _ _ _ => rfl) (by simp only [List.nil_append]; have := HT1.out.2.2; omega) ?_; intro v8 w8 g8 hs8 hg8 hgr8; obtain ⟨k8, off8, m8, cc8, hv8, HP8⟩ := HF2.out _ v8 w8 g8 g7 (hb7.alloc hb7.size (.cells #[.int .u8 yA] 5)) hgw hs8 hg8 ⟨hgr8.os, hgr8.tape, hgr8.output, hgr8.size, hgr8.block⟩; subst hv8; have x81 := (HCe.out w8 HP8.out.2.2.2.2.1).1; have x82 := (HCe.out w8 HP8.out.2.2.2.2.1).2; clear hs8 hg8 hgr8)
                      | (refine step_more rfl _ _ rfl (.slice a7 z7 c7) g7 ([] ++ txC L fs A) rfl (hs7.same fun _ _ => rfl) (some ⟨wd.heap.size, 0, none⟩) 1 1 [yA] rfl (fun h => by cases h) rfl (hrB.same fun _ _ _ => rfl) (by simp only [List.nil_append]; have := HT1.out.2.2; omega) ?_; intro v8 w8 g8 hs8 hg8 hgr8; obtain ⟨k8, off8, m8, cc8, hv8, HP8⟩ := HF2.out _ v8 w8 g8 g7 hb7 hgw hs8 hg8 ⟨hgr8.os, hgr8.tape, hgr8.output, hgr8.size, hgr8.block⟩; subst hv8; have x81 := (HCe.out w8 HP8.out.2.2.2.2.1).1; have x82 := (HCe.out w8 HP8.out.2.2.2.2.1).2; clear hs8 hg8 hgr8)
                      | (refine step_more rfl _ _ rfl (.slice a7 z7 c7) g7 ([] ++ txC L fs A) rfl (hs7.same fun _ _ => rfl) (some ⟨wd.heap.size + 1, 0, none⟩) 1 1 [yA] rfl (fun h => by cases h) rfl (hrB.same fun _ _ _ => rfl) (by simp only [List.nil_append]; have := HT1.out.2.2; omega) ?_; intro v8 w8 g8 hs8 hg8 hgr8; obtain ⟨k8, off8, m8, cc8, hv8, HP8⟩ := HF2.out _ v8 w8 g8 g7 hb7 hgw hs8 hg8 ⟨hgr8.os, hgr8.tape, hgr8.output, hgr8.size, hgr8.block⟩; subst hv8; have x81 := (HCe.out w8 HP8.out.2.2.2.2.1).1; have x82 := (HCe.out w8 HP8.out.2.2.2.2.1).2; clear hs8 hg8 hgr8)
                      | fail)
                    all_goals
                      go_wp2
                      go_meet
                      exact ⟨by first | rfl | (rw [hcNi]) | trivial, k8, off8, m8, cc8, rfl, HP8.out⟩
                case rest =>
                  obtain ⟨rfl, kt, offt, mt, ct9, rfl, HT2⟩ := hcut
                  obtain ⟨we, rfl⟩ : ∃ x, x = wc := ⟨_, rfl⟩
                  have ht9 := ht.old HT2.out.2.2.2.2.1
                  have hx0 : we.cell? ⟨kt, offt, none⟩ = some (.int .u8 yT) := by
                    rcases HT2.out.1 with h | ⟨b', off', e, h9⟩
                    · rw [h] at hTl; simp at hTl
                    · cases e
                      have := h9 0 (by omega)
                      rw [HY.out.1] at this
                      simpa using this
                  have hmt : T.length = mt := HT2.out.2.1
                  have hmt1 : 0 < mt := by omega
                  have hmt2 : ¬ mt = 0 := by omega
                  have hmt3 : (0 : Int) < (mt : Int) := by omega
                  obtain ⟨N2, hN2⟩ : ∃ N2, fcN L + fs2.length = N2 := ⟨_, rfl⟩
                  have HN2 : Hid (fcN L + fs2.length = N2) := hN2
                  clear hmt hN2
                  go_upto_region 32 with fail
                  go_cut [132] from 42 (fun v132 wx => wx = we ∧ ∃ bb : Bool, v132 = .bool bb ∧ Hid ((bb = true → ∃ A : Nat, ah = (A : Int) ∧ A < N ∧ N < 4096) ∧ (bb = false → ah = -1 ∨ ¬ N < 4096 ∧ ∃ A : Nat, ah = (A : Int))))
                  case first => as_aux_lemma =>
                    rcases HX2.out.ahd with hah | ⟨A, hah, hAl⟩
                    · subst hah
                      go_wp2
                      go_meet
                      exact ⟨rfl, false, rfl, (fun h => by cases h), fun _ => .inl (by first | rfl | trivial)⟩
                    · have hA0 : (0 : Int) ≤ (A : Int) := by omega
                      rw [HM.out.2.1] at hAl
                      subst hah
                      by_cases hN40 : N < 4096
                      · have hN40i : (N : Int) < 4096 := by omega
                        go_wp2
                        go_meet
                        exact ⟨rfl, true, by first | rfl | trivial, fun _ => ⟨A, rfl, hAl, hN40⟩, (fun h => by cases h)⟩
                      · have hN40i : ¬ (N : Int) < 4096 := by omega
                        go_wp2
                        go_meet
                        exact ⟨rfl, false, by first | rfl | trivial, (fun h => by cases h), fun _ => .inr ⟨hN40, A, rfl⟩⟩
                  case rest =>
                    obtain ⟨hwcc, bb, rfl, HBB9⟩ := hcut
                    subst hwcc
                    obtain ⟨we, rfl⟩ : ∃ x, x = wc := ⟨_, rfl⟩
                    go_upto_if 132 with fail
                    go_cut [9] from 42 (fun v9 wx => ∃ ta2 tc2 tg2, v9 = .slice ta2 N2 tc2 ∧ Hid (TbM w.heap.size wx (.slice ta2 N2 tc2) tg2 og N2 (txC L fs2) ∧ (∀ k, k < we.heap.size → some k ≠ tg → wx.heap[k]? = we.heap[k]?) ∧ wx.os = we.os ∧ wx.tape = we.tape ∧ wx.output = we.output ∧ we.heap.size ≤ wx.heap.size))
                    case first => as_aux_lemma =>
                      cases bb with
                      | true => as_aux_lemma =>
                        obtain ⟨A, hah, hAl, hN40⟩ := HBB9.out.1 rfl
                        obtain ⟨tb3, toff3, ka2, offa2, ma2, ca2, etb, r1, r2, r3, r4, r5, r6, r7, -⟩ := ht9.at A hAl
                        obtain ⟨rfl, rfl⟩ : tb = tb3 ∧ toff = toff3 := by simpa using etb
                        have hma9 : ma2 ≤ 5000 := by
                          have h1 := txC_len HX2.out.wf A (by have := HM.out; omega) fs.length (by have := HM.out; omega)
                          have := HX2.out.ct
                          omega
                        have HTA : Hid (Row we (some ⟨ka2, offa2, none⟩) (txC L fs A) ∧ (txC L fs A).length = ma2 ∧ ma2 ≤ 5000) := ⟨r6, r2, hma9⟩
                        obtain ⟨vs, hvs1, hvs2, hvs3⟩ := ht9.sl
                        have HV9 : Hid (vs.length = N ∧ vs.length ≤ 1000000 ∧ ∀ W, Below we.heap.size we W → Sl W 22 (.slice (some ⟨tb, toff, none⟩) N tc) tg vs) := ⟨hvs2, by omega, fun W h => hvs1.same fun k hk => h.block k (hvs1.lt hk)⟩
                        have hA0 : ¬ (A : Int) < 0 := by omega
                        have hA1 : (0 : Int) ≤ (A : Int) := by omega
                        have hANi : (A : Int) < (N : Int) := by omega
                        have hYA := HY.out.2.2.1 A hah
                        clear r2 r4 r5 r6 r7 etb
                        subst hah
                        have hN40i : (N : Int) < 4096 := by omega
                        have hfs2 : fs2 = fs ++ [(A, yT)] ∧ N2 = N + 1 := by
                          have h1 := hYA
                          unfold lrnP at h1
                          have hm := HM.out
                          rw [if_pos (by omega)] at h1
                          refine ⟨h1, ?_⟩
                          have := HN2.out
                          rw [h1, List.length_append, List.length_singleton] at this
                          omega
                        have HFS : Hid (fs2 = fs ++ [(A, yT)] ∧ N2 = N + 1) := hfs2
                        clear hfs2
                        have bA : Below we.heap.size we (we.alloc (.cells #[] 5)) := (Below.refl _ _).alloc (Nat.le_refl _) _
                        have bB : Below we.heap.size we ((we.alloc (.cells #[.int .u8 yT] 5)).alloc (.cells #[] 5)) := ((Below.refl _ _).alloc (Nat.le_refl _) _).alloc (by simp) _
                        have bC : Below we.heap.size we ((we.alloc (.cells #[] 5)).alloc (.cells #[.int .u8 yT] 5)) := ((Below.refl _ _).alloc (Nat.le_refl _) _).alloc (by simp) _
                        have htbl := cell_lt r1
                        have hkal := cell_lt hx0
                        have HCe : Hid (∀ W, Below we.heap.size we W → W.cell? ⟨tb, toff + A, none⟩ = some (.slice (some ⟨ka2, offa2, none⟩) ma2 ca2) ∧ W.cell? ⟨kt, offt, none⟩ = some (.int .u8 yT)) := fun W h => ⟨(World.cell?_of_block (a := ⟨tb, toff + A, none⟩) (h.block _ htbl)).trans r1, (World.cell?_of_block (a := ⟨kt, offt, none⟩) (h.block _ hkal)).trans hx0⟩
                        have eA1 := (HCe.out _ bA).1
                        have eA2 := (HCe.out _ bA).2
                        have eB1 := (HCe.out _ bB).1
                        have eB2 := (HCe.out _ bB).2
                        have eC1 := (HCe.out _ bC).1
                        have eC2 := (HCe.out _ bC).2
                        have eD1 := (HCe.out (we.alloc (.cells #[.int .u8 yT] 5)) ((Below.refl _ _).alloc (Nat.le_refl _) _)).1
                        have eD2 := (HCe.out (we.alloc (.cells #[.int .u8 yT] 5)) ((Below.refl _ _).alloc (Nat.le_refl _) _)).2
                        have HSA : Hid (Sl (we.alloc (.cells #[] 5)) 5 (.slice (some ⟨we.heap.size, 0, none⟩) 0 0) (some we.heap.size) (vals [])) := Sl.empty we 5
                        have HSB : Hid (Sl ((we.alloc (.cells #[.int .u8 yT] 5)).alloc (.cells #[] 5)) 5 (.slice (some ⟨we.heap.size + 1, 0, none⟩) 0 0) (some (we.heap.size + 1)) (vals [])) := by have := Sl.empty (we.alloc (.cells #[.int .u8 yT] 5)) 5; rw [World.size_alloc] at this; exact this
                        have HSC : Hid (Sl ((we.alloc (.cells #[] 5)).alloc (.cells #[.int .u8 yT] 5)) 5 (.slice (some ⟨we.heap.size, 0, none⟩) 0 0) (some we.heap.size) (vals [])) := (Sl.empty we 5).same fun k hk => by cases hk; exact Below.heap_alloc _ _ _ (by simp)
                        have HBB : Hid (Below we.heap.size we (we.alloc (.cells #[] 5)) ∧ Below we.heap.size we ((we.alloc (.cells #[.int .u8 yT] 5)).alloc (.cells #[] 5)) ∧ Below we.heap.size we ((we.alloc (.cells #[] 5)).alloc (.cells #[.int .u8 yT] 5))) := ⟨bA, bB, bC⟩
                        have HF1 : Hid (∀ W X w7, Below we.heap.size we W → we.heap.size ≤ X → W.grownBy w7 (some X) → w7.cell? ⟨tb, toff + A, none⟩ = some (.slice (some ⟨ka2, offa2, none⟩) ma2 ca2) ∧ w7.cell? ⟨kt, offt, none⟩ = some (.int .u8 yT) ∧ Below we.heap.size we w7) := by
                          intro W X w7 h1 h2 h3
                          have hb : Below we.heap.size we w7 := h1.grown h3 h1.size (fun k hk => by cases hk; exact h2)
                          exact ⟨(HCe.out w7 hb).1, (HCe.out w7 hb).2, hb⟩
                        have HRB : Hid (∀ w7, ((we.alloc (.cells #[.int .u8 yT] 5)).alloc (.cells #[] 5)).grownBy w7 (some (we.heap.size + 1)) → Row w7 (some ⟨we.heap.size, 0, none⟩) [yT]) := fun w7 h => by
                          have hr : Row (we.alloc (.cells #[.int .u8 yT] 5)) (some ⟨we.heap.size, 0, none⟩) [yT] := row_oneO we yT
                          refine hr.same fun x hx _ => ?_
                          cases hx
                          exact (h.block we.heap.size (by simp; omega) (by simp)).trans (Below.heap_alloc _ _ _ (by simp))
                        have HRC : Hid (∀ w7, ((we.alloc (.cells #[] 5)).alloc (.cells #[.int .u8 yT] 5)).grownBy w7 (some we.heap.size) → Row w7 (some ⟨we.heap.size + 1, 0, none⟩) [yT]) := fun w7 h => by
                          have hr : Row ((we.alloc (.cells #[] 5)).alloc (.cells #[.int .u8 yT] 5)) (some ⟨we.heap.size + 1, 0, none⟩) [yT] := by have := row_oneO (we.alloc (.cells #[] 5)) yT; rw [World.size_alloc] at this; exact this
                          refine hr.same fun x hx _ => ?_
                          cases hx
                          exact h.block (we.heap.size + 1) (by simp) (by simp)
                        have HF2 : Hid (∀ W2 v8 w8 g8 g7, Below we.heap.size we W2 → (∀ k, g7 = some k → we.heap.size ≤ k) → Sl w8 5 v8 g8 (vals (([] ++ txC L fs A) ++ [yT])) → (g8 = g7 ∨ ∃ k, g8 = some k ∧ W2.heap.size ≤ k) → W2.grownBy w8 g7 → ∃ k off m cc, v8 = .slice (some ⟨k, off, none⟩) m cc ∧ Hid (Row w8 (some ⟨k, off, none⟩) (txC L fs A ++ [yT]) ∧ (txC L fs A ++ [yT]).length = m ∧ m ≤ cc ∧ cc ≤ 9223372036854775807 ∧ Below we.heap.size we w8 ∧ (∃ cur, w8.heap[k]? = some (.cells cur 5 (0, 0))) ∧ we.heap.size ≤ k)) := by
                          intro W2 v8 w8 g8 g7 h1 h2 h3 h5 h4
                          rw [List.nil_append] at h3
                          obtain ⟨k, off, cc, e1, e2, e3, e6, e4, e5⟩ := h3.some9 (by rw [List.length_append]; simp)
                          refine ⟨k, off, (txC L fs A ++ [yT]).length, cc, e1, e4, rfl, e2, e3, h1.grown h4 h1.size h2, e5, ?_⟩
                          rcases h5 with e | ⟨j, e, hj⟩
                          · exact h2 k (by rw [← e]; exact e6)
                          · rw [e] at e6; cases e6; have := h1.size; omega
                        have HF3 : Hid (∀ w8 k8 off8 m8 cc8 v9 w9 g9, (Row w8 (some ⟨k8, off8, none⟩) (txC L fs A ++ [yT]) ∧ (txC L fs A ++ [yT]).length = m8 ∧ m8 ≤ cc8 ∧ cc8 ≤ 9223372036854775807 ∧ Below we.heap.size we w8 ∧ (∃ cur, w8.heap[k8]? = some (.cells cur 5 (0, 0))) ∧ we.heap.size ≤ k8) → Sl w9 22 v9 g9 (vs ++ [.slice (some ⟨k8, off8, none⟩) m8 cc8]) → (g9 = tg ∨ ∃ k, g9 = some k ∧ (w8.alloc (.cells #[.slice (some ⟨k8, off8, none⟩) m8 cc8] 22)).heap.size ≤ k) → (w8.alloc (.cells #[.slice (some ⟨k8, off8, none⟩) m8 cc8] 22)).grownBy w9 tg → (∀ j, j < toff + N → w9.cell? ⟨tb, j, none⟩ = (w8.alloc (.cells #[.slice (some ⟨k8, off8, none⟩) m8 cc8] 22)).cell? ⟨tb, j, none⟩) →
                            w9.cell? ⟨tb, toff + A, none⟩ = some (.slice (some ⟨ka2, offa2, none⟩) ma2 ca2) ∧ w9.cell? ⟨kt, offt, none⟩ = some (.int .u8 yT) ∧ ∃ a9 c9, v9 = .slice a9 N2 c9 ∧ Hid (TbM w.heap.size w9 (.slice a9 N2 c9) g9 og N2 (txC L fs2) ∧ (∀ k, k < we.heap.size → some k ≠ tg → w9.heap[k]? = we.heap[k]?) ∧ w9.os = we.os ∧ w9.tape = we.tape ∧ w9.output = we.output ∧ we.heap.size ≤ w9.heap.size)) := by
                          rintro w8 k8 off8 m8 cc8 v9 w9 g9 ⟨p1, p2, p3, p4, p5, ⟨cur8, p6⟩, p7⟩ h1 h2 h3 h4
                          obtain ⟨W, hW⟩ : ∃ W, w8.alloc (.cells #[.slice (some ⟨k8, off8, none⟩) m8 cc8] 22) = W := ⟨_, rfl⟩
                          have hbW8 : Below w8.heap.size w8 W := by rw [← hW]; exact (Below.refl _ _).alloc (Nat.le_refl _) _
                          have hbW : Below we.heap.size we W := p5.trans (hbW8.mono p5.size)
                          rw [hW] at h2 h3 h4
                          have hsW := hbW.size
                          have hkw : ∀ k, k < we.heap.size → some k ≠ tg → w9.heap[k]? = we.heap[k]? := fun k hk hn => (h3.block k (by omega) hn).trans (hbW.block k hk)
                          have htag : ∀ k cur, we.heap[k]? = some (.cells cur 5 (0, 0)) → some k ≠ tg := fun k cur hk e => by
                            obtain ⟨c', hc'⟩ := Sl.tagB9 hvs1 e.symm; rw [hk] at hc'; simp at hc'
                          obtain ⟨curT, hcurT⟩ := HT2.out.2.2.2.2.2.1
                          have htgl : ∀ k, tg = some k → k < we.heap.size := fun k hk => hvs1.lt hk
                          have hk8 : w9.heap[k8]? = some (.cells cur8 5 (0, 0)) := by
                            refine (h3.block k8 (by have := lt_of_block p6; have := hbW8.size; omega) (fun e => by have := htgl k8 e.symm; omega)).trans ?_
                            exact (hbW8.block k8 (lt_of_block p6)).trans p6
                          refine ⟨(h4 (toff + A) (by omega)).trans (HCe.out W hbW).1, (World.cell?_of_block (a := ⟨kt, offt, none⟩) (hkw kt (lt_of_block hcurT) (htag kt curT hcurT))).trans hx0, ?_⟩
                          obtain ⟨a9, c9, hv, -⟩ := h1.shape
                          rw [List.length_append, HV9.out.1, List.length_singleton, ← HFS.out.2] at hv
                          refine ⟨a9, c9, hv, ?_, hkw, h3.os.trans hbW.os, h3.tape.trans hbW.tape, h3.output.trans hbW.output, by have := h3.size; omega⟩
                          have hwe := HX2.out.be.size
                          have hwd := HT2.out.2.2.2.2.1.size
                          have hpush := TbM.push (B := w.heap.size) (w := w9) (og := og) (n := N) (f := txC L fs) (vs := vs) (t := txC L fs A ++ [yT]) (tv' := v9) (tg' := g9) (fun i hi => ?_) HV9.out.1 h1 rfl p2 (by rw [← p2, List.length_append]; simp) p3 p4 (p1.same fun x hx _ => by cases hx; exact hk8.trans p6.symm) ⟨cur8, hk8⟩ (fun e => by have h5 := HX2.out.osl.lt e.symm; omega) (by omega) (fun k hk => by
                            rcases h2 with e | ⟨j, e, hj⟩
                            · exact ht9.tn k (by rw [← e]; exact hk)
                            · rw [e] at hk; cases hk; omega)
                          · rw [hv] at hpush
                            rw [HFS.out.2] at *
                            refine hpush.congr fun i hi => ?_
                            rw [HFS.out.1]
                            by_cases hiN : i < N
                            · simp only [if_pos hiN]
                              exact (tx_app HX2.out.wf _ i (by have := HM.out; omega)).symm
                            · obtain rfl : i = N := by omega
                              simp only [Nat.lt_irrefl, if_false]
                              have e : fcN L + fs.length = i := HM.out.2.1
                              rw [← e, tx_last (by rw [← HFS.out.1]; exact HO.out.1) (show (fs ++ [(A, yT)])[fs.length]? = some (A, yT) by simp), tx_app HX2.out.wf _ A (by omega)]
                          · obtain ⟨k, off, m, c', e1, e2, e3, e4, e5, e6, ⟨cur, e7⟩, e8, e9⟩ := hvs3 i hi
                            have hk9 := hkw k (lt_of_block e7) (htag k cur e7)
                            exact ⟨k, off, m, c', e1, e2, e3, e4, e5, e6.same fun x hx _ => by cases hx; exact hk9, ⟨cur, hk9.trans e7⟩, e8, e9⟩
                        clear bA bB bC htbl hkal hYA
                        go_wp2
                        go_region_held3 (fun u => u.cell? ⟨tb, toff + A, none⟩ = some (.slice (some ⟨ka2, offa2, none⟩) ma2 ca2) ∧ u.cell? ⟨kt, offt, none⟩ = some (.int .u8 yT)) (first | (with_reducible exact ⟨by with_reducible assumption, by with_reducible assumption⟩) | go_keep) (first
                          | (refine step_more rfl _ _ rfl (.slice (some ⟨we.heap.size, 0, none⟩) 0 0) (some (we.heap.size)) [] rfl (HSA.out.same fun _ _ => rfl) (some ⟨ka2, offa2, none⟩) ma2 ca2 (txC L fs A) rfl (fun h => by cases h) HTA.out.2.1 ((HTA.out.1.old HBB.out.1).same fun _ _ _ => rfl) (by simp only [List.length_nil]; omega) ?_; intro v7 w7 g7 hs7 hg7 hgr7; have hgw := gw_of hg7 (show we.heap.size ≤ _ by omega) (by simp <;> omega); obtain ⟨x71, x72, hb7⟩ := HF1.out _ _ w7 HBB.out.1 (by omega) ⟨hgr7.os, hgr7.tape, hgr7.output, hgr7.size, hgr7.block⟩; have x73 := (HCe.out (w7.alloc (.cells #[.int .u8 yT] 5)) (hb7.alloc hb7.size _)).1; have x74 := (HCe.out (w7.alloc (.cells #[.int .u8 yT] 5)) (hb7.alloc hb7.size _)).2; obtain ⟨a7, c7, hv7, -⟩ := hs7.shape; generalize hz7 : (vals ([] ++ txC L fs A)).length = z7 at hv7; subst hv7)
                          | (refine step_more rfl _ _ rfl (.slice (some ⟨we.heap.size + 1, 0, none⟩) 0 0) (some (we.heap.size + 1)) [] rfl (HSB.out.same fun _ _ => rfl) (some ⟨ka2, offa2, none⟩) ma2 ca2 (txC L fs A) rfl (fun h => by cases h) HTA.out.2.1 ((HTA.out.1.old HBB.out.2.1).same fun _ _ _ => rfl) (by simp only [List.length_nil]; omega) ?_; intro v7 w7 g7 hs7 hg7 hgr7; have hgw := gw_of hg7 (show we.heap.size ≤ _ by omega) (by simp <;> omega); have hrB := HRB.out w7 ⟨hgr7.os, hgr7.tape, hgr7.output, hgr7.size, hgr7.block⟩; obtain ⟨x71, x72, hb7⟩ := HF1.out _ _ w7 HBB.out.2.1 (by omega) ⟨hgr7.os, hgr7.tape, hgr7.output, hgr7.size, hgr7.block⟩; have x73 := (HCe.out (w7.alloc (.cells #[.int .u8 yT] 5)) (hb7.alloc hb7.size _)).1; have x74 := (HCe.out (w7.alloc (.cells #[.int .u8 yT] 5)) (hb7.alloc hb7.size _)).2; obtain ⟨a7, c7, hv7, -⟩ := hs7.shape; generalize hz7 : (vals ([] ++ txC L fs A)).length = z7 at hv7; subst hv7)
                          | (refine step_more rfl _ _ rfl (.slice (some ⟨we.heap.size, 0, none⟩) 0 0) (some (we.heap.size)) [] rfl (HSC.out.same fun _ _ => rfl) (some ⟨ka2, offa2, none⟩) ma2 ca2 (txC L fs A) rfl (fun h => by cases h) HTA.out.2.1 ((HTA.out.1.old HBB.out.2.2).same fun _ _ _ => rfl) (by simp only [List.length_nil]; omega) ?_; intro v7 w7 g7 hs7 hg7 hgr7; have hgw := gw_of hg7 (show we.heap.size ≤ _ by omega) (by simp <;> omega); have hrB := HRC.out w7 ⟨hgr7.os, hgr7.tape, hgr7.output, hgr7.size, hgr7.block⟩; obtain ⟨x71, x72, hb7⟩ := HF1.out _ _ w7 HBB.out.2.2 (by omega) ⟨hgr7.os, hgr7.tape, hgr7.output, hgr7.size, hgr7.block⟩; have x73 := (HCe.out (w7.alloc (.cells #[.int .u8 yT] 5)) (hb7.alloc hb7.size _)).1; have x74 := (HCe.out (w7.alloc (.cells #[.int .u8 yT] 5)) (hb7.alloc hb7.size _)).2; obtain ⟨a7, c7, hv7, -⟩ := hs7.shape; generalize hz7 : (vals ([] ++ txC L fs A)).length = z7 at hv7; subst hv7)
                          | (refine step_more rfl _ _ rfl (.slice a7 z7 c7) g7 ([] ++ txC L fs A) rfl ((hs7.same fun k hk => Below.heap_alloc w7 (.cells #[.int .u8 yT] 5) k (hs7.lt hk)).same fun _ _ => rfl) (some ⟨w7.heap.size, 0, none⟩) 1 1 [yT] rfl (fun h => by cases h) rfl ((row_oneO w7 yT).same fun _ _ _ => rfl) (by simp only [List.nil_append]; have := HTA.out.2.1; omega) ?_; intro v8 w8 g8 hs8 hg8 hgr8; obtain ⟨k8, off8, m8, cc8, hv8, HP8⟩ := HF2.out _ v8 w8 g8 g7 (hb7.alloc hb7.size (.cells #[.int .u8 yT] 5)) hgw hs8 hg8 ⟨hgr8.os, hgr8.tape, hgr8.output, hgr8.size, hgr8.block⟩; subst hv8; have x81 := (HCe.out w8 HP8.out.2.2.2.2.1).1; have x82 := (HCe.out w8 HP8.out.2.2.2.2.1).2; have x83 := (HCe.out (w8.alloc (.cells #[.slice (some ⟨k8, off8, none⟩) m8 cc8] 22)) (HP8.out.2.2.2.2.1.alloc HP8.out.2.2.2.2.1.size _)).1; have x84 := (HCe.out (w8.alloc (.cells #[.slice (some ⟨k8, off8, none⟩) m8 cc8] 22)) (HP8.out.2.2.2.2.1.alloc HP8.out.2.2.2.2.1.size _)).2; clear hs8 hg8 hgr8)
                          | (refine step_more rfl _ _ rfl (.slice a7 z7 c7) g7 ([] ++ txC L fs A) rfl (hs7.same fun _ _ => rfl) (some ⟨we.heap.size, 0, none⟩) 1 1 [yT] rfl (fun h => by cases h) rfl (hrB.same fun _ _ _ => rfl) (by simp only [List.nil_append]; have := HTA.out.2.1; omega) ?_; intro v8 w8 g8 hs8 hg8 hgr8; obtain ⟨k8, off8, m8, cc8, hv8, HP8⟩ := HF2.out _ v8 w8 g8 g7 hb7 hgw hs8 hg8 ⟨hgr8.os, hgr8.tape, hgr8.output, hgr8.size, hgr8.block⟩; subst hv8; have x81 := (HCe.out w8 HP8.out.2.2.2.2.1).1; have x82 := (HCe.out w8 HP8.out.2.2.2.2.1).2; have x83 := (HCe.out (w8.alloc (.cells #[.slice (some ⟨k8, off8, none⟩) m8 cc8] 22)) (HP8.out.2.2.2.2.1.alloc HP8.out.2.2.2.2.1.size _)).1; have x84 := (HCe.out (w8.alloc (.cells #[.slice (some ⟨k8, off8, none⟩) m8 cc8] 22)) (HP8.out.2.2.2.2.1.alloc HP8.out.2.2.2.2.1.size _)).2; clear hs8 hg8 hgr8)
                          | (refine step_more rfl _ _ rfl (.slice a7 z7 c7) g7 ([] ++ txC L fs A) rfl (hs7.same fun _ _ => rfl) (some ⟨we.heap.size + 1, 0, none⟩) 1 1 [yT] rfl (fun h => by cases h) rfl (hrB.same fun _ _ _ => rfl) (by simp only [List.nil_append]; have := HTA.out.2.1; omega) ?_; intro v8 w8 g8 hs8 hg8 hgr8; obtain ⟨k8, off8, m8, cc8, hv8, HP8⟩ := HF2.out _ v8 w8 g8 g7 hb7 hgw hs8 hg8 ⟨hgr8.os, hgr8.tape, hgr8.output, hgr8.size, hgr8.block⟩; subst hv8; have x81 := (HCe.out w8 HP8.out.2.2.2.2.1).1; have x82 := (HCe.out w8 HP8.out.2.2.2.2.1).2; have x83 := (HCe.out (w8.alloc (.cells #[.slice (some ⟨k8, off8, none⟩) m8 cc8] 22)) (HP8.out.2.2.2.2.1.alloc HP8.out.2.2.2.2.1.size _)).1; have x84 := (HCe.out (w8.alloc (.cells #[.slice (some ⟨k8, off8, none⟩) m8 cc8] 22)) (HP8.out.2.2.2.2.1.alloc HP8.out.2.2.2.2.1.size _)).2; clear hs8 hg8 hgr8)
                          | (refine step_rowK rfl _ _ rfl tb toff N tc tg vs rfl ((HV9.out.2.2 _ (HP8.out.2.2.2.2.1.alloc HP8.out.2.2.2.2.1.size (.cells #[.slice (some ⟨k8, off8, none⟩) m8 cc8] 22))).same fun _ _ => rfl) w8.heap.size 1 (.slice (some ⟨k8, off8, none⟩) m8 cc8) rfl (by have := cell_new9 w8 (.slice (some ⟨k8, off8, none⟩) m8 cc8); exact this) rfl HV9.out.2.1 ?_; intro v9 w9 g9 hs9 hg9 hgr9 hkp9; obtain ⟨x91, x92, a9, c9, hv9, HP9⟩ := HF3.out w8 k8 off8 m8 cc8 v9 w9 g9 HP8.out hs9 hg9 ⟨hgr9.os, hgr9.tape, hgr9.output, hgr9.size, hgr9.block⟩ hkp9; subst hv9; clear hs9 hg9 hgr9 hkp9)
                          | fail)
                        all_goals
                          go_wp2
                          go_meet
                          exact ⟨a9, c9, g9, rfl, HP9.out⟩
                      | false => as_aux_lemma =>
                        have HFS : Hid (fs2 = fs ∧ N2 = N) := by
                          have h1 : fs2 = fs := by
                            rcases HBB9.out.2 rfl with h | ⟨h, A, h9⟩
                            · exact (HY.out.2.1 h).1
                            · rw [HY.out.2.2.1 A h9]
                              unfold lrnP
                              have hm := HM.out
                              rw [if_neg (by omega)]
                          refine ⟨h1, ?_⟩
                          have := HN2.out
                          have := HM.out
                          rw [h1] at *
                          omega
                        go_wp2
                        go_meet
                        exact ⟨some ⟨tb, toff, none⟩, tc, tg, by rw [HFS.out.2], by rw [HFS.out.2, HFS.out.1]; exact ht9, fun _ _ _ => rfl, rfl, rfl, rfl, Nat.le_refl _⟩
                    case rest =>
                      obtain ⟨ta2, tc2, tg2, rfl, HB9⟩ := hcut
                      obtain ⟨wf, rfl⟩ : ∃ x, x = wc := ⟨_, rfl⟩
                      have HI : Hid (OfI w P6 P11 ((bitsL zs).drop (P + W)) N2 (txC L fs2) T kt offt out (.slice la2 M2 lc2) (.slice ta2 N2 tc2) (.slice ao ol co) lg tg2 og wf) := OfI.of HX2.out HL3.out HT2.out.2.2.2.2.1 HB9.out.2.1 HB9.out.2.2.1 HB9.out.2.2.2.1 HB9.out.2.2.2.2.1 HB9.out.2.2.2.2.2 HB9.out.1 HT2.out.1 HT2.out.2.2.2.2.2.1 HT2.out.2.2.2.2.2.2
                      have HQ9 : Hid (T.length = mt ∧ out.length = ol ∧ ol ≤ lm ∧ mt ≤ 5000 ∧ mt ≤ ct9 ∧ ct9 ≤ 9223372036854775807 ∧ out.length ≤ 5000 * P ∧ P ≤ 240000) := ⟨HT2.out.2.1, HOV.out.2, by have := HX2.out.ol; have := HOV.out.2; omega, by have := HT2.out.2.1; omega, HT2.out.2.2.1, HT2.out.2.2.2.1, HOB.out, by have := HM.out; omega⟩
                      have hmt5 : mt ≤ 5000 := HQ9.out.2.2.2.1
                      clear HB9 HX2 HL3 HT2 hx0 ht ht9 HBB9 hTl HOV
                      go_wp2
                      go_loopw [17, 150, 151, 152, 153, 154, 155, 156, 157, 158, 159, 160, 161, 162, 163, 164, 165, 166, 167] (fun v17 v150 _ _ _ _ _ _ _ _ _ _ _ _ _ _ _ _ _ wr => ∃ (i l2 : Nat) (ao : Option Addr) (co : Nat) (og : Option Nat), v150 = .int .i64 (i : Int) ∧ i ≤ mt ∧ Hid (l2 = ol + i ∧ l2 ≤ lm ∧ OfI w P6 P11 ((bitsL zs).drop (P + W)) N2 (txC L fs2) T kt offt (out ++ T.take i) (.slice la2 M2 lc2) (.slice ta2 N2 tc2) (.slice ao l2 co) lg tg2 og wr)) (fun _ v150 _ _ _ _ _ _ _ _ _ _ _ _ _ _ _ _ _ _ => mt - (intOf v150).toNat)
                      case atStart => exact ⟨0, ol, ao, co, og, rfl, Nat.zero_le _, rfl, HQ9.out.2.2.1, by rw [List.take_zero, List.append_nil]; exact HI.out⟩
                      case round =>
                        clear HI
                        obtain ⟨i, l2, ao2, co2, og2, rfl, hi, HI2⟩ := hrel
                        by_cases hlt : i < mt
                        · have hltI : (i : Int) < (mt : Int) := by omega
                          have hi0 : (0 : Int) ≤ (i : Int) := by omega
                          obtain ⟨x, hx9⟩ : ∃ x, T[i]?.getD 0 = x := ⟨_, rfl⟩
                          have HX9 : Hid (T.take (i + 1) = T.take i ++ [x]) := by
                            have h1 : i < T.length := by have := HQ9.out.1; omega
                            rw [List.getElem?_eq_getElem h1] at hx9
                            have h2 : T[i] = x := by simpa using hx9
                            rw [← h2]
                            exact List.take_succ_eq_append_getElem h1
                          have hx := HI2.out.2.2.at (i := i) (by have := HQ9.out.1; omega)
                          rw [hx9] at hx
                          clear hx9
                          obtain ⟨x0, x1, x2, x3, xf⟩ := HI2.out.2.2.r11.cells
                          by_cases hfull : l2 = lm
                          · as_aux_lemma =>
                            have hfi : lim ≤ (l2 : Int) := by have := HLM.out; omega
                            have HE : Hid (RC9 (wr.setCell ⟨P11, 2, none⟩ (.int .i64 9)) P11 (.slice ao2 l2 co2) (.slice none 0 0) 9 false ∧ RC9 (wr.setCell ⟨P11, 2, none⟩ (.int .i64 9)) P6 (.slice none 0 0) (.slice none 0 0) 0 false ∧ RC9 (lay4 (wr.setCell ⟨P11, 2, none⟩ (.int .i64 9)) P6 (.slice ao2 l2 co2) (.slice none 0 0) 9 false) P6 (.slice ao2 l2 co2) (.slice none 0 0) 9 false ∧ OfP w (lzO L lm zs) (.returned (.agg #[.slice ao2 l2 co2, .slice none 0 0, .int .i64 9, .bool false])) (lay4 (wr.setCell ⟨P11, 2, none⟩ (.int .i64 9)) P6 (.slice ao2 l2 co2) (.slice none 0 0) 9 false)) := by
                              have hq := HQ9.out
                              have hi2 := HI2.out
                              obtain ⟨m1, m2, m3, m4⟩ := lzT_more (zs := zs) (P := P + W) (fs := fs) (fs2 := fs2) (ah := ah) (c := c) (T := T) (out := out) (i := i) (lm := lm) (by omega) (by omega)
                              have es := HG2.out
                              rw [lzG_stop (.inl (by rw [m2]; decide))] at es
                              exact hi2.2.2.stop 9 (lzO L lm zs) (by rw [es]; exact m1) (by rw [es]; exact m4) (by rw [es, m2, m3]; rfl) (by rw [es, m2]; decide) (by rw [List.length_append, List.length_take, hi2.1]; congr 1; omega)
                            have xf2 := xf 2
                            obtain ⟨y0, y1, y2, y3, yf⟩ := HE.out.1.cells
                            obtain ⟨u0, u1, u2, u3, uf⟩ := HE.out.2.1.cells
                            have uf0 := uf 0
                            have uf1 := uf 1
                            have uf2 := uf 2
                            have uf3 := uf 3
                            clear xf yf uf HI2 hfull
                            go_wp2
                            obtain ⟨z0, z1, z2, z3, zf⟩ := HE.out.2.2.1.cells
                            have HPF := HE.out.2.2.2
                            clear HE
                            change bodyPost Try.prog Try.f12 _ Exit.ret _ (lay4 (wr.setCell ⟨P11, 2, none⟩ (.int .i64 9)) P6 (.slice ao2 l2 co2) (.slice none 0 0) 9 false)
                            generalize lay4 (wr.setCell ⟨P11, 2, none⟩ (.int .i64 9)) P6 (.slice ao2 l2 co2) (.slice none 0 0) 9 false = wf at *
                            refine bodyPost_ret (v := .agg #[.slice ao2 l2 co2, .slice none 0 0, .int .i64 9, .bool false]) ?_ rfl HPF
                            rw [results_cell9 rfl]
                            clear HPF
                            go_simp
                          · as_aux_lemma =>
                            have hfi : ¬ lim ≤ (l2 : Int) := by have := HLM.out; have := HI2.out.2.1; omega
                            have HSW : Hid (Sl (wr.alloc (.cells #[.int .u8 x] 5)) 5 (.slice ao2 l2 co2) og2 (vals (out ++ T.take i))) := HI2.out.2.2.osl.same fun k hk => Below.heap_alloc _ _ _ (HI2.out.2.2.osl.lt hk)
                            have HLn : Hid ((out ++ T.take i).length + 1 ≤ 140737488351232) := by
                              have hq := HQ9.out
                              show _ ≤ _
                              rw [List.length_append, List.length_take]; omega
                            have HFX : Hid (∀ v7 w7 g7, Sl w7 5 v7 g7 (vals ((out ++ T.take i) ++ [x])) → (g7 = og2 ∨ ∃ k, g7 = some k ∧ (wr.alloc (.cells #[.int .u8 x] 5)).heap.size ≤ k) → (wr.alloc (.cells #[.int .u8 x] 5)).grownBy w7 og2 → w7.cell? ⟨P11, 0, none⟩ = some (.slice ao2 l2 co2) ∧ w7.frozen? ⟨P11, 0, none⟩ = false ∧ ∃ a7 l7 c7, v7 = .slice a7 l7 c7 ∧ Hid (l7 = ol + (i + 1) ∧ l7 ≤ lm ∧ OfI w P6 P11 ((bitsL zs).drop (P + W)) N2 (txC L fs2) T kt offt (out ++ T.take (i + 1)) (.slice la2 M2 lc2) (.slice ta2 N2 tc2) (.slice a7 l7 c7) lg tg2 g7 (w7.setCell ⟨P11, 0, none⟩ (.slice a7 l7 c7)))) := by
                              intro v7 w7 g7 h1 h2 h3
                              obtain ⟨r9, o9⟩ := HI2.out.2.2.tell h1 h2 h3
                              obtain ⟨s0, s1, s2, s3, sf⟩ := r9.cells
                              obtain ⟨a7, c7, hv7, -⟩ := h1.shape
                              have hq := HQ9.out
                              have hi2 := HI2.out
                              refine ⟨s0, sf 0, a7, _, c7, hv7, ?_, ?_, ?_⟩
                              · rw [vals_len, List.length_append, List.length_append, List.length_take, List.length_singleton]; omega
                              · rw [vals_len, List.length_append, List.length_append, List.length_take, List.length_singleton]; omega
                              · rw [HX9.out, ← List.append_assoc, ← hv7]; exact o9
                            clear xf hfull
                            go_wp2_with (at_builtin; refine wpList_more rfl _ _ rfl (.slice ao2 l2 co2) og2 (out ++ T.take i) rfl HSW.out (some ⟨wr.heap.size, 0, none⟩) 1 1 [x] rfl (fun h => by cases h) rfl (row_oneO wr x) HLn.out ?_; intro v7 w7 g7 hs7 hg7 hgr7; obtain ⟨q70, q7f, a7, l7, c7, hv7, HN7⟩ := HFX.out v7 w7 g7 hs7 hg7 hgr7; subst hv7; clear hs7 hg7 hgr7)
                            go_roundw
                            case rel => exact ⟨i + 1, l7, a7, c7, g7, by go_num, by omega, HN7.out⟩
                            case measure => simp [intOf]; omega
                        · as_aux_lemma =>
                          obtain rfl : i = mt := by omega
                          have HN : Hid (l2 ≤ lm ∧ OfR w L P6 P11 lm zs (P + W) fs2 (c : Int) (out ++ T) (.slice la2 M2 lc2) (.slice ta2 N2 tc2) (.slice ao2 l2 co2) lg tg2 og2 wr ∧ (out ++ T).length ≤ 5000 * (P + W)) := by
                            have hq := HQ9.out
                            have hi2 := HI2.out
                            obtain ⟨g1, g2, h⟩ := hi2
                            rw [List.take_of_length_le (by omega)] at h
                            have hlen : (out ++ T).length = out.length + T.length := List.length_append
                            have htb := h.tb
                            rw [← HN2.out] at htb
                            refine ⟨g2, ⟨h.r6, h.r11, h.osl, h.lsl, ?_, h.be, h.pb, h.on, by have := HM2.out; have := HA.out.1; omega, HO.out.1, HO.out.2.1, .inr ⟨c, rfl, HO.out.2.2.1⟩, by rw [hlen]; omega, ?_⟩, by rw [hlen]; omega⟩
                            · rw [HN2.out] at htb ⊢; exact htb
                            · rw [HG2.out, lzT_room (by omega)]
                          clear HI2
                          go_wp2
                          go_roundw
                          case rel =>
                            refine ⟨_, _, _, _, _, _, _, _, _, _, _, _, _, _, _, _, _, _, _, _, _, _, _, _, _, _, _, _, _, _, _, _, _, _, _, _, _, _, _, _, _, _, _, _, _, _, _, _, _, _, _, _, _, _, _, _, _, _, _, _, _, _, _, _, _, _, _, _, _, _, _, _, _, _, _, _, _, _, _, _, _, _, _, _, _, _, _, _, _, _, _, _, _, _, _, _, _, _, _, _, _, _, _, _, _, _, _, _, _, _, _, _, _, _, _, _, _, _, _, _, _, _, _, _, _, _, _, _, _, _, _, _, _, ?_, rfl⟩
                            exact ⟨P + W, fs2, (c : Int), out ++ T, la2, lc2, ta2, tc2, .slice ao2 l2 co2, lg, tg2, og2, ⟨by rw [HM2.out.2.1], by rw [HN2.out], HM2.out.2.2.1, HN.out.2.2⟩, rfl, by rw [HM2.out.2.1, HN2.out]; exact HN.out.2.1⟩
                          case measure => exact HM2.out.2.2.2
end Go.Proofs.Ytcbmlioeeoghkaa
