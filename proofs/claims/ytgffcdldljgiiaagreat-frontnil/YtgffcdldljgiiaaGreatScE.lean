/- A GIF's beginning: blocks that are read byte by byte: the program's walk. -/
import Derived.Test.YtgffcdldljgiiaaGreatScD
import Derived.Test.YtgffcdldljgiiaaGreatBk4
import Derived.Deep.LoopGhost
namespace Go.Proofs.YtgffcdldljgiiaaGreat
open Go.RowKit
/-- The reader behind the first k bytes. -/
def rb (st : St) (k : Nat) : List Int × Bs := bgo bs0 ((stZ st).take k)
structure RbI (w : World) (c U : Nat) (st : St) (k : Nat) (s : St) (tv : Value) (tg g : Option Nat) (wr : World) : Prop where
  cs : CS wr c U s
  br : BR wr w.heap.size (rb st k).2 g
  tx : Sl wr 5 tv tg (vals (rb st k).1)
  rs : (rb st k).2.rest = []
  kl : k ≤ (stZ st).length
  so : (s = .ok ((stZ st).drop k) ∧ stE st = 0) ∨ (k = (stZ st).length ∧ (rb st k).2.done = false ∧ s = (if stE st = 0 then .error 2 else st))
  gr : w.grownBy wr (some c)
  tn : ∀ q, tg = some q → w.heap.size < q ∧ g ≠ some q
  gn : ∀ q, g = some q → w.heap.size < q
  ne : ∀ e, st = .error e → e ≠ 0
theorem rb_one {s : Bs} (hd : s.done = false) (hr : s.rest = []) (l : List Int) (hl : l.length ≤ 1) : (bgo s l).2.rest = [] := by
  match l, hl with
  | [], _ => exact hr
  | [x], _ =>
    by_cases h0 : s.left = 0
    · rw [bgo_zero hd h0]; exact hr
    · rw [bgo_succ hd h0]; exact hr
theorem rb_step (st : St) (k : Nat) : bL 1 (.ok ((stZ st).drop k)) = ((stZ st).drop k).take 1 ∧ (((stZ st).drop k).take 1).length ≤ 1 ∧ rb st (k + (((stZ st).drop k).take 1).length) = ((rb st k).1 ++ (bgo (rb st k).2 (((stZ st).drop k).take 1)).1, (bgo (rb st k).2 (((stZ st).drop k).take 1)).2) := by
  refine ⟨?_, by rw [List.length_take]; omega, ?_⟩
  · by_cases h : ((stZ st).drop k).length < 1
    · rw [bL_short h]
      have : (stZ st).drop k = [] := List.length_eq_zero_iff.1 (by omega)
      rw [this]; rfl
    · exact bL_more h
  · unfold rb
    have e : (stZ st).take (k + (((stZ st).drop k).take 1).length) = (stZ st).take k ++ ((stZ st).drop k).take 1 := by
      rw [List.take_add]
      congr 1
      rw [List.length_take]
      by_cases h : ((stZ st).drop k).length < 1
      · have : (stZ st).drop k = [] := List.length_eq_zero_iff.1 (by omega)
        rw [this]; simp
      · rw [Nat.min_eq_left (by omega)]
    rw [e, bgo_append]
/-- One byte more, or none is left. -/
theorem RbI.next {w : World} {c U : Nat} {st : St} {k : Nat} {tv tv' : Value} {tg g tg' g' : Option Nat} {wr w' : World} (h : RbI w c U st k (.ok ((stZ st).drop k)) tv tg g wr) (he : stE st = 0) (hd : (rb st k).2.done = false)
    (hc : CS w' c U (bS 1 (.ok ((stZ st).drop k)))) (hb : BR w' w.heap.size (bgo (rb st k).2 (((stZ st).drop k).take 1)).2 g') (ht : Sl w' 5 tv' tg' (vals ((rb st k).1 ++ (bgo (rb st k).2 (((stZ st).drop k).take 1)).1)))
    (hg : w.grownBy w' (some c)) (htn : ∀ q, tg' = some q → w.heap.size < q ∧ g' ≠ some q) (hgn : ∀ q, g' = some q → w.heap.size < q) :
    RbI w c U st (k + (((stZ st).drop k).take 1).length) (bS 1 (.ok ((stZ st).drop k))) tv' tg' g' w' := by
  obtain ⟨_, e2, e3⟩ := rb_step st k
  have hkl := h.kl
  refine ⟨hc, by rw [e3]; exact hb, by rw [e3]; exact ht, by rw [e3]; exact rb_one hd h.rs _ e2, ?_, ?_, hg, htn, hgn, h.ne⟩
  · rw [List.length_take, List.length_drop]; omega
  · by_cases hl : ((stZ st).drop k).length < 1
    · have e0 : (stZ st).drop k = [] := List.length_eq_zero_iff.1 (by omega)
      rw [List.length_drop] at hl
      refine .inr ⟨?_, ?_, ?_⟩
      · rw [e0]; simp; omega
      · rw [e3, e0]; exact hd
      · rw [if_pos he, e0]; exact bS1_nil
    · refine .inl ⟨?_, he⟩
      rw [bS_more hl, List.drop_drop, List.length_take, Nat.min_eq_left (by omega)]
/-- At the end. -/
theorem RbI.fin {w : World} {c U : Nat} {st : St} {k : Nat} {s : St} {tv : Value} {tg g : Option Nat} {wr : World} (h : RbI w c U st k s tv tg g wr) (he : (rb st k).2.done = true ∨ stE s ≠ 0) : (rb st k).1 = bkT st ∧ (rb st k).2.seen = bkN st ∧ CS wr c U (bkS st) := by
  have hcs := h.cs
  rcases h.so with ⟨hs, h0⟩ | ⟨hk, hd, hs⟩
  · have hd : (rb st k).2.done = true := by
      rcases he with h | h
      · exact h
      · rw [hs] at h; exact absurd rfl h
    cases st with
    | error e => exact absurd h0 (h.ne e rfl)
    | ok z =>
      have e1 : bgo bs0 z = ((rb (.ok z) k).1, { (rb (.ok z) k).2 with rest := z.drop k }) := by
        have := bgo_append (z.take k) (z.drop k) bs0
        rw [List.take_append_drop] at this
        have hd' : (bgo bs0 (z.take k)).2.done = true := hd
        have hr' : (bgo bs0 (z.take k)).2.rest = [] := h.rs
        rw [bgo_done hd', hr'] at this
        rw [this]
        simp [rb, stZ]
      refine ⟨?_, ?_, ?_⟩
      · show _ = (bgo bs0 z).1; rw [e1]
      · show _ = (bgo bs0 z).2.seen; rw [e1]
      · have e2 : bkS (.ok z) = .ok (z.drop k) := by
          show (if (bgo bs0 z).2.done = true then _ else _) = _
          rw [e1, if_pos hd]
        rw [e2, ← show s = .ok (z.drop k) from hs]
        exact hcs
  · have ht : (stZ st).take k = stZ st := List.take_of_length_le (by omega)
    have hrb : rb st k = bgo bs0 (stZ st) := by unfold rb; rw [ht]
    rw [hrb] at hd ⊢
    refine ⟨rfl, rfl, ?_⟩
    cases st with
    | error e =>
      have : s = .error e := by rw [hs]; exact if_neg (h.ne e rfl)
      rw [this] at hcs
      exact hcs
    | ok z =>
      have e2 : bkS (.ok z) = .error 2 := if_neg (by rw [show (bgo bs0 z).2.done = false from hd]; simp)
      have : s = .error 2 := by rw [hs]; rfl
      rw [e2, ← this]
      exact hcs
def RkPost (w : World) (c U : Nat) (st : St) (e : Ending) (w' : World) : Prop := ∃ a cap g, e = .returned (.tuple #[.slice a (bkT st).length cap, .int .i64 (bkN st)]) ∧ Sl w' 5 (.slice a (bkT st).length cap) g (vals (bkT st)) ∧ CS w' c U (bkS st) ∧ w.grownBy w' (some c)
theorem rb_bd {w : World} {c U : Nat} {st : St} (h : CS w c U st) (k : Nat) : (rb st k).2.left ≤ 255 ∧ (rb st k).2.seen ≤ 140737488355328 ∧ (rb st k).1.length ≤ 140737488355328 := by
  have hb := h.byt.take k
  have hl : ((stZ st).take k).length ≤ 140737488355328 := by rw [List.length_take]; have := h.ln; omega
  refine ⟨bgo_left _ bs0 hb (by decide), ?_, Nat.le_trans (bgo_told _ bs0) hl⟩
  have := bgo_seen ((stZ st).take k) bs0
  simp only [bs0, Nat.zero_add] at this
  exact Nat.le_trans this hl
set_option maxHeartbeats 3200000 in
set_option maxRecDepth 20000 in
theorem readBlocks_any (c U : Nat) (st : St) (w : World) (h : CS w c U st) (hU : U ≤ w.heap.size) : Calls Tryz.prog 261 #[.pointer (some ⟨c, 0, none⟩)] w fun e w' => RkPost w c U st e w' := by
  have HU : Hid (U ≤ w.heap.size) := hU
  have HC : Hid (CS w c U st) := h
  have CN := bnew_any w
  clear h hU
  go_enter Tryz.func261, Tryz.ntmps261
  go_wp2_with fail
  refine CN.mono ?_
  clear CN
  rintro e w1 ⟨rfl, hr1, hb1⟩
  have H0 : Hid (RbI w c U st 0 (if stE st = 0 then .ok (stZ st) else st) (.slice none 0 0) none none w1) := by
    have hcs : (if stE st = 0 then Except.ok (stZ st) else st) = st := by
      cases st with
      | ok z => rfl
      | error e => exact if_neg (HC.out.ne e rfl)
    refine ⟨by rw [hcs]; exact HC.out.old hb1, hr1, Sl.nil _ _, rfl, Nat.zero_le _, ?_, grownBy_of_below hb1 _, (by intro q hq; cases hq), (by intro q hq; cases hq), HC.out.ne⟩
    cases st with
    | ok z => exact .inl ⟨rfl, rfl⟩
    | error e => exact .inr ⟨rfl, rfl, by rw [if_neg (show ¬ stE (.error e) = 0 from HC.out.ne e rfl), if_neg (show ¬ stE (.error e) = 0 from HC.out.ne e rfl)]⟩
  clear hr1 hb1
  go_wp2
  go_loopg [5] ((stZ st).length + 1) (fun fu tv wr => ∃ (k : Nat) (s : St) (at' : Option Addr) (n ct : Nat) (tg g : Option Nat), tv = .slice at' n ct ∧ Hid ((rb st k).1.length = n ∧ (stE s = 0 → (stZ st).length - k < fu)) ∧ Hid (RbI w c U st k s (.slice at' n ct) tg g wr))
  case atStart => exact ⟨0, _, none, 0, 0, none, none, rfl, ⟨rfl, fun _ => by omega⟩, H0⟩
  case round =>
    clear H0
    obtain ⟨k, s, at', n, ct, tg, g, rfl, HK, HI⟩ := hrel
    have CD := bdone_any HI.out.br
    by_cases hd : (rb st k).2.done = true
    · rw [hd] at CD
      obtain ⟨f1, f2, f3⟩ := HI.out.fin (.inl hd)
      have CS2 := bseen_any HI.out.br
      rw [f2] at CS2
      have HF : Hid ((rb st k).1 = bkT st ∧ CS wr c U (bkS st)) := ⟨f1, f3⟩
      clear hd f1 f2 f3
      go_wp2_with (first
        | (go_at_call 220; refine CD.mono ?_; rintro e w2 ⟨rfl, rfl⟩; clear CD)
        | (go_at_call 273; refine CS2.mono ?_; rintro e w2 ⟨rfl, rfl⟩; clear CS2))
      go_ret2
      have ht := HI.out.tx
      have hn := HK.out.1
      rw [HF.out.1] at ht hn
      subst hn
      exact ⟨_, _, _, rfl, ht, HF.out.2, HI.out.gr⟩
    · have hd' : (rb st k).2.done = false := by simpa using hd
      rw [hd'] at CD
      have CE := HI.out.cs.err
      by_cases he : stE s = 0
      · rw [he] at CE
        have hs : s = .ok ((stZ st).drop k) ∧ stE st = 0 := by
          rcases HI.out.so with q | ⟨_, _, q⟩
          · exact q
          · exfalso
            have hne := HI.out.cs.ne
            cases s with
            | ok z =>
              by_cases h0 : stE st = 0
              · rw [if_pos h0] at q; cases q
              · rw [if_neg h0] at q; rw [← q] at h0; exact h0 rfl
            | error e => exact hne e rfl he
        have HI2 : Hid (RbI w c U st k (.ok ((stZ st).drop k)) (.slice at' n ct) tg g wr) := by have := HI.out; rw [hs.1] at this; exact this
        have HE : Hid (stE st = 0 ∧ (rb st k).2.done = false ∧ (stZ st).length - k < gk) := ⟨hs.2, hd', HK.out.2 he⟩
        have CB := HI2.out.cs.bytes 1 (by omega) (by omega)
        obtain ⟨e1, e2, e3⟩ := rb_step st k
        rw [e1] at CB
        have HL : Hid ((((stZ st).drop k).take 1).length ≤ 1 ∧ Bytes (((stZ st).drop k).take 1)) := ⟨e2, (HC.out.byt.drop k).take 1⟩
        have HN : Hid (∀ {tv' : Value} {tg' g' : Option Nat} {w' : World}, CS w' c U (bS 1 (.ok ((stZ st).drop k))) → BR w' w.heap.size (bgo (rb st k).2 (((stZ st).drop k).take 1)).2 g' → Sl w' 5 tv' tg' (vals ((rb st k).1 ++ (bgo (rb st k).2 (((stZ st).drop k).take 1)).1)) → w.grownBy w' (some c) → (∀ q, tg' = some q → w.heap.size < q ∧ g' ≠ some q) → (∀ q, g' = some q → w.heap.size < q) → RbI w c U st (k + (((stZ st).drop k).take 1).length) (bS 1 (.ok ((stZ st).drop k))) tv' tg' g' w') := fun a1 a2 a3 a4 a5 a6 => HI2.out.next HE.out.1 HE.out.2.1 a1 a2 a3 a4 a5 a6
        have HFu : Hid (stE (bS 1 (.ok ((stZ st).drop k))) = 0 → (stZ st).length - (k + (((stZ st).drop k).take 1).length) < gk - 1 ∧ 0 < gk) := fun q => by
          by_cases hl : ((stZ st).drop k).length < 1
          · rw [bS_short hl] at q; simp [stE] at q
          · have := HE.out.2.2
            rw [List.length_drop] at hl
            rw [List.length_take, List.length_drop]
            omega
        have HBd : Hid _ := rb_bd HC.out k
        have HL1 : Hid ((((stZ st).drop k).take 1).length = 1 → k < (stZ st).length) := fun q => by rw [List.length_take, List.length_drop] at q; omega
        generalize bS 1 (.ok ((stZ st).drop k)) = s2 at *
        generalize ((stZ st).drop k).take 1 = l at *
        have hgk : 0 < gk := by have := HE.out.2.2; omega
        clear hs hd hd' he e1 e2 e3
        go_wp2_with (first
          | (go_at_call 220; refine CD.mono ?_; rintro e w2 ⟨rfl, rfl⟩; clear CD)
          | (go_at_call 139; refine CE.mono ?_; rintro e w2 ⟨rfl, rfl⟩; clear CE))
        refine CB.mono ?_
        clear CB
        rintro e w2 ⟨a2, cap2, g2, rfl, hs2, hg2, hl2, hm2, hn2, hc2, hgr2⟩
        have hb2 : BR w2 w.heap.size (rb st k).2 g := HI2.out.br.same (hgr2.block _ HI2.out.br.lt (by have := HC.out.lt; simp; omega)) fun q hq => hgr2.block _ (HI2.out.br.glt hq) (by have := HI2.out.gn q hq; have := HC.out.lt; simp; omega)
        have ht2 : Sl w2 5 (.slice at' n ct) tg (vals (rb st k).1) := HI2.out.tx.same fun q hq => hgr2.block _ (HI2.out.tx.lt hq) (by have := (HI2.out.tn q hq).1; have := HC.out.lt; simp; omega)
        have CP := bpush_any w.heap.size g (rb st k).2 l a2 l.length cap2 w2 hb2 rfl hl2 hm2 hn2 (hs2.row rfl) HL.out.2 HBd.out.1 (by have := HBd.out; have := HL.out; omega) (by rw [HI2.out.rs]; have := HL.out; simp; omega)
        have HX2 : Hid (Sl w2 5 (.slice at' n ct) tg (vals (rb st k).1) ∧ CS w2 c U s2 ∧ w.grownBy w2 (some c) ∧ (∀ q, tg = some q → w.heap.size < q ∧ g ≠ some q ∧ q < w2.heap.size) ∧ (∀ q, g = some q → w.heap.size < q ∧ q < w2.heap.size) ∧ w.heap.size < w2.heap.size) := ⟨ht2, hc2, grownBy_trans HI2.out.gr hgr2, fun q hq => ⟨(HI2.out.tn q hq).1, (HI2.out.tn q hq).2, ht2.lt hq⟩, fun q hq => ⟨HI2.out.gn q hq, hb2.glt hq⟩, hb2.lt⟩
        clear hs2 hg2 hl2 hm2 hn2 hc2 hgr2 hb2 ht2
        go_wp2_with fail
        refine CP.mono ?_
        clear CP
        rintro e w3 ⟨tv3, tg3, g3, rfl, hs3, hf3, hb3, hg3, hfr3⟩
        obtain ⟨a3, c3, hv3, hl3, hm3, hn3⟩ := hs3.shape
        rw [vals_len] at hv3 hl3
        subst hv3
        have hgn3 : ∀ q, g3 = some q → w.heap.size < q ∧ tg ≠ some q := fun q hq => by
          rcases hg3 with e | ⟨j, e, hj⟩
          · have := HX2.out.2.2.2.2.1 q (by rw [← e]; exact hq)
            exact ⟨this.1, fun h => (HX2.out.2.2.2.1 q h).2.1 (by rw [← e]; exact hq)⟩
          · rw [e] at hq; cases hq
            have h6 := HX2.out.2.2.2.2.2
            exact ⟨by omega, fun h => by have := (HX2.out.2.2.2.1 q h).2.2; omega⟩
        have HX3 : Hid (Sl w3 5 (.slice at' n ct) tg (vals (rb st k).1) ∧ CS w3 c U s2 ∧ w.grownBy w3 (some c) ∧ BR w3 w.heap.size (bgo (rb st k).2 l).2 g3 ∧ (∀ q, g3 = some q → w.heap.size < q ∧ tg ≠ some q) ∧ (∀ q, tg = some q → w.heap.size < q)) := by
          have hc0 := HC.out.lt
          have hu0 := HU.out
          refine ⟨HX2.out.1.same fun q hq => hfr3.block _ (HX2.out.1.lt hq) (by have := HX2.out.2.2.2.1 q hq; omega) (fun e => (HX2.out.2.2.2.1 q hq).2.1 e.symm), ?_, ?_, hb3, hgn3, fun q hq => (HX2.out.2.2.2.1 q hq).1⟩
          · have hcs := HX2.out.2.1
            obtain ⟨a', cap', q1, q2, q3, q4, q5⟩ := hcs.cur
            have hq1 := lt_of_block q1
            have oth : ∀ j, j < w.heap.size → w3.heap[j]? = w2.heap[j]? := fun j hj => hfr3.block j (by have := HX2.out.2.2.2.2.2; omega) (by omega) (fun e => by have := HX2.out.2.2.2.2.1 j e.symm; omega)
            exact ⟨⟨a', cap', (oth c hc0).trans q1, q2, q3, q4.same fun x hx hz => oth _ (by have := q5 x hx hz; omega), q5⟩, hcs.byt, hcs.ln, hcs.ne, hcs.cu⟩
          · have hg := HX2.out.2.2.1
            exact ⟨hfr3.os.trans hg.os, hfr3.tape.trans hg.tape, hfr3.output.trans hg.output, Nat.le_trans hg.size hfr3.size, fun j hj hne => (hfr3.block j (by have := HX2.out.2.2.2.2.2; omega) (by omega) (fun e => by have := HX2.out.2.2.2.2.1 j e.symm; omega)).trans (hg.block j hj hne)⟩
        have HR3 : Hid (Row w3 a3 (bgo (rb st k).2 l).1) := hs3.row rfl
        have HLn : Hid ((rb st k).1.length + (bgo (rb st k).2 l).1.length ≤ 140737488355328) := by
          show _ ≤ _
          have h1 := bgo_told l (rb st k).2
          have h2 := HL.out.1
          have h3 := bgo_told ((stZ st).take k) bs0
          have h4 := HE.out.2.2
          have h5 := HC.out.ln
          have h6 : (rb st k).1.length ≤ 140737488355328 := HBd.out.2.2
          rcases (show l.length = 0 ∨ l.length = 1 by omega) with q | q
          · omega
          · have h7 := HL1.out q
            have h8 : (rb st k).1.length ≤ k := by
              have : (rb st k).1.length ≤ ((stZ st).take k).length := h3
              rw [List.length_take] at this; omega
            omega
        have HnK : Hid ((rb st k).1.length = n) := HK.out.1
        clear hs3 hf3 hb3 hg3 hfr3 hgn3 hl3 hm3 HX2 HK
        generalize (bgo (rb st k).2 l).1 = told at *
        go_wp2_with (at_builtin; refine wpList_moreX rfl _ _ rfl (.slice at' n ct) tg (rb st k).1 rfl HX3.out.1 a3 told.length c3 told rfl hn3 rfl HR3.out HLn.out ?_; intro v7 w7 g7 hs7 hg7 hgr7; obtain ⟨a7, c7, hv7, -⟩ := hs7.shape; rw [vals_len] at hv7; subst hv7)
        have hsz7 := hgr7.size
        have HI7 : Hid (RbI w c U st (k + l.length) s2 (.slice a7 ((rb st k).1 ++ told).length c7) g7 g3 w7) := by
          have hc0 := HC.out.lt
          have hu0 := HU.out
          have tgne : ∀ q, tg = some q → w.heap.size < q := HX3.out.2.2.2.2.2
          refine HN.out ?_ (HX3.out.2.2.2.1.same (hgr7.block _ HX3.out.2.2.2.1.lt (fun e => by have := tgne _ e.symm; omega)) fun q hq => hgr7.block _ (HX3.out.2.2.2.1.glt hq) (fun e => (HX3.out.2.2.2.2.1 q hq).2 e.symm)) hs7 ?_ ?_ fun q hq => (HX3.out.2.2.2.2.1 q hq).1
          · have hcs := HX3.out.2.1
            obtain ⟨a', cap', q1, q2, q3, q4, q5⟩ := hcs.cur
            have oth : ∀ j, j < w.heap.size → w7.heap[j]? = w3.heap[j]? := fun j hj => hgr7.block j (by have := HX3.out.2.2.2.1.lt; omega) (fun e => by have := tgne j e.symm; omega)
            exact ⟨⟨a', cap', (oth c hc0).trans q1, q2, q3, q4.same fun x hx hz => oth _ (by have := q5 x hx hz; omega), q5⟩, hcs.byt, hcs.ln, hcs.ne, hcs.cu⟩
          · have hg := HX3.out.2.2.1
            exact ⟨hgr7.os.trans hg.os, hgr7.tape.trans hg.tape, hgr7.output.trans hg.output, Nat.le_trans hg.size hgr7.size, fun j hj hne => (hgr7.block j (by have := hg.size; omega) (fun e => by have := tgne j e.symm; omega)).trans (hg.block j hj hne)⟩
          · intro q hq
            rcases hg7 with e | ⟨j, e, hj⟩
            · rw [e] at hq; exact ⟨tgne q hq, fun h => (HX3.out.2.2.2.2.1 q h).2 hq⟩
            · rw [e] at hq; cases hq
              exact ⟨by have := HX3.out.2.2.2.1.lt; omega, fun h => by have := HX3.out.2.2.2.1.glt h; omega⟩
        clear hs7 hg7 hgr7 hsz7
        have HK7 : Hid ((rb st (k + l.length)).1.length = ((rb st k).1 ++ told).length ∧ (stE s2 = 0 → (stZ st).length - (k + l.length) < gk - 1)) := by
          refine ⟨?_, fun q => (HFu.out q).1⟩
          have ht := HI7.out.tx
          obtain ⟨_, _, hv, _⟩ := ht.shape
          simp only [Value.slice.injEq, vals_len] at hv
          exact hv.2.1.symm
        rw [List.length_append] at HI7 HK7
        generalize (rb st k).1.length + told.length = n7 at *
        go_roundg (gk - 1)
        case rel => exact ⟨k + l.length, s2, a7, n7, c7, g7, g3, rfl, HK7, HI7⟩
        case measure => omega
      · have hne1 : (stE s == 0) = false := by simpa using he
        obtain ⟨f1, f2, f3⟩ := HI.out.fin (.inr he)
        have CS2 := bseen_any HI.out.br
        rw [f2] at CS2
        have HF : Hid ((rb st k).1 = bkT st ∧ CS wr c U (bkS st)) := ⟨f1, f3⟩
        generalize stE s = ES at *
        clear hd hd' he f1 f2 f3
        go_wp2_with (first
          | (go_at_call 220; refine CD.mono ?_; rintro e w2 ⟨rfl, rfl⟩; clear CD)
          | (go_at_call 139; refine CE.mono ?_; rintro e w2 ⟨rfl, rfl⟩; clear CE)
          | (go_at_call 273; refine CS2.mono ?_; rintro e w2 ⟨rfl, rfl⟩; clear CS2))
        go_ret2
        have ht := HI.out.tx
        have hn := HK.out.1
        rw [HF.out.1] at ht hn
        subst hn
        exact ⟨_, _, _, rfl, ht, HF.out.2, HI.out.gr⟩
end Go.Proofs.YtgffcdldljgiiaaGreat
