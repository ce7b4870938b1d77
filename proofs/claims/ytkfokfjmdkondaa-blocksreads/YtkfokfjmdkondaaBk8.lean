/- Small blocks, made by the document. -/
import Derived.Test.YtkfokfjmdkondaaBk7
namespace Go.Proofs.Ytkfokfjmdkondaa
open Go.RowKit
set_option maxHeartbeats 400000 in
theorem rpack_no (v : Value) (n : Int) (hn : n < 1 ∨ 255 < n) (w : World) : Calls Try.prog 16 #[v, .int .i64 n] w fun e w' => e = .returned (.tuple #[.slice none 0 0, .int .i64 1]) ∧ w' = w := by
  rcases hn with hn | hn
  · go_enter Try.func16, Try.ntmps16
    go_wp2
    go_ret2
    exact ⟨rfl, rfl⟩
  · have hn1 : ¬ n < 1 := by omega
    go_enter Try.func16, Try.ntmps16
    go_wp2
    go_ret2
    exact ⟨rfl, rfl⟩
structure RpRel (w : World) (n : Nat) (bs : List Int) (t : Nat) (T : List Int) (a' : Option Addr) (c' : Nat) (tv : Value) (tg : Option Nat) (wr : World) : Prop where
  tle : t ≤ bs.length
  told : T.length + 2 * (bs.length - t) ≤ 2 * bs.length
  go : bpk n bs = T ++ bpk n (bs.drop t)
  cle : bs.length - t ≤ c'
  cm : c' ≤ 9223372036854775807
  c0 : a' = none → c' = 0
  row : Row w a' (bs.drop t)
  sl : Sl wr 5 tv tg (vals T)
  new : ∀ k, tg = some k → w.heap.size ≤ k
  be : Below w.heap.size w wr
theorem RpRel.next {w : World} {n : Nat} {bs : List Int} {t : Nat} {T : List Int} {a' : Option Addr} {c' : Nat} {tv : Value} {tg : Option Nat} {wr : World} (h : RpRel w n bs t T a' c' tv tg wr) (hn : 1 ≤ n) (ht : t < bs.length) {N : Nat} (hN : min n (bs.length - t) = N)
    {v8 : Value} {g7 g8 : Option Nat} {wx w7 w8 : World} (hx : Below w.heap.size w wx) (hg7 : g7 = tg ∨ ∃ k, g7 = some k ∧ wx.heap.size ≤ k) (hgr7 : wx.grownBy w7 tg)
    (hs8 : Sl w8 5 v8 g8 (vals (T ++ [(N : Int)] ++ (bs.drop t).take N))) (hg8 : g8 = g7 ∨ ∃ k, g8 = some k ∧ w7.heap.size ≤ k) (hgr8 : w7.grownBy w8 g7) :
    RpRel w n bs (t + N) (T ++ (N : Int) :: (bs.drop t).take N) (if c' = N then a' else Option.map (fun x => x.add N) a') (c' - N) v8 g8 w8 := by
  have hNl : N ≤ bs.length - t := by omega
  have htk : (bs.drop t).take N = (bs.drop t).take n ∧ (bs.drop t).drop N = (bs.drop t).drop n := by
    rw [← hN]
    rcases Nat.le_total n (bs.length - t) with h | h
    · rw [Nat.min_eq_left h]; exact ⟨rfl, rfl⟩
    · rw [Nat.min_eq_right h]
      exact ⟨by rw [List.take_of_length_le (by rw [List.length_drop]; omega), List.take_of_length_le (by rw [List.length_drop]; omega)], by rw [List.drop_of_length_le (by rw [List.length_drop]; omega), List.drop_of_length_le (by rw [List.length_drop]; omega)]⟩
  have hb7 : Below w.heap.size w w7 := hx.grown hgr7 hx.size h.new
  have hn7 : ∀ k, g7 = some k → w.heap.size ≤ k := by
    intro k hk
    rcases hg7 with e | ⟨j, e, hj⟩
    · exact h.new k (by rw [← e, hk])
    · rw [e] at hk; cases hk; have := hx.size; omega
  have hb8 : Below w.heap.size w w8 := hb7.grown hgr8 hb7.size hn7
  refine ⟨by omega, ?_, ?_, by have := h.cle; omega, by have := h.cm; omega, ?_, ?_, ?_, ?_, hb8⟩
  · have := h.told
    rw [List.length_append, List.length_cons, List.length_take, List.length_drop]; omega
  · have hne : bs.drop t ≠ [] := by intro e; rw [List.drop_eq_nil_iff] at e; omega
    rw [h.go, bpk_step hn hne, List.length_drop, hN, ← List.drop_drop, htk.1, htk.2]
    simp
  · intro hnone
    by_cases hc : c' = N
    · omega
    · rw [if_neg hc] at hnone
      cases a' with
      | none => have := h.c0 rfl; omega
      | some x => cases hnone
  · have := h.row.cut N c' (by rw [List.length_drop]; exact hNl) (by rw [List.length_drop]; exact h.cle)
    rwa [List.drop_drop] at this
  · rw [List.append_assoc, List.singleton_append] at hs8; exact hs8
  · intro k hk
    rcases hg8 with e | ⟨j, e, hj⟩
    · exact hn7 k (by rw [← e, hk])
    · rw [e] at hk; cases hk; have := hb7.size; omega
set_option maxHeartbeats 1600000 in
set_option maxRecDepth 100000 in
theorem rpack_any (bs : List Int) (av : Option Addr) (m c n : Nat) (w : World) (hn : 1 ≤ n) (hn2 : n ≤ 255) (hm : bs.length = m) (hmc : m ≤ c) (hcm : c ≤ 9223372036854775807) (hc0 : av = none → c = 0) (hrow : Row w av bs) (hsum : 2 * bs.length + 1 ≤ 140737488351232) :
    Calls Try.prog 16 #[.slice av m c, .int .i64 n] w fun e w' => BkPost w (bpk n bs ++ [0]) e w' := by
  have HS : Hid (RpRel w n bs 0 [] av c (.slice none 0 0) none w) := ⟨Nat.zero_le _, by simp, by simp, by omega, hcm, hc0, by simpa using hrow, Sl.nil _ _, (by intro k hk; cases hk), Below.refl _ _⟩
  have HL : Hid (2 * bs.length + 1 ≤ 140737488351232 ∧ bs.length = m) := ⟨hsum, hm⟩
  have HV : Hid (Value.slice av m c = .slice av (bs.length - 0) c) := by rw [hm]; rfl
  clear hm hmc hcm hc0 hrow hsum
  have hn1i : ¬ (n : Int) < 1 := by omega
  have hn2i : ¬ (255 : Int) < (n : Int) := by omega
  go_enter Try.func16, Try.ntmps16
  go_wp2
  go_loopg [0, 6, 7] bs.length (fun fu v0 tv _ wr => ∃ (t : Nat) (T : List Int) (a' : Option Addr) (c' : Nat) (tg : Option Nat), fu + t = bs.length ∧ Hid (v0 = .slice a' (bs.length - t) c') ∧ Hid (RpRel w n bs t T a' c' tv tg wr))
  case atStart => exact ⟨0, [], av, c, none, by omega, HV.out, HS.out⟩
  case round =>
    clear HS HV
    obtain ⟨t, T, a', c', tg, hfu, H0, HR⟩ := hrel
    obtain ⟨M, hM⟩ : ∃ M, bs.length - t = M := ⟨_, rfl⟩
    rw [H0.out, hM]
    have HM : Hid (bs.length - t = M ∧ gk + t = bs.length ∧ t ≤ bs.length) := ⟨hM, hfu, HR.out.tle⟩
    have hMc : M ≤ c' := by have := HR.out.cle; omega
    have hc2 := HR.out.cm
    obtain ⟨at', ct, hv, hl1, hl2, hl3⟩ := HR.out.sl.shape
    rw [vals_len] at hv hl1
    have HSl : Hid (Sl wr 5 (.slice at' T.length ct) tg (vals T)) := by have := HR.out.sl; rw [hv] at this; exact this
    rw [hv]
    obtain ⟨TL, hTL⟩ : ∃ TL, T.length = TL := ⟨_, rfl⟩
    have HTL : Hid (T.length = TL) := hTL
    rw [hTL] at hl1 ⊢
    clear hM hfu H0 hl2 hl3 hv hTL
    by_cases hM0 : M = 0
    · have hend : bs.drop t = [] := by rw [List.drop_eq_nil_iff]; have := HM.out; omega
      have hgo := HR.out.go
      rw [hend, bpk_nil, List.append_nil] at hgo
      obtain ⟨W3, hW3⟩ : ∃ W3, wr.alloc (.cells #[.int .u8 0] 5) = W3 := ⟨_, rfl⟩
      have hb3 : Below w.heap.size w W3 := by rw [← hW3]; exact HR.out.be.alloc HR.out.be.size _
      have HR3 : Hid (Row W3 (some ⟨wr.heap.size, 0, none⟩) [0]) := by show Row _ _ _; rw [← hW3]; exact row_new wr [0]
      have HS3 : Hid (Sl W3 5 (.slice at' TL ct) tg (vals T)) := by
        have := HSl.out; rw [HTL.out] at this
        rw [← hW3]; exact this.same fun k hk => Below.heap_alloc _ _ _ (this.lt hk)
      have HE : Hid (∀ w7 v7 g7, Sl w7 5 v7 g7 (vals (T ++ [0])) → (g7 = tg ∨ ∃ k, g7 = some k ∧ W3.heap.size ≤ k) → W3.grownBy w7 tg → BkPost w (bpk n bs ++ [0]) (.returned (.tuple #[v7, .int .i64 0])) w7) := by
        intro w7 v7 g7 h1 h2 h3
        rw [hgo]
        refine ⟨v7, g7, rfl, h1, ?_, hb3.grown h3 hb3.size HR.out.new⟩
        intro k hk
        rcases h2 with e | ⟨j, e, hj⟩
        · exact HR.out.new k (by rw [← e, hk])
        · rw [e] at hk; cases hk; have := hb3.size; omega
      have HLn : Hid (T.length + 1 ≤ 140737488351232) := by show _ ≤ _; have := HR.out.told; have := HL.out; omega
      clear hend hgo hb3
      subst hM0
      go_wp2_with (at_builtin; refine wpList_more rfl _ _ rfl (.slice at' TL ct) tg T rfl HS3.out (some ⟨wr.heap.size, 0, none⟩) 1 1 [0] rfl (by intro h; cases h) rfl HR3.out HLn.out ?_; intro v8 w8 g8 hs8 hg8 hgr8; obtain ⟨a8, c8, hv8, -⟩ := hs8.shape; generalize (vals (T ++ [0])).length = z8 at hv8; subst hv8; have y2 := HE.out w8 _ g8 hs8 hg8 hgr8; clear hs8 hg8 hgr8)
      go_ret2
      exact y2
    · have hM1 : 0 < M := by omega
      go_upto_region 5 with fail
      go_cut [7] (fun v wx => wx = wr ∧ ∃ N : Nat, v = .int .i64 N ∧ Hid (min n (bs.length - t) = N) ∧ 0 < N ∧ N ≤ 255 ∧ N ≤ M)
      case first =>
        rcases (show (n : Int) < (M : Int) ∨ M < n ∨ n = M by omega) with hlt | hlt | hlt
        · go_wp2
          go_meet
          exact ⟨rfl, n, rfl, (by have := HM.out; omega : min n (bs.length - t) = n), by omega, by omega, by omega⟩
        · have hlt2 : (M : Int) < (n : Int) := by omega
          go_wp2
          go_meet
          exact ⟨rfl, M, rfl, (by have := HM.out; omega : min n (bs.length - t) = M), by omega, by omega, by omega⟩
        · have HM2 := HM.out
          subst hlt
          go_wp2
          go_meet
          exact ⟨rfl, n, rfl, (by omega : min n (bs.length - t) = n), by omega, by omega, by omega⟩
      case rest =>
        obtain ⟨rfl, N, rfl, HN, hN0, hN255, hNM⟩ := hcut
        have hb3 : Below w.heap.size w (wc.alloc (.cells #[.int .u8 N] 5)) := HR.out.be.alloc HR.out.be.size _
        have HR3 : Hid (Row (wc.alloc (.cells #[.int .u8 N] 5)) (some ⟨wc.heap.size, 0, none⟩) [(N : Int)]) := row_new wc [(N : Int)]
        have HS3 : Hid (Sl (wc.alloc (.cells #[.int .u8 N] 5)) 5 (.slice at' TL ct) tg (vals T)) := by
          have := HSl.out; rw [HTL.out] at this
          exact this.same fun k hk => Below.heap_alloc _ _ _ (this.lt hk)
        have HP : Hid (∀ w7 g7 v8 w8 g8, (g7 = tg ∨ ∃ k, g7 = some k ∧ (wc.alloc (.cells #[.int .u8 N] 5)).heap.size ≤ k) → (wc.alloc (.cells #[.int .u8 N] 5)).grownBy w7 tg → Sl w8 5 v8 g8 (vals (T ++ [(N : Int)] ++ (bs.drop t).take N)) → (g8 = g7 ∨ ∃ k, g8 = some k ∧ w7.heap.size ≤ k) → w7.grownBy w8 g7 → RpRel w n bs (t + N) (T ++ (N : Int) :: (bs.drop t).take N) (if c' = N then a' else Option.map (fun x => x.add N) a') (c' - N) v8 g8 w8) :=
          fun w7 g7 v8 w8 g8 h2 h3 h4 h5 h6 => HR.out.next hn (by have := HM.out; omega) HN.out hb3 h2 h3 h4 h5 h6
        have HRp : Hid (∀ w7 g7, (g7 = tg ∨ ∃ k, g7 = some k ∧ (wc.alloc (.cells #[.int .u8 N] 5)).heap.size ≤ k) → (wc.alloc (.cells #[.int .u8 N] 5)).grownBy w7 tg → Row w7 a' ((bs.drop t).take N)) := fun w7 g7 _ h => ((HR.out.row.take N).old (hb3.grown h hb3.size HR.out.new))
        have HLn : Hid (T.length + 1 + N ≤ 140737488351232 ∧ ((bs.drop t).take N).length = N ∧ (a' = none → c' = 0)) := ⟨by have := HR.out.told; have := HL.out; have := HM.out; omega, by rw [List.length_take, List.length_drop]; have := HM.out; omega, HR.out.c0⟩
        clear hb3 hM0
        have hNMi : (N : Int) ≤ (M : Int) := by omega
        have hNci : (N : Int) ≤ (c' : Int) := by omega
        have hNc : N ≤ c' := by omega
        have hwN : IntKind.u8.wrap (N : Int) = (N : Int) := by rw [IntKind.wrap_u8]; omega
        go_wp2
        go_region_law (first
          | (refine step_more rfl _ _ rfl (.slice a7 z7 c7) g7 (T ++ [(N : Int)]) rfl (hs7.same fun _ _ => rfl) a' N c' ((bs.drop t).take N) rfl HLn.out.2.2 HLn.out.2.1 ((HRp.out w7 g7 hg7 ⟨hgr7.os, hgr7.tape, hgr7.output, hgr7.size, hgr7.block⟩).same fun _ _ _ => rfl) (by have := HLn.out; rw [List.length_append, List.length_singleton]; omega) ?_; intro v8 w8 g8 hs8 hg8 hgr8; obtain ⟨a8, c8, hv8, -⟩ := hs8.shape; generalize (vals (T ++ [(N : Int)] ++ (bs.drop t).take N)).length = z8 at hv8; subst hv8)
          | (refine step_more rfl _ _ rfl (.slice at' TL ct) tg T rfl (HS3.out.same fun _ _ => rfl) (some ⟨wc.heap.size, 0, none⟩) 1 1 [(N : Int)] rfl (by intro h; cases h) rfl (HR3.out.same fun _ _ _ => rfl) (by have := HLn.out; have := HTL.out; omega) ?_; intro v7 w7 g7 hs7 hg7 hgr7; obtain ⟨a7, c7, hv7, -⟩ := hs7.shape; generalize (vals (T ++ [(N : Int)])).length = z7 at hv7; subst hv7)
          | fail)
        all_goals
          have HP2 : Hid (RpRel w n bs (t + N) (T ++ (N : Int) :: (bs.drop t).take N) (if c' = N then a' else Option.map (fun x => x.add N) a') (c' - N) (.slice a8 z8 c8) g8 w8) := HP.out w7 g7 _ w8 g8 hg7 ⟨hgr7.os, hgr7.tape, hgr7.output, hgr7.size, hgr7.block⟩ hs8 hg8 hgr8
          clear hs7 hg7 hgr7 hs8 hg8 hgr8 HP HRp HS3 HR3 HSl
          by_cases hcN : c' = N
          · obtain rfl : M = c' := by omega
            rw [if_pos hcN] at HP2
            subst hcN
            go_wp2
            go_roundg (bs.length - (t + M))
            case rel => exact ⟨t + M, _, a', M - M, g8, by have := HM.out; omega, (by rw [show bs.length - (t + M) = 0 by have := HM.out; omega, Nat.sub_self] : Value.slice a' 0 0 = .slice a' (bs.length - (t + M)) (M - M)), HP2.out⟩
            case measure => have := HM.out; omega
          · rw [if_neg hcN] at HP2
            have hcNi : ¬ (c' : Int) = N := by omega
            go_wp2
            go_roundg (bs.length - (t + N))
            case rel => exact ⟨t + N, _, _, c' - N, g8, by have := HM.out; omega, (by rw [show bs.length - (t + N) = M - N by have := HM.out; omega] : Value.slice (Option.map (fun x => x.add N) a') (M - N) (c' - N) = .slice (Option.map (fun x => x.add N) a') (bs.length - (t + N)) (c' - N)), HP2.out⟩
            case measure => have := HM.out; omega
end Go.Proofs.Ytkfokfjmdkondaa
