/- LZW: a code's text, told byte by byte. -/
import Derived.Test.YtcbmlioeeoghkaaLzF
namespace Go.Proofs.Ytcbmlioeeoghkaa
open Go.RowKit
attribute [local go_sem] Oper.semAt_some
theorem callFnL {f : FuncId} {fn : Func} (hf : Try.prog.funcs[f]? = some fn) (hn : (fn.name == "runtime.NumGoroutine") = false) (hb : fn.body.isNone = false) (args : Array Value) (w : World) : (callFunc f args).run Try.prog w = .ok (.enter f args) w := by
  have h1 : fn.name ≠ "runtime.NumGoroutine" := by simpa using hn
  have h2 : fn.body ≠ none := by intro e; rw [e] at hb; cases hb
  simp [callFunc, hf, h1, h2]
/-- What a text's iterator finds: its two boxes, the table. -/
structure TxM (w : World) (cb tb d B L c0 : Nat) (fv : Value) (fs : List Tx) : Prop where
  cbx : w.cell? ⟨cb, 0, none⟩ = some (.int .i64 c0)
  tbx : w.cell? ⟨tb, 0, none⟩ = some (.pointer (some ⟨d, 6, none⟩))
  k6 : w.cell? ⟨d, 6, none⟩ = some (.int .i64 L)
  k7 : w.cell? ⟨d, 7, none⟩ = some fv
  row : TbR w B fv fs
theorem cell_old {w w' : World} {p : Addr} {v : Value} (h : w.cell? p = some v) (hb : Below w.heap.size w w') : w'.cell? p = some v := (World.cell?_of_block (a := p) (hb.block _ (cell_lt h))).trans h
theorem TxM.old {w w' : World} {cb tb d B L c0 : Nat} {fv : Value} {fs : List Tx} (h : TxM w cb tb d B L c0 fv fs) (hb : Below w.heap.size w w') : TxM w' cb tb d B L c0 fv fs :=
  ⟨cell_old h.cbx hb, cell_old h.tbx hb, cell_old h.k6 hb, cell_old h.k7 hb, h.row.same fun _ _ _ hk => hb.block _ (lt_of_block hk)⟩
/-- What a round must keep: the iterator's own blocks, from A up to Z. -/
structure KpR (A Z : Nat) (W W' : World) : Prop where
  size : W.heap.size ≤ W'.heap.size
  block : ∀ k, A ≤ k → k < Z → W'.heap[k]? = W.heap[k]?
/-- What the iterator's book-keeping changes: its own blocks alone. -/
structure OtR (A Z : Nat) (W W' : World) : Prop where
  os : W'.os = W.os
  tape : W'.tape = W.tape
  output : W'.output = W.output
  size : W'.heap.size = W.heap.size
  block : ∀ k, (k < A ∨ Z ≤ k) → W'.heap[k]? = W.heap[k]?
theorem OtR.put {A Z k : Nat} {W : World} (o : Obj) (h1 : A ≤ k) (h2 : k < Z) : OtR A Z W (W.putObj k o) := ⟨rfl, rfl, rfl, by simp, fun j hj => World.putObj_heap_other (by omega)⟩
set_option maxHeartbeats 400000 in
theorem backward_any (a : Option Addr) (n c : Nat) (w : World) : Calls Try.prog 60 #[.slice a n c] w fun e w' => e = .returned (.func (.func 61) #[] #[.pointer (some ⟨w.heap.size, 0, none⟩)]) ∧ w' = w.alloc (.cells #[.slice a n c] 22) := by
  go_enter Try.func60, Try.ntmps60
  go_wp2
  go_ret
  exact ⟨rfl, rfl⟩
/-- Between two bytes: the iterator's own blocks. -/
structure TxI (J : Nat → Nat → World → Prop) (A Z sb l D y0 : Nat) (a : Option Addr) (n c : Nat) (T : List Int) (g : Option Nat) (mk : LoopState → Option Code → Loop) (i : Nat) (W : World) : Prop where
  j : J Z i W
  yb : W.heap[A]? = some (.cells #[.func (.yield y0) #[] #[]] 98 (0, 0))
  sbx : W.heap[sb]? = some (.cells #[.slice a n c] 22 (0, 0))
  sl : Sl W 5 (.slice a n c) g (vals T)
  lp : W.heap[l]? = some (.loop (mk .ready none))
  dp : W.heap[D]? = some (.deferred (some []))
  sz : Z ≤ W.heap.size
theorem one_cellL {w : World} {b : Nat} {v : Value} {t : TypeId} (h : w.heap[b]? = some (.cells #[v] t (0, 0))) : w.cell? ⟨b, 0, none⟩ = some v ∧ w.frozen? ⟨b, 0, none⟩ = false := by
  constructor <;> simp [World.cell?, World.frozen?, h]
theorem roundIn_inL {l2 m m' : Nat} {P : Program} {l : Nat} {f : FuncId} {tmps : Array Value} {assign body : Code} {w : World} {R : Ending → World → Prop} (h : RoundIn Fence.wide m P l f tmps assign body w R) : RoundIn (Fence.wide.inRound l2) m' P l f tmps assign body w R :=
  ⟨h.1, fun c cs _ => h.2 c cs (room_wide _)⟩
theorem reverse_at (T : List Int) (i : Nat) (hi : i < T.length) : (T.reverse[i]?).getD 0 = (T[T.length - 1 - i]?).getD 0 := by
  rw [List.getElem?_reverse hi]
theorem row_oneL (w : World) (z : Int) : Row (w.alloc (.cells #[.int .u8 z] 5)) (some ⟨w.heap.size, 0, none⟩) [z] := by
  refine .inr ⟨w.heap.size, 0, rfl, fun i hi => ?_⟩
  obtain rfl : i = 0 := by simp at hi; omega
  rw [World.cell?_alloc_mark]; rfl
set_option maxHeartbeats 3200000 in
set_option maxRecDepth 100000 in
theorem text1_any {W0 : World} {l cb tb d B L c0 : Nat} {fv : Value} {fs : List Tx} (hL : 2 ≤ L ∧ L ≤ 8) (hm : TxM W0 cb tb d B L c0 fv fs) (hwf : WfT L fs) (hlf : fs.length ≤ 4096) (hc : c0 < fcN L + fs.length) (T : List Int) (hT : txC L fs c0 = T)
    (hl : l < W0.heap.size) (J : Nat → Nat → World → Prop) (Dn : Nat → World → Prop)
    (h0 : ∀ Z W, Below W0.heap.size W0 W → Z = W.heap.size → J Z 0 W)
    (hJs : ∀ Z k W1 W2, J Z k W1 → OtR W0.heap.size Z W1 W2 → J Z k W2) (hDs : ∀ Z W1 W2, Dn Z W1 → OtR W0.heap.size Z W1 W2 → Dn Z W2)
    (hY : ∀ (Z i : Nat) W1, i < T.length → J Z i W1 → Z ≤ W1.heap.size → YieldAt Fence.wide 3 Try.prog l #[.int .u8 ((T[i]?).getD 0)] W1 fun e W2 => ∃ b : Bool, e = .returned (.bool b) ∧ KpR W0.heap.size Z W1 W2 ∧ (b = true → J Z (i + 1) W2) ∧ (b = false → Dn Z W2)) :
    Calls Try.prog 59 #[.func (.yield l) #[] #[], .pointer (some ⟨cb, 0, none⟩), .pointer (some ⟨tb, 0, none⟩)] W0 fun e W' => (∃ v, e = .returned v) ∧ ∃ Z, J Z T.length W' ∨ Dn Z W' := by
  have HC : Hid (∀ w, Calls Try.prog 49 #[.int .i64 L] w fun e w' => e = .returned (.int .i64 (fcN L : Int)) ∧ w' = w) := fun w => furtherCode_any hL w
  have hF : 6 ≤ fcN L ∧ fcN L ≤ 258 := by have := fc_bd hL; unfold fcN; omega
  have HA : Hid (TxM W0 cb tb d B L c0 fv fs ∧ WfT L fs ∧ fs.length ≤ 4096 ∧ c0 < fcN L + fs.length ∧ txC L fs c0 = T ∧ l < W0.heap.size) := ⟨hm, hwf, hlf, hc, hT, hl⟩
  have HJ : Hid ((∀ Z W, Below W0.heap.size W0 W → Z = W.heap.size → J Z 0 W) ∧ (∀ Z k W1 W2, J Z k W1 → OtR W0.heap.size Z W1 W2 → J Z k W2) ∧ (∀ Z W1 W2, Dn Z W1 → OtR W0.heap.size Z W1 W2 → Dn Z W2)) := ⟨h0, hJs, hDs⟩
  have HY : Hid (∀ (Z i : Nat) W1, i < T.length → J Z i W1 → Z ≤ W1.heap.size → YieldAt Fence.wide 3 Try.prog l #[.int .u8 ((T[i]?).getD 0)] W1 fun e W2 => ∃ b : Bool, e = .returned (.bool b) ∧ KpR W0.heap.size Z W1 W2 ∧ (b = true → J Z (i + 1) W2) ∧ (b = false → Dn Z W2)) := hY
  obtain ⟨a, cap, rfl, hlc, hcm, -, ha0⟩ := hm.row.shape
  obtain ⟨F, hFe⟩ : ∃ F, fcN L = F := ⟨_, rfl⟩
  have HFe : Hid (fcN L = F) := hFe
  rw [hFe] at hF HC
  obtain ⟨n, hn⟩ : ∃ n, fs.length = n := ⟨_, rfl⟩
  have Hn : Hid (fs.length = n) := hn
  rw [hFe, hn] at hc
  rw [hn] at hlf hlc hm
  obtain ⟨w1, hw1⟩ : ∃ w1, W0.alloc (.cells #[.func (.yield l) #[] #[]] 98) = w1 := ⟨_, rfl⟩
  have hb1 : Below W0.heap.size W0 w1 := by rw [← hw1]; exact (Below.refl _ _).alloc (Nat.le_refl _) _
  have hy1 : w1.heap[W0.heap.size]? = some (.cells #[.func (.yield l) #[] #[]] 98 (0, 0)) := by rw [← hw1]; exact World.alloc_heap_new W0 _
  have k1 := cell_old hm.cbx hb1
  have HS : Hid (Below W0.heap.size W0 w1 ∧ w1.heap[W0.heap.size]? = some (.cells #[.func (.yield l) #[] #[]] 98 (0, 0)) ∧ txC L fs c0 = txC L fs c0 ++ ([] : List Int).reverse) := ⟨hb1, hy1, by simp⟩
  clear hFe hn hb1 hy1 hm hwf hT hl h0 hJs hDs hY hL ha0
  unfold maxLen at hcm
  refine calls_of_wp_marks Try.func59 rfl ?_
  simp only [Try.ntmps59, List.size_toArray, List.length_cons, List.length_nil, Nat.reduceAdd, Nat.reduceSub, Array.replicate_succ, Array.replicate_zero, List.push_toArray, List.append_toArray, List.nil_append, List.cons_append]
  go_wp2_with fail
  clear hw1 k1
  go_loopw [4, 5, 6, 10, 11, 12, 13, 14, 15, 16, 17, 18, 19, 20, 21, 22, 23, 24, 25, 26, 27, 28, 29, 30, 31, 32, 33, 34, 35, 36] (fun t v _ _ _ _ _ _ _ _ _ _ _ _ _ _ _ _ _ _ _ _ _ _ _ _ _ _ _ _ wr => ∃ (c : Nat) (U : List Int) (tg : Option Nat), c < F + n ∧ v = .int .i64 (c : Int) ∧ Hid (Sl wr 5 t tg (vals U) ∧ (∀ k, tg = some k → W0.heap.size ≤ k) ∧ Below W0.heap.size W0 wr ∧ wr.heap[W0.heap.size]? = some (.cells #[.func (.yield l) #[] #[]] 98 (0, 0)) ∧ txC L fs c0 = txC L fs c ++ U.reverse)) (fun _ v _ _ _ _ _ _ _ _ _ _ _ _ _ _ _ _ _ _ _ _ _ _ _ _ _ _ _ _ _ => (intOf v).toNat)
  case atStart => exact ⟨c0, [], none, hc, rfl, Sl.nil _ _, (fun k hk => by cases hk), HS.out.1, HS.out.2.1, HS.out.2.2⟩
  case round =>
    clear HS
    obtain ⟨c, U, tg, hcl, rfl, HR⟩ := hrel
    obtain ⟨r1, r2, r3, r4, r5⟩ := HR.out
    have hmo := HA.out.1
    have TM : TxM wr cb tb d B L c0 (.slice a fs.length cap) fs := hmo.old r3
    have q2 := TM.tbx
    have q3 := TM.k6
    have q4 := TM.k7
    rw [Hn.out] at q4
    obtain ⟨at', ct, hv, hl1, hl2, hl3⟩ := r1.shape
    rw [vals_len] at hv hl1
    subst hv
    have hUl : U.length ≤ 4097 := by
      have e := congrArg List.length r5
      have := txC_len HA.out.2.1 c0 HA.out.2.2.2.1 fs.length HA.out.2.2.2.1
      have := HA.out.2.2.1
      simp at e; omega
    have C1 := HC.out wr
    by_cases hge : F ≤ c
    · have hgI : (F : Int) ≤ (c : Int) := by omega
      obtain ⟨i, hi⟩ : ∃ i, c = F + i := ⟨c - F, by omega⟩
      have hat := HA.out.2.1.at (c := c) (by rw [HFe.out]; exact hge) (by rw [HFe.out, Hn.out]; exact hcl)
      have hst := txC_step HA.out.2.1 (c := c) (by rw [HFe.out]; exact hge) (by rw [HFe.out, Hn.out]; exact hcl)
      obtain ⟨q, hq⟩ : ∃ q, nxC L fs c = q := ⟨_, rfl⟩
      obtain ⟨y, hy⟩ : ∃ y, lsC L fs c = y := ⟨_, rfl⟩
      rw [hq, hy] at hat hst
      obtain ⟨g, hag, hc1, hc2⟩ := TM.row.cell hat.2.2.2
      have hci : c - fcN L = i := by rw [HFe.out]; omega
      rw [hci] at hc1 hc2
      have hqc : q < c := hat.1
      subst hag
      have hw1 : IntKind.i64.wrap ((c : Int) - (F : Int)) = (i : Int) := by rw [IntKind.wrap_i64]; omega
      have hin : (i : Int) < (n : Int) := by omega
      have hi0 : (0 : Int) ≤ (i : Int) := by omega
      have HQ : Hid (txC L fs c0 = txC L fs q ++ (U ++ [y]).reverse) := by show _ = _; rw [r5, hst]; simp
      have hcc : ¬ (n : Int) ≤ (i : Int) := by omega
      clear hat hst hci hq hy hi hge TM r5
      go_upto_region 4 with (refine C1.mono ?_; rintro e w' ⟨rfl, hw'⟩; subst w')
      clear C1
      go_region_held3 (fun u => u.cell? ⟨tb, 0, none⟩ = some (.pointer (some ⟨d, 6, none⟩)) ∧ u.cell? ⟨d, 6, none⟩ = some (.int .i64 L) ∧ u.cell? ⟨d, 7, none⟩ = some (.slice (some ⟨g, 0, none⟩) n cap) ∧ u.cell? ⟨g, i * 2, none⟩ = some (.int .i64 (q : Int)) ∧ u.cell? ⟨g, i * 2 + 1, none⟩ = some (.int .u8 y))
        (first | (with_reducible exact ⟨by with_reducible assumption, by with_reducible assumption, by with_reducible assumption, by with_reducible assumption, by with_reducible assumption⟩) | go_keep)
        (first | (refine (HC.out _).mono ?_; rintro e w' ⟨rfl, hw'⟩; subst w') | fail)
      all_goals
        obtain ⟨W2, hW2⟩ : ∃ W2, (wr.alloc (.cells #[.int .i64 (q : Int), .int .u8 y] 74)).drew = W2 := ⟨_, rfl⟩
        rw [hW2]
        have hb2 : Below wr.heap.size wr W2 := by rw [← hW2]; exact ⟨rfl, rfl, rfl, by simp, fun k hk => Below.heap_alloc wr _ _ hk⟩
        have m0 : W2.cell? ⟨wr.heap.size, 0, none⟩ = some (.int .i64 (q : Int)) := by rw [← hW2]; exact new2a wr q y
        have m1 : W2.cell? ⟨wr.heap.size, 1, none⟩ = some (.int .u8 y) := by rw [← hW2]; exact new2b wr q y
        have HS2 : Hid (∀ o, Sl (W2.alloc o) 5 (.slice at' U.length ct) tg (vals U)) := fun o => r1.same fun k hk => (Below.heap_alloc _ _ _ (Nat.lt_of_lt_of_le (r1.lt hk) hb2.size)).trans (hb2.block k (r1.lt hk))
        have HF : Hid (∀ (W3 : World) v7 w7 g7, Below W2.heap.size W2 W3 → Sl w7 5 v7 g7 (vals (U ++ [y])) → (g7 = tg ∨ ∃ k, g7 = some k ∧ W3.heap.size ≤ k) → W3.grownBy w7 tg → w7.cell? ⟨wr.heap.size, 0, none⟩ = some (.int .i64 (q : Int)) ∧ Hid (Sl w7 5 v7 g7 (vals (U ++ [y])) ∧ (∀ k, g7 = some k → W0.heap.size ≤ k) ∧ Below W0.heap.size W0 w7 ∧ w7.heap[W0.heap.size]? = some (.cells #[.func (.yield l) #[] #[]] 98 (0, 0)) ∧ txC L fs c0 = txC L fs q ++ (U ++ [y]).reverse)) := by
          intro W3 v7 w7 g7 hb3 p1 p2 p3
          have hb : Below wr.heap.size wr W3 := hb2.trans (hb3.mono hb2.size)
          have hz := hb2.size
          have hz3 := hb3.size
          have hz1 := r3.size
          have htg : ∀ k, tg = some k → ∃ cc, wr.heap[k]? = some (.cells cc 5 (0, 0)) := fun k hk => by
            rcases r1 with ⟨_, h, _⟩ | ⟨b, off, cp, cur, _, h, hb, _⟩
            · rw [h] at hk; cases hk
            · rw [h] at hk; cases hk; exact ⟨cur, hb⟩
          have hsz : wr.heap.size < W2.heap.size := by rw [← hW2]; simp
          refine ⟨?_, p1, ?_, ?_, ?_, HQ.out⟩
          · refine (World.cell?_of_block (a := ⟨wr.heap.size, 0, none⟩) ?_).trans m0
            refine (p3.block wr.heap.size (by omega) (fun e => ?_)).trans (hb3.block _ hsz)
            have := r1.lt e.symm
            exact Nat.lt_irrefl _ this
          · intro k hk
            rcases p2 with e | ⟨j, e, hj⟩
            · exact r2 k (e.symm.trans hk)
            · rw [e] at hk; cases hk; omega
          · exact ⟨p3.os.trans (hb.os.trans r3.os), p3.tape.trans (hb.tape.trans r3.tape), p3.output.trans (hb.output.trans r3.output), Nat.le_trans hz1 (Nat.le_trans hb.size p3.size), fun k hk => (p3.block k (by omega) (fun e => by have := r2 k e.symm; omega)).trans ((hb.block k (by omega)).trans (r3.block k hk))⟩
          · have hlt := lt_of_block r4
            refine (p3.block _ (by omega) (fun e => ?_)).trans ((hb.block _ hlt).trans r4)
            obtain ⟨cc, hcc⟩ := htg _ e.symm
            rw [r4] at hcc; simp at hcc
        have HR1 := row_oneL W2 y
        have HUl : Hid (U.length ≤ 4097 ∧ (at' = none → ct = 0)) := ⟨hUl, hl3⟩
        obtain ⟨ul, hul⟩ : ∃ ul, U.length = ul := ⟨_, rfl⟩
        have Hul : Hid (U.length = ul) := hul
        rw [hul]
        clear hW2 hb2 r1 r2 r3 r4 q2 q3 q4 hc1 hc2 HR hmo hl1 hl2 hl3 hul hUl
        go_wp2_with (at_builtin; refine wpList_more rfl _ _ rfl (.slice at' ul ct) tg U rfl (by have := HS2.out (.cells #[.int .u8 y] 5); rw [Hul.out] at this; exact this) (some ⟨W2.heap.size, 0, none⟩) 1 1 [y] rfl (by intro h; cases h) rfl HR1 (by have := HUl.out; omega) ?_; intro v7 w7 g7 hs7 hg7 hgr7; obtain ⟨y1, y2⟩ := HF.out _ v7 w7 g7 ((Below.refl _ _).alloc (Nat.le_refl _) _) hs7 hg7 hgr7; obtain ⟨a7, c7, hv7, -⟩ := hs7.shape; generalize (vals (U ++ [y])).length = z7 at hv7; subst hv7; clear hs7 hg7 hgr7 HF HS2 HR1)
        go_roundw
        case rel => exact ⟨q, U ++ [y], g7, by omega, rfl, y2⟩
        case measure => simp [intOf]; omega
    · have hgI : ¬ (F : Int) ≤ (c : Int) := by omega
      obtain ⟨y, hy⟩ : ∃ y, (c : Int) % 256 = y := ⟨_, rfl⟩
      have HQ : Hid (T = (U ++ [y]).reverse) := by
        show _ = _
        rw [← HA.out.2.2.2.2.1, r5, txC_root (by rw [HFe.out]; omega), hy]; simp
      have hwy : IntKind.u8.wrap (c : Int) = y := by rw [IntKind.wrap_u8, ← hy]
      have HS2 : Hid (∀ o, Sl (wr.alloc o) 5 (.slice at' U.length ct) tg (vals U)) := fun o => r1.same fun k hk => Below.heap_alloc _ _ _ (r1.lt hk)
      have HF : Hid (∀ (W3 : World) v7 w7 g7, Below wr.heap.size wr W3 → Sl w7 5 v7 g7 (vals (U ++ [y])) → (g7 = tg ∨ ∃ k, g7 = some k ∧ W3.heap.size ≤ k) → W3.grownBy w7 tg → Sl w7 5 v7 g7 (vals (U ++ [y])) ∧ (∀ k, g7 = some k → W0.heap.size ≤ k) ∧ Below W0.heap.size W0 w7 ∧ w7.heap[W0.heap.size]? = some (.cells #[.func (.yield l) #[] #[]] 98 (0, 0))) := by
        intro W3 v7 w7 g7 hb p1 p2 p3
        have hz1 := r3.size
        have hz3 := hb.size
        have htg : ∀ k, tg = some k → ∃ cc, wr.heap[k]? = some (.cells cc 5 (0, 0)) := fun k hk => by
          rcases r1 with ⟨_, h, _⟩ | ⟨b, off, cp, cur, _, h, hb, _⟩
          · rw [h] at hk; cases hk
          · rw [h] at hk; cases hk; exact ⟨cur, hb⟩
        refine ⟨p1, ?_, ?_, ?_⟩
        · intro k hk
          rcases p2 with e | ⟨j, e, hj⟩
          · exact r2 k (e.symm.trans hk)
          · rw [e] at hk; cases hk; omega
        · exact ⟨p3.os.trans (hb.os.trans r3.os), p3.tape.trans (hb.tape.trans r3.tape), p3.output.trans (hb.output.trans r3.output), Nat.le_trans hz1 (Nat.le_trans hb.size p3.size), fun k hk => (p3.block k (by omega) (fun e => by have := r2 k e.symm; omega)).trans ((hb.block k (by omega)).trans (r3.block k hk))⟩
        · have hlt := lt_of_block r4
          refine (p3.block _ (by omega) (fun e => ?_)).trans ((hb.block _ hlt).trans r4)
          obtain ⟨cc, hcc⟩ := htg _ e.symm
          rw [r4] at hcc; simp at hcc
      have HR1 := row_oneL wr y
      have HUl : Hid (U.length ≤ 4097 ∧ (at' = none → ct = 0)) := ⟨hUl, hl3⟩
      obtain ⟨ul, hul⟩ : ∃ ul, U.length = ul := ⟨_, rfl⟩
      have Hul : Hid (U.length = ul) := hul
      rw [hul]
      clear r1 r2 r3 r4 q4 HR hmo hl1 hl2 hl3 hul hUl TM hy r5
      go_wp2_with fail
      refine C1.mono ?_
      rintro e w' ⟨rfl, hw'⟩
      subst w'
      clear C1
      go_wp2_with (at_builtin; refine wpList_more rfl _ _ rfl (.slice at' ul ct) tg U rfl (by have := HS2.out (.cells #[.int .u8 y] 5); rw [Hul.out] at this; exact this) (some ⟨wr.heap.size, 0, none⟩) 1 1 [y] rfl (by intro h; cases h) rfl HR1 (by have := HUl.out; omega) ?_; intro v7 w7 g7 hs7 hg7 hgr7; have HZ7 : Hid (Sl w7 5 v7 g7 (vals (U ++ [y])) ∧ (∀ k, g7 = some k → W0.heap.size ≤ k) ∧ Below W0.heap.size W0 w7 ∧ w7.heap[W0.heap.size]? = some (.cells #[.func (.yield l) #[] #[]] 98 (0, 0))) := HF.out _ v7 w7 g7 ((Below.refl _ _).alloc (Nat.le_refl _) _) hs7 hg7 hgr7; obtain ⟨a7, c7, hv7, hle7, hc7, hc70⟩ := hs7.shape; rw [vals_len] at hv7 hle7; generalize hz7 : (U ++ [y]).length = z7 at hv7 hle7; subst hv7; clear hs7 hg7 hgr7 HF HS2 HR1)
      have HZL : Hid ((U ++ [y]).length = z7) := hz7
      clear hz7
      refine (backward_any a7 z7 c7 w7).mono ?_
      rintro e w' ⟨rfl, rfl⟩
      go_wp2_with fail
      obtain ⟨wa, hwa⟩ : ∃ wa, w7.alloc (.cells #[.slice a7 z7 c7] 22) = wa := ⟨_, rfl⟩
      obtain ⟨T7, hT7⟩ : ∃ T7, U ++ [y] = T7 := ⟨_, rfl⟩
      rw [hT7] at HZ7 HZL HQ
      have hsz : wa.heap.size = w7.heap.size + 1 := by rw [← hwa]; simp
      have hba : Below w7.heap.size w7 wa := by rw [← hwa]; exact (Below.refl _ _).alloc (Nat.le_refl _) _
      have hA0 : wa.heap[w7.heap.size]? = some (.cells #[.slice a7 z7 c7] 22 (0, 0)) := by rw [← hwa]; exact World.alloc_heap_new w7 _
      rw [hwa]
      clear hwa hT7 hwy HUl Hul hgI hcl
      refine wp_rangeFunc_any (gf := 61) rfl (callFnL Try.func61 (by kernel_rfl) (by kernel_rfl)) ?_
      intro mk W1 hW1 hyi
      have hB1 : Below wa.heap.size wa W1 := by rw [← hW1]; exact ((Below.refl _ wa).alloc (Nat.le_refl _) _).alloc (by simp) _
      have hL1 : W1.heap[wa.heap.size + 1]? = some (.loop (mk .ready none)) := by
        rw [← hW1]; have := World.alloc_heap_new (wa.alloc (.deferred (some []))) (.loop (mk .ready none)); rwa [World.size_alloc] at this
      have hD1 : W1.heap[wa.heap.size]? = some (.deferred (some [])) := by
        rw [← hW1, Below.heap_alloc _ _ _ (by simp)]; exact World.alloc_heap_new wa _
      obtain ⟨Z, hZ⟩ : ∃ Z, W1.heap.size = Z := ⟨_, rfl⟩
      have hZ2 : Z = wa.heap.size + 2 := by rw [← hZ, ← hW1]; simp
      obtain ⟨z1, z2, z3, z4⟩ := HZ7.out
      have hA7 := z3.size
      have hlt7 := lt_of_block z4
      have hbw : Below w7.heap.size w7 W1 := hba.trans (hB1.mono hba.size)
      have HI0 : TxI J W0.heap.size Z w7.heap.size (wa.heap.size + 1) wa.heap.size l a7 z7 c7 T7 g7 mk 0 W1 :=
        ⟨HJ.out.1 Z W1 (z3.trans (hbw.mono hA7)) hZ.symm, (hbw.block _ hlt7).trans z4, (hB1.block _ (by omega)).trans hA0, z1.same fun k hk => hbw.block k (z1.lt hk), hL1, hD1, by omega⟩
      have HK : Hid (Z = wa.heap.size + 2 ∧ wa.heap.size = w7.heap.size + 1 ∧ W0.heap.size < w7.heap.size ∧ (∀ k, g7 = some k → W0.heap.size ≤ k ∧ k < w7.heap.size) ∧ l < W0.heap.size ∧ T = T7.reverse ∧ T7.length = z7) := ⟨hZ2, hsz, hlt7, fun k hk => ⟨z2 k hk, z1.lt hk⟩, HA.out.2.2.2.2.2, HQ.out, HZL.out⟩
      have HYI : Hid (RfYield Try.prog _ _ _ _ mk (wa.heap.size + 1)) := hyi
      unfold maxLen at hc7
      clear z1 z2 z3 z4 hA7 hlt7 hbw hZ2 hZ hB1 hL1 hD1 hW1 hA0 hba hsz HZ7 HZL HQ HA hyi
      refine Calls.mono (backward1_any w7.heap.size a7 z7 c7 T7 (wa.heap.size + 1) (TxI J W0.heap.size Z w7.heap.size (wa.heap.size + 1) wa.heap.size l a7 z7 c7 T7 g7 mk) (fun W => Dn Z W ∧ W.heap[wa.heap.size + 1]? = some (.loop (mk .done (some .ret))) ∧ W.heap[wa.heap.size]? = some (.deferred (some []))) W1 HK.out.2.2.2.2.2.2 hle7 (by omega) (fun k W h => ⟨(one_cellL h.sbx).1, h.sl.row rfl⟩) HI0 ?yield) ?fin
      case yield =>
        intro i W hi HI
        refine HYI.out _ W _ rfl HI.lp ?_
        obtain ⟨e1, e2, e3, e4, e5, e6, e7⟩ := HK.out
        have hTl : T.length = z7 := by rw [e6, List.length_reverse, e7]
        have hbyte : (T7[z7 - 1 - i]?).getD 0 = (T[i]?).getD 0 := by rw [e6, reverse_at T7 i (by omega), e7]
        rw [hbyte]
        obtain ⟨v, hv⟩ : ∃ v, (T[i]?).getD 0 = v := ⟨_, rfl⟩
        obtain ⟨W4, hW4⟩ : ∃ W4, W.putObj (wa.heap.size + 1) (.loop (mk .busy none)) = W4 := ⟨_, rfl⟩
        have ho4 : OtR W0.heap.size Z W W4 := by rw [← hW4]; exact OtR.put _ (by omega) (by omega)
        have hk4 : ∀ k, k ≠ wa.heap.size + 1 → W4.heap[k]? = W.heap[k]? := fun k hk => by rw [← hW4]; exact World.putObj_heap_other hk
        have hl4 : W4.heap[wa.heap.size + 1]? = some (.loop (mk .busy none)) := by rw [← hW4]; exact World.putObj_heap_same (lt_of_block HI.lp)
        have hY := HY.out Z i W4 (by omega) (HJ.out.2.1 _ _ _ _ HI.j ho4) (by rw [ho4.size]; exact HI.sz)
        rw [hv] at hY ⊢
        obtain ⟨fn, tmps, assign, body, hy, hR⟩ := hY
        have yb4 := (one_cellL ((hk4 _ (by omega)).trans HI.yb)).1
        have HRd : Hid (RoundIn (Fence.wide.inRound (wa.heap.size + 1)) 2 Try.prog l fn tmps assign body W4 fun e W2 => ∃ b : Bool, e = .returned (.bool b) ∧ KpR W0.heap.size Z W4 W2 ∧ (b = true → J Z (i + 1) W2) ∧ (b = false → Dn Z W2)) := roundIn_inL hR
        have HE : Hid (∀ w5, KpR W0.heap.size Z W4 w5 → w5.heap[wa.heap.size + 1]? = some (.loop (mk .busy none)) ∧ (J Z (i + 1) w5 → TxI J W0.heap.size Z w7.heap.size (wa.heap.size + 1) wa.heap.size l a7 z7 c7 T7 g7 mk (i + 1) (w5.putObj (wa.heap.size + 1) (.loop (mk .ready none)))) ∧
            (Dn Z w5 → Dn Z (w5.putObj (wa.heap.size + 1) (.loop (mk .done (some .ret)))) ∧ (w5.putObj (wa.heap.size + 1) (.loop (mk .done (some .ret)))).heap[wa.heap.size + 1]? = some (.loop (mk .done (some .ret))) ∧ (w5.putObj (wa.heap.size + 1) (.loop (mk .done (some .ret)))).heap[wa.heap.size]? = some (.deferred (some [])))) := by
          intro w5 hkp
          have hl5 := (hkp.block _ (by omega) (by omega)).trans hl4
          have hot : ∀ (o : Obj) (k : Nat), k ≠ wa.heap.size + 1 → W0.heap.size ≤ k → k < Z → (w5.putObj (wa.heap.size + 1) o).heap[k]? = W.heap[k]? := fun o k h1 h2 h3 => (World.putObj_heap_other h1).trans ((hkp.block k h2 h3).trans (hk4 k h1))
          refine ⟨hl5, fun hj => ⟨HJ.out.2.1 _ _ _ _ hj (OtR.put _ (by omega) (by omega)), (hot _ _ (by omega) (by omega) (by omega)).trans HI.yb, (hot _ _ (by omega) (by omega) (by omega)).trans HI.sbx, HI.sl.same fun k hk => ?_, World.putObj_heap_same (lt_of_block hl5), (hot _ _ (by omega) (by omega) (by omega)).trans HI.dp, ?_⟩, fun hd => ⟨HJ.out.2.2 _ _ _ hd (OtR.put _ (by omega) (by omega)), World.putObj_heap_same (lt_of_block hl5), (hot _ _ (by omega) (by omega) (by omega)).trans HI.dp⟩⟩
          · have := e4 k hk
            exact hot _ _ (by omega) (by omega) (by omega)
          · have h1 := hkp.size; have h2 := ho4.size; have h3 := HI.sz; simp; omega
        have HLR : Hid (RfAt W (wa.heap.size + 1) mk) := HI.lp
        clear e1 e2 e3 e4 e5 e6 e7 hTl hbyte hv ho4 hk4 hl4 hR HI HI0
        simp only [List.zip_toArray, List.zip_cons_cons, List.zip_nil_right, List.foldl_toArray, List.foldl_cons, List.foldl_nil, List.setIfInBounds_toArray, List.set_cons_succ, List.set_cons_zero]
        gi_wp2
        refine ⟨HLR.out, ?_⟩
        clear hW4
        refine wpIn_block ?_
        gi_wp2_with fail
        refine HRd.out.mono ?_
        clear HRd hy
        rintro e w5 ⟨b, rfl, hkp, hb1, hb2⟩
        obtain ⟨f1, f2, f3⟩ := HE.out w5 hkp
        clear hkp HE
        cases b with
        | false =>
          have HF : Hid _ := f3 (hb2 rfl)
          clear f2 f3 hb1 hb2
          gi_wp2
          exact ⟨f1, .inl ⟨rfl, HF.out⟩⟩
        | true =>
          have HF : Hid (TxI J W0.heap.size Z w7.heap.size (wa.heap.size + 1) wa.heap.size l a7 z7 c7 T7 g7 mk (i + 1) (w5.putObj (wa.heap.size + 1) (.loop (mk .ready none)))) := f2 (hb1 rfl)
          clear f2 f3 hb1 hb2
          gi_wp2
          exact ⟨f1, .inr ⟨rfl, HF.out⟩⟩
      case fin =>
        obtain ⟨e1, e2, e3, e4, e5, e6, e7⟩ := HK.out
        have hTl : z7 = T.length := by rw [e6, List.length_reverse, e7]
        rintro e W' ⟨⟨v, rfl⟩, (HI | ⟨h1, h2, h3⟩)⟩
        · refine ⟨⟨v, rfl⟩, .inl ⟨HI.lp, ?_⟩⟩
          obtain ⟨W9, hW9⟩ : ∃ W9, W'.putObj (wa.heap.size + 1) (.loop (mk .exhausted none)) = W9 := ⟨_, rfl⟩
          rw [hW9]
          have hD9 : W9.heap[wa.heap.size]? = some (.deferred (some [])) := by rw [← hW9]; exact (World.putObj_heap_other (by omega)).trans HI.dp
          have HF : Hid (J Z T.length (W9.putObj wa.heap.size (.deferred none))) := by
            have hj := HI.j
            rw [hTl] at hj
            refine HJ.out.2.1 _ _ _ _ (HJ.out.2.1 _ _ _ _ hj (?_ : OtR W0.heap.size Z W' W9)) (OtR.put _ (by omega) (by omega))
            rw [← hW9]; exact OtR.put _ (by omega) (by omega)
          clear HI hW9 HI0 e1 e2 e3 e4 e5 e6 e7 hTl HK
          go_wp2
          refine ⟨by simp, .inl ⟨_, _, rfl, run_takeDeferred hD9, ?_⟩⟩
          exact ⟨_, results_none rfl _ _ _, ⟨_, rfl⟩, Z, .inl HF.out⟩
        · refine ⟨⟨v, rfl⟩, .inr ⟨.ret, h2, ?_⟩⟩
          obtain ⟨W9, hW9⟩ : ∃ W9, W'.putObj (wa.heap.size + 1) (.loop (mk .exhausted (some .ret))) = W9 := ⟨_, rfl⟩
          rw [hW9]
          have hD9 : W9.heap[wa.heap.size]? = some (.deferred (some [])) := by rw [← hW9]; exact (World.putObj_heap_other (by omega)).trans h3
          have HF : Hid (Dn Z (W9.putObj wa.heap.size (.deferred none))) := by
            refine HJ.out.2.2 _ _ _ (HJ.out.2.2 _ _ _ h1 (?_ : OtR W0.heap.size Z W' W9)) (OtR.put _ (by omega) (by omega))
            rw [← hW9]; exact OtR.put _ (by omega) (by omega)
          clear h1 h2 h3 hW9 HI0 e1 e2 e3 e4 e5 e6 e7 hTl HK
          go_wp2
          refine ⟨by simp, .inl ⟨_, _, rfl, run_takeDeferred hD9, ?_⟩⟩
          exact ⟨_, results_none rfl _ _ _, ⟨_, rfl⟩, Z, .inr HF.out⟩
end Go.Proofs.Ytcbmlioeeoghkaa
