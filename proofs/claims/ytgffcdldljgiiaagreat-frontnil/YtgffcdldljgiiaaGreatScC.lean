/- A GIF's beginning: sizes, least bits, a table of colours: the program's walks. -/
import Derived.Test.YtgffcdldljgiiaaGreatScB
import Derived.Test.YtgffcdldljgiiaaGreatCkU
import Derived.Test.YtgffcdldljgiiaaGreatAmD
namespace Go.Proofs.YtgffcdldljgiiaaGreat
open Go.RowKit
attribute [local go_sem] Oper.semAt_some
theorem count_pos (W H : Int) : decide (0 < sumF (higAt (pngOf false) W H) (psN (pngOf false) W H)) = decide (picN W H) := by
  unfold psN
  by_cases h : picN W H
  · rw [if_pos h, decide_eq_true h]
    have hw : plc 0 1 W = W := by unfold plc; rw [if_neg (by have := h.1; omega)]; omega
    have hh : plc 0 1 H = H := by unfold plc; rw [if_neg (by have := h.2.2.1; omega)]; omega
    have e : sumF (higAt (pngOf false) W H) (pngOf false).length = 0 + hig ⟨0, 0, 1, 1⟩ W H := rfl
    rw [e]
    unfold hig
    simp only [hw, hh]
    have h1 := h.1
    have h2 := h.2.2.1
    rw [if_pos ⟨by omega, by omega⟩]
    exact decide_eq_true (by omega)
  · rw [if_neg h, decide_eq_false h]
    rfl
set_option maxHeartbeats 400000 in
theorem maySides_any (W H : Int) (w : World) : Calls Tryz.prog 259 #[.int .i64 W, .int .i64 H] w fun e w' => e = .returned (.bool (decide (picN W H))) ∧ Below w.heap.size w w' := by
  have C := count_any W H false w
  have HP : Hid _ := count_pos W H
  generalize sumF (higAt (pngOf false) W H) (psN (pngOf false) W H) = N at *
  go_enter Tryz.func259, Tryz.ntmps259
  go_wp2_with fail
  refine C.mono ?_
  clear C
  rintro e w1 ⟨rfl, hb⟩
  go_wp2
  go_ret
  exact ⟨by rw [HP.out]; rfl, hb⟩
set_option maxHeartbeats 400000 in
theorem mayBits_any (n : Int) (w : World) : Calls Tryz.prog 262 #[.int .i64 n] w fun e w' => e = .returned (.bool (decide (2 ≤ n ∧ n ≤ 8))) ∧ w' = w := by
  rcases (show n < 2 ∨ (2 ≤ n ∧ n ≤ 8) ∨ (2 ≤ n ∧ 8 < n) by omega) with h | ⟨h, h2⟩ | ⟨h, h2⟩
  · rw [decide_eq_false (by omega)]
    go_enter Tryz.func262, Tryz.ntmps262
    go_wp2
    go_ret
    exact ⟨rfl, rfl⟩
  · rw [decide_eq_true ⟨h, h2⟩]
    have d : decide (n ≤ 8) = true := decide_eq_true h2
    go_enter Tryz.func262, Tryz.ntmps262
    go_wp2
    go_ret
    exact ⟨rfl, rfl⟩
  · rw [decide_eq_false (by omega)]
    have d : decide (n ≤ 8) = false := decide_eq_false (by omega)
    go_enter Tryz.func262, Tryz.ntmps262
    go_wp2
    go_ret
    exact ⟨rfl, rfl⟩
theorem Tryz.infoTi : (Tryz.prog.info? 172).map (fun i => (i.zero, i.size, i.bytes)) = some (some (.agg #[.int .u8 0, .int .u8 0, .int .u8 0]), 3, 3) := by kernel_rfl
theorem own_shape {w : World} {base e size : Nat} {v : Value} {n : Nat} {xs : List Value} (h : w.ownsRow base e size v n xs) : ∃ a cap, v = .slice a n cap := by
  rcases h.2 with ⟨rfl, rfl⟩ | ⟨g, cap, cur, rfl, _⟩
  · exact ⟨none, 0, rfl⟩
  · exact ⟨_, cap, rfl⟩
theorem own_rowT {w : World} {base : Nat} {a : Option Addr} {n cap : Nat} {b : List Int} (h : w.ownsRow base 172 3 (.slice a n cap) n (vals b)) : Row w a b := by
  have hlen := h.1
  rw [vals_len] at hlen
  rcases h.2 with ⟨e, hn⟩ | ⟨g, cap', cur, e, _⟩
  · subst hn; exact .inl (List.length_eq_zero_iff.1 (by omega))
  · simp only [Value.slice.injEq] at e
    obtain ⟨rfl, _, _⟩ := e
    refine .inr ⟨g, 0, rfl, fun i hi => ?_⟩
    rw [Nat.zero_add, h.cellAt i (by omega), vals_at b i hi]
theorem owns_cells {w w' : World} {base : Nat} {e : TypeId} {size : Nat} {v : Value} {n : Nat} {xs : List Value} (h : w.ownsRow base e size v n xs) (hs : ∀ (k : Nat) c, v.ownBlock = some k → w.heap[k]? = some (.cells c e (0, 0)) → w'.heap[k]? = some (.cells c e (0, 0))) : w'.ownsRow base e size v n xs := by
  rcases h.2 with ⟨rfl, h0⟩ | ⟨g, cap, cur, rfl, hb, hh, h1, h2, h3, h4⟩
  · exact ⟨h.1, .inl ⟨rfl, h0⟩⟩
  · exact ⟨h.1, .inr ⟨g, cap, cur, rfl, hb, hs g cur rfl hh, h1, h2, h3, h4⟩⟩
theorem owns_tag {w : World} {base : Nat} {e : TypeId} {size : Nat} {v : Value} {n : Nat} {xs : List Value} (h : w.ownsRow base e size v n xs) {k : Nat} (hk : v.ownBlock = some k) : base ≤ k ∧ ∃ c, w.heap[k]? = some (.cells c e (0, 0)) := by
  rcases h.2 with ⟨rfl, h0⟩ | ⟨g, cap, cur, rfl, hb, hh, _⟩
  · cases hk
  · cases hk; exact ⟨hb, cur, hh⟩
theorem new3 (w : World) (a b c : Int) : ∀ (j : Nat) u, (vals [a, b, c])[j]? = some u → (w.alloc (.cells #[.int .u8 a, .int .u8 b, .int .u8 c] 172)).cell? ((⟨w.heap.size, 0, none⟩ : Addr).add j) = some u := by
  intro j u hj
  match j, hj with
  | 0, hj => simp [vals] at hj; subst hj; exact World.cell?_alloc_mark ..
  | 1, hj => simp [vals] at hj; subst hj; exact World.cell?_alloc_mark ..
  | 2, hj => simp [vals] at hj; subst hj; exact World.cell?_alloc_mark ..
/-- Between two rounds: the table's first k colours. -/
structure TbI (w3 : World) (mb : Nat) (l : List Int) (k : Nat) (wr : World) : Prop where
  gr : w3.grownBy wr (some mb)
  ob : ∃ v, wr.heap[mb]? = some (.cells #[v] 79 (0, 0)) ∧ wr.ownsRow w3.heap.size 172 3 v k (vals (l.take (3 * k)))
theorem TbI.ig {w3 : World} {mb : Nat} {l : List Int} {k lp D : Nat} {wr w' : World} (h : TbI w3 mb l k wr) (hi : Ig lp D wr w') (hl : w3.heap.size ≤ lp) (hD : w3.heap.size ≤ D) : TbI w3 mb l k w' := by
  obtain ⟨v, h1, h2⟩ := h.ob
  refine ⟨⟨hi.os.trans h.gr.os, hi.tape.trans h.gr.tape, hi.output.trans h.gr.output, Nat.le_trans h.gr.size hi.size, fun j hj hne => ?_⟩, v, hi.cells h1, owns_cells h2 fun j c _ hj => hi.cells hj⟩
  exact (hi.block j (by have := h.gr.size; omega) (by omega) (by omega)).trans (h.gr.block j hj hne)
/-- A colour more. -/
theorem TbI.push {w3 : World} {mb : Nat} {l : List Int} {k lp D : Nat} {wr w7 : World} {v v7 : Value} {va : Array Value} {x y z : Int} {r1 : Loop} {r2 : Option (List Deferred)} (h : TbI w3 mb l k wr) (hmb : mb < w3.heap.size) (hl3 : l.take (3 * (k + 1)) = l.take (3 * k) ++ [x, y, z])
    (h1 : wr.heap[mb]? = some (.cells #[v] 79 (0, 0))) (h2 : wr.ownsRow w3.heap.size 172 3 v k (vals (l.take (3 * k)))) (h7 : w7.ownsRow w3.heap.size 172 3 v7 (k + 1) (vals (l.take (3 * k)) ++ vals [x, y, z])) (hg : (wr.alloc (.cells va 172)).grownBy w7 v.ownBlock) (hl : wr.heap[lp]? = some (.loop r1)) (hD : wr.heap[D]? = some (.deferred r2)) (S : World → Prop) (hS : ∀ u : World, w3.grownBy u (some mb) → S u) :
    w7.cell? ⟨mb, 0, none⟩ = some v ∧ w7.frozen? ⟨mb, 0, none⟩ = false ∧ S w7 ∧ S (w7.setCell ⟨mb, 0, none⟩ v7) ∧ TbI w3 mb l (k + 1) (w7.setCell ⟨mb, 0, none⟩ v7) ∧ (w7.setCell ⟨mb, 0, none⟩ v7).heap[lp]? = wr.heap[lp]? ∧ (w7.setCell ⟨mb, 0, none⟩ v7).heap[D]? = wr.heap[D]? := by
  have hba : Below wr.heap.size wr (wr.alloc (.cells va 172)) := (Below.refl _ wr).alloc (Nat.le_refl _) _
  have kk : ∀ (j : Nat) (o : Obj), wr.heap[j]? = some o → (∀ c f, o ≠ .cells c 172 f) → w7.heap[j]? = some o := fun j o hj ho => by
    have ha := (hba.block j (lt_of_block hj)).trans hj
    refine (hg.block j (lt_of_block ha) (fun hb => ?_)).trans ha
    obtain ⟨_, c2, e2⟩ := owns_tag h2 hb.symm
    rw [hj] at e2
    simp only [Option.some.injEq] at e2
    exact ho _ _ e2
  have k1 := kk _ _ h1 (fun c f h => by cases h)
  have oth : ∀ j, j ≠ mb → (w7.setCell ⟨mb, 0, none⟩ v7).heap[j]? = w7.heap[j]? := fun j hj => Below.heap_setCell _ _ _ _ hj
  have nm : ∀ (j : Nat) (o : Obj), wr.heap[j]? = some o → (∀ c t f, o ≠ .cells c t f) → j ≠ mb := fun j o hj ho e => by subst e; rw [h1] at hj; simp only [Option.some.injEq] at hj; exact ho _ _ _ hj.symm
  have g7 : w3.grownBy w7 (some mb) := by
    have hs := h.gr.size
    refine ⟨hg.os.trans (hba.os.trans h.gr.os), hg.tape.trans (hba.tape.trans h.gr.tape), hg.output.trans (hba.output.trans h.gr.output), Nat.le_trans h.gr.size (Nat.le_trans hba.size hg.size), fun j hj hne => ?_⟩
    refine (hg.block j (Nat.lt_of_lt_of_le (by omega) hba.size) (fun hb => ?_)).trans ((hba.block j (by omega)).trans (h.gr.block j hj hne))
    have := (owns_tag h2 hb.symm).1
    omega
  have g8 : w3.grownBy (w7.setCell ⟨mb, 0, none⟩ v7) (some mb) := grownBy_trans g7 (grownBy_set _ _ _ _)
  refine ⟨by simp [World.cell?, k1], by simp [World.frozen?, k1], hS _ g7, hS _ g8, ⟨g8, v7, ?_, ?_⟩, ?_, ?_⟩
  · rw [heap_setCell_same w7 mb 0 _ _ _ k1]; rfl
  · rw [hl3, vals_append]
    exact owns_cells h7 fun j c _ hj => (oth j (fun e => by subst e; rw [k1] at hj; cases hj)).trans hj
  · rw [hl, oth _ (nm _ _ hl (fun c t f h => by cases h))]; exact kk _ _ hl (fun c f h => by cases h)
  · rw [hD, oth _ (nm _ _ hD (fun c t f h => by cases h))]; exact kk _ _ hD (fun c f h => by cases h)
/-- Colours in memory, in blocks from B on. -/
def TI (w : World) (B : Nat) (v : Value) (T : List Int) : Prop := ∃ a n cap, v = .slice a n cap ∧ 3 * n = T.length ∧ n ≤ cap ∧ n ≤ 256 ∧ Row w a T ∧ ∀ x, a = some x → T ≠ [] → B ≤ x.block
theorem TI.nil (w : World) (B : Nat) : TI w B (.slice none 0 0) [] := ⟨none, 0, 0, rfl, rfl, Nat.le_refl _, by omega, .inl rfl, fun x hx => by cases hx⟩
theorem TI.same {w w' : World} {B : Nat} {v : Value} {T : List Int} (h : TI w B v T) (hs : ∀ k, B ≤ k → k < w.heap.size → w'.heap[k]? = w.heap[k]?) : TI w' B v T := by
  obtain ⟨a, n, cap, h1, h2, h3, h3b, h4, h5⟩ := h
  exact ⟨a, n, cap, h1, h2, h3, h3b, h4.same fun x hx hz => hs _ (h5 x hx hz) (h4.lt x hx hz), h5⟩
theorem TI.mono {w : World} {B B' : Nat} {v : Value} {T : List Int} (h : TI w B v T) (hB : B' ≤ B) : TI w B' v T := by
  obtain ⟨a, n, cap, h1, h2, h3, h3b, h4, h5⟩ := h
  exact ⟨a, n, cap, h1, h2, h3, h3b, h4, fun x hx hz => Nat.le_trans hB (h5 x hx hz)⟩
def TbPost (w : World) (c U : Nat) (T : List Int) (st : St) (e : Ending) (w' : World) : Prop := ∃ v, e = .returned v ∧ TI w' w.heap.size v T ∧ CS w' c U st ∧ w.grownBy w' (some c)
theorem callFnS {f : FuncId} {fn : Func} (hf : Tryz.prog.funcs[f]? = some fn) (hn : (fn.name == "runtime.NumGoroutine") = false) (hb : fn.body.isNone = false) (args : Array Value) (w : World) : (callFunc f args).run Tryz.prog w = .ok (.enter f args) w := by
  have h1 : fn.name ≠ "runtime.NumGoroutine" := by simpa using hn
  have h2 : fn.body ≠ none := by intro e; rw [e] at hb; cases hb
  simp [callFunc, hf, h1, h2]
theorem i64_andN (v m : Nat) (hv : v < 4611686018427387904) (hm : m < 4611686018427387904) : bits .and .i64 (v : Int) (m : Int) = ((v &&& m : Nat) : Int) := by
  show IntKind.i64.wrap ((BitVec.ofInt 64 v &&& BitVec.ofInt 64 m).toNat : Nat) = _
  rw [BitVec.toNat_and, BitVec.toNat_ofInt, BitVec.toNat_ofInt]
  have e1 : (((v : Int)) % ((2 ^ 64 : Nat) : Int)).toNat = v := by omega
  have e2 : (((m : Int)) % ((2 ^ 64 : Nat) : Int)).toNat = m := by omega
  have hle : v &&& m ≤ v := Nat.and_le_left
  rw [e1, e2, IntKind.wrap_i64]
  omega
theorem and_mod7 (k : Nat) : k &&& 7 = k % 8 := Nat.and_two_pow_sub_one_eq_mod k 3
theorem and7 (m : Int) (h0 : 0 ≤ m) (h1 : m ≤ 255) : bits .and .i64 m 7 = m % 8 := by
  obtain ⟨k, rfl⟩ := Int.eq_ofNat_of_zero_le h0
  rw [show (7 : Int) = ((7 : Nat) : Int) from rfl, i64_andN k 7 (by omega) (by omega), and_mod7]
  omega
set_option maxHeartbeats 1600000 in
set_option maxRecDepth 20000 in
theorem readTable_any (c U : Nat) (st : St) (m : Int) (w : World) (h : CS w c U st) (hU : U ≤ w.heap.size) (hm : 0 ≤ m ∧ m ≤ 255) : Calls Tryz.prog 260 #[.pointer (some ⟨c, 0, none⟩), .int .i64 m] w fun e w' => TbPost w c U (bL (tbN m) st) (bS (tbN m) st) e w' := by
  obtain ⟨hn1, hn2, K3, hK3, hK2⟩ := tbN_bd m
  have ha7 := and7 m hm.1 hm.2
  have hms : 0 ≤ m % 8 ∧ m % 8 ≤ 7 := by omega
  have hsh : (2 : Int) * 2 ^ (m % 8).toNat = (K3 : Int) := by
    have e : tbN m = 3 * (2 * 2 ^ (m % 8).toNat) := by unfold tbN; rw [Nat.pow_succ, Nat.mul_comm (2 ^ _) 2]
    have : 2 * 2 ^ (m % 8).toNat = K3 := by omega
    rw [← this]; simp
  have hwr : wrap64 ((2 : Int) * 2 ^ (m % 8).toNat) = (K3 : Int) := by rw [hsh]; unfold wrap64; omega
  have hw3 : (K3 : Int) * 3 = ((tbN m : Nat) : Int) := by omega
  obtain ⟨w1, hw1⟩ : ∃ w1, w.alloc (.cells #[.slice none 0 0] 79) = w1 := ⟨_, rfl⟩
  have hb1 : Below w.heap.size w w1 := by rw [← hw1]; exact (Below.refl _ w).alloc (Nat.le_refl _) _
  have HV : Hid (w1.heap[w.heap.size]? = some (.cells #[.slice none 0 0] 79 (0, 0)) ∧ Below w.heap.size w w1) := ⟨by rw [← hw1]; exact World.alloc_heap_new w _, hb1⟩
  have CB := (h.old hb1).bytes (tbN m) (by omega) (by omega)
  have HL : Hid ((bL (tbN m) st).length = tbN m ∨ bL (tbN m) st = []) := bL_len _ _
  have HK : Hid (K3 ≤ 256 ∧ tbN m = 3 * K3) := (by omega : K3 ≤ 256 ∧ tbN m = 3 * K3)
  clear hK3
  have HH : Hid (CS w c U st) := h
  have HCU : Hid (U ≤ w.heap.size) := hU
  generalize bL (tbN m) st = l at *
  generalize bS (tbN m) st = s' at *
  generalize tbN m = TB at *
  obtain ⟨X, hX⟩ : ∃ X, m % 8 = X := ⟨_, rfl⟩
  rw [hX] at ha7 hms hwr
  obtain ⟨hx0, hx1⟩ := hms
  obtain ⟨P2, hP2⟩ : ∃ P2 : Int, (2 : Int) ^ X.toNat = P2 := ⟨_, rfl⟩
  rw [hP2] at hwr
  clear h hb1 hsh hX hm hU
  refine calls_of_wp_marks Tryz.func260 rfl ?_
  simp only [Tryz.ntmps260, List.size_toArray, List.length_cons, List.length_nil, Nat.reduceAdd, Nat.reduceSub, Array.replicate_succ, Array.replicate_zero, List.push_toArray, List.append_toArray, List.nil_append, List.cons_append]
  go_wp2_with fail
  refine CB.mono ?_
  clear CB hw1
  rintro e w2 ⟨a, cap, g, rfl, hs2, hg2, hc2, hm2, hn2', hcs2, hgr2⟩
  have HS2 : Hid (Sl w2 5 (.slice a l.length cap) g (vals l) ∧ (∀ k, g = some k → w1.heap.size ≤ k) ∧ CS w2 c U s' ∧ w1.grownBy w2 (some c)) := ⟨hs2, hg2, hcs2, hgr2⟩
  have HRow : Hid (Row w2 a l) := hs2.row rfl
  have CC := chunkO_any a l.length cap 3 w2 (by omega)
  obtain ⟨N, hN⟩ : ∃ N, N * 3 = l.length := by
    rcases HL.out with k | k
    · exact ⟨K3, by have := HK.out; omega⟩
    · exact ⟨0, by rw [k]; rfl⟩
  have hN3 : N ≤ 256 := by
    rcases HL.out with k | k
    · have := HK.out; omega
    · rw [k] at hN; simp at hN; omega
  have HIT : Hid (∀ sb nb, IxIter Tryz.prog 277 #[.pointer (some ⟨sb, 0, none⟩), .pointer (some ⟨nb, 0, none⟩)] (ckE a 3) (fun w => CkO w sb nb a l.length cap 3) N) := fun sb nb => chunkO_iter sb nb a l.length cap 3 N (by omega) hN (by omega) hc2 hm2 (fun h0 => by
    rcases HRow.out with e | ⟨b, off, e, _⟩
    · exact absurd (by rw [e]; rfl) h0
    · exact ⟨b, off, e⟩)
  have HNL : Hid (N * 3 = l.length ∧ N ≤ 256) := ⟨hN, hN3⟩
  clear hs2 hg2 hcs2 hgr2 hm2 hn2' hN hN3
  go_wp2_with fail
  refine CC.mono ?_
  clear CC
  rintro e w3 ⟨rfl, hck, hb3⟩
  have hck' : CkO w3 w2.heap.size (w2.heap.size + 1) a l.length cap 3 := hck
  have hmb2 : w2.heap[w.heap.size]? = some (.cells #[.slice none 0 0] 79 (0, 0)) := (HS2.out.2.2.2.block _ (lt_of_block HV.out.1) (by have := HH.out.lt; simp; omega)).trans HV.out.1
  have hmb3 := (hb3.block _ (lt_of_block hmb2)).trans hmb2
  have HI0 : Hid (TbI w3 w.heap.size l 0 w3) := ⟨grownBy_refl _ _, .slice none 0 0, hmb3, by rw [Nat.mul_zero, List.take_zero]; exact World.ownsRow_nil _ _ _ _⟩
  have HR3 : Hid (Row w3 a l) := HRow.out.old hb3
  have HMB : Hid (w.heap.size < w2.heap.size ∧ w.heap.size < w3.heap.size) := ⟨lt_of_block hmb2, lt_of_block hmb3⟩
  have HRB : Hid (∀ x, a = some x → l ≠ [] → w.heap.size < x.block) := fun x hx hz => by
    have hlt : w.heap.size < w1.heap.size := lt_of_block HV.out.1
    rcases HS2.out.1 with ⟨e, _⟩ | ⟨b, off, cap', cur, e, hg, _⟩
    · simp only [Value.slice.injEq] at e; rw [e.1] at hx; cases hx
    · simp only [Value.slice.injEq] at e; rw [e.1] at hx; cases hx; have := HS2.out.2.1 b hg; simp only; omega
  have HC3 : Hid (CkO w3 w2.heap.size (w2.heap.size + 1) a l.length cap 3 ∧ CS w3 c U s' ∧ w.grownBy w3 (some c)) := by
    refine ⟨hck', HS2.out.2.2.1.old hb3, ?_⟩
    exact grownBy_trans (grownBy_trans (grownBy_of_below HV.out.2 _) HS2.out.2.2.2) (grownBy_of_below hb3 _)
  have HITER := HIT.out w2.heap.size (w2.heap.size + 1)
  have HSB : Hid (w2.heap.size + 1 < w3.heap.size) := lt_of_block hck.n
  clear hck hck' hb3 hmb2 hmb3 HS2 HRow
  obtain ⟨i0, hi0, hz0, hz1, hz2⟩ := info_parts Tryz.infoTi
  generalize w2.heap.size = sb at *
  go_wp2
  refine wp_range_ix (gf := 277) rfl (callFnS Tryz.func277 (by kernel_rfl) (by kernel_rfl)) HITER (fun _ => rfl)
    (TbI w3 w.heap.size l) (fun _ _ => False) (fun i Wa Wb h hk => h.ig hk (by omega) (by omega)) (fun _ _ _ h _ => h) (fun i Wa h => ⟨(h.gr.block _ (lt_of_block HC3.out.1.s) (by have := HMB.out.1; simp; omega)).trans HC3.out.1.s, (h.gr.block _ (lt_of_block HC3.out.1.n) (by have := HMB.out.1; simp; omega)).trans HC3.out.1.n⟩) HI0.out ?body ?done (fun _ _ h _ _ => h.elim)
  case body =>
    rintro i Wa hi HI hlp hdf
    obtain ⟨b, off, hab, hcell⟩ : ∃ b off, a = some ⟨b, off, none⟩ ∧ ∀ j, j < l.length → w3.cell? ⟨b, off + j, none⟩ = some (.int .u8 (l[j]?.getD 0)) := by
      rcases HR3.out with e | h
      · exfalso; have := HNL.out.1; rw [e] at this; simp at this; omega
      · exact h
    have hlne : l ≠ [] := by intro e; have := HNL.out.1; rw [e] at this; simp at this; omega
    have hbw := HRB.out _ hab hlne
    simp only at hbw
    unfold ckE
    rw [hab]
    simp only [Option.map_some, List.zip_toArray, List.zip_cons_cons, List.zip_nil_right, List.foldl_toArray, List.foldl_cons, List.foldl_nil, List.setIfInBounds_toArray, List.set_cons_succ, List.set_cons_zero]
    gi_wp2
    refine ⟨trivial, trivial, ?_⟩
    intro o hig ho hdf2 ho2
    obtain ⟨rb, rfl⟩ := ho2
    obtain ⟨rd, hrd⟩ := hdf2
    have HI2 : Hid (TbI w3 w.heap.size l i (Wa.putObj (w3.heap.size + 1) (.loop rb))) := HI.ig hig (by omega) (by omega)
    clear hig HI hlp hdf
    generalize Wa.putObj (w3.heap.size + 1) (.loop rb) = Wc at *
    obtain ⟨v, h1, h2⟩ := HI2.out.ob
    obtain ⟨av, cv, hv⟩ := own_shape h2
    subst hv
    have hiN : i < 256 := by have := HNL.out.2; omega
    have hi3 : 3 * (i + 1) ≤ l.length := by have := HNL.out.1; omega
    obtain ⟨x, hx⟩ : ∃ x, l[3 * i]?.getD 0 = x := ⟨_, rfl⟩
    obtain ⟨y, hy⟩ : ∃ y, l[3 * i + 1]?.getD 0 = y := ⟨_, rfl⟩
    obtain ⟨z, hz⟩ : ∃ z, l[3 * i + 2]?.getD 0 = z := ⟨_, rfl⟩
    have hl3 : l.take (3 * (i + 1)) = l.take (3 * i) ++ [x, y, z] := by
      rw [show 3 * (i + 1) = 3 * i + 1 + 1 + 1 by omega, take_snoc l (3 * i + 1 + 1) (by omega), take_snoc l (3 * i + 1) (by omega), take_snoc l (3 * i) (by omega), hx, hy, show 3 * i + 1 + 1 = 3 * i + 2 by omega, hz]
      simp
    have hS : ∀ u : World, w3.grownBy u (some w.heap.size) → u.cell? ⟨b, off + i * 3, none⟩ = some (.int .u8 x) ∧ u.cell? ⟨b, off + i * 3 + 1, none⟩ = some (.int .u8 y) ∧ u.cell? ⟨b, off + i * 3 + 2, none⟩ = some (.int .u8 z) := fun u hu => by
      have e1 := hcell (3 * i) (by omega)
      have e2 := hcell (3 * i + 1) (by omega)
      have e3 := hcell (3 * i + 2) (by omega)
      rw [hx, show off + 3 * i = off + i * 3 by omega] at e1
      rw [hy, show off + (3 * i + 1) = off + i * 3 + 1 by omega] at e2
      rw [hz, show off + (3 * i + 2) = off + i * 3 + 2 by omega] at e3
      have hne : (some b : Option Nat) ≠ some w.heap.size := by simp; omega
      exact ⟨hu.cell e1 hne, hu.cell e2 hne, hu.cell e3 hne⟩
    have hgd : w3.grownBy Wc.drew (some w.heap.size) := ⟨HI2.out.gr.os, HI2.out.gr.tape, HI2.out.gr.output, HI2.out.gr.size, HI2.out.gr.block⟩
    obtain ⟨z0, z1, z2⟩ := hS Wc.drew hgd
    have hga : w3.grownBy (Wc.drew.alloc (.cells #[.int .u8 x, .int .u8 y, .int .u8 z] 172)) (some w.heap.size) := ⟨hgd.os, hgd.tape, hgd.output, by have := hgd.size; rw [World.size_alloc]; omega, fun j hj hne => (Below.heap_alloc _ _ _ (by have := hgd.size; omega)).trans (hgd.block j hj hne)⟩
    have HSA : Hid _ := hS _ hga
    have HN2 : Hid (∀ v7 w7, w7.ownsRow w3.heap.size 172 3 v7 (i + 1) (vals (l.take (3 * i)) ++ vals [x, y, z]) → (Wc.drew.alloc (.cells #[.int .u8 x, .int .u8 y, .int .u8 z] 172)).grownBy w7 (Value.slice av i cv).ownBlock → _) := fun v7 w7 g1 g2 => TbI.push (lp := w3.heap.size + 1) (D := w3.heap.size) (wr := Wc.drew) (v := .slice av i cv) ⟨hgd, _, h1, h2⟩ HMB.out.2 hl3 h1 h2 g1 g2 ho hrd _ hS
    have HN : Hid ((Wc.drew.alloc (.cells #[.int .u8 x, .int .u8 y, .int .u8 z] 172)).ownsRow w3.heap.size 172 3 (.slice av i cv) i (vals (l.take (3 * i))) ∧ _) := ⟨World.ownsRow.alloc (w := Wc.drew) h2 _, HN2.out⟩
    have k2 : Wc.drew.cell? ⟨w.heap.size, 0, none⟩ = some (.slice av i cv) := by show Wc.cell? _ = _; simp [World.cell?, h1]
    have k3 : (Wc.alloc (.cells #[.int .u8 x, .int .u8 y, .int .u8 z] 172)).cell? ⟨w.heap.size, 0, none⟩ = some (.slice av i cv) := (World.cell?_of_block (a := ⟨w.heap.size, 0, none⟩) (Below.heap_alloc _ _ _ (lt_of_block h1))).trans k2
    clear ho hrd h1 h2 hcell hlne hbw hx hy hz hl3 hS hgd hga HN2 hi3
    gi_wp2
    refine wpIn_region_held (fun u => u.cell? ⟨b, off + i * 3, none⟩ = some (.int .u8 x) ∧ u.cell? ⟨b, off + i * 3 + 1, none⟩ = some (.int .u8 y) ∧ u.cell? ⟨b, off + i * 3 + 2, none⟩ = some (.int .u8 z)) (by kernel_rfl) ?hq (by kernel_rfl) ⟨z0, z1, z2⟩ ?_
    case hq => rintro ⟨a, w, h⟩; exact h
    intro hHeld
    refine wpAnyH_take (i := 1) (v := .slice (some ⟨b, off + i * 3, none⟩) 3 3) rfl (by kernel_rfl) (by kernel_rfl) (by kernel_rfl) (fun _ _ _ h => h) (Or.inl ⟨by rfl, ?_⟩) hHeld ?_
    · intro wq hSw
      try dsimp only at hSw
      go_simp
    try simp only [Act.put]
    try simp only [List.setIfInBounds_toArray]
    try simp only [List.set_cons_succ]
    try simp only [List.set_cons_zero]
    refine wpAnyH_take (i := 2) (v := .pointer (some ⟨b, off + i * 3, none⟩)) rfl (by kernel_rfl) (by kernel_rfl) (by kernel_rfl) (fun _ _ _ h => h) (Or.inl ⟨by rfl, ?_⟩) hHeld ?_
    · intro wq hSw
      try dsimp only at hSw
      go_simp
    try simp only [Act.put]
    try simp only [List.setIfInBounds_toArray]
    try simp only [List.set_cons_succ]
    try simp only [List.set_cons_zero]
    refine wpAnyH_take (i := 3) (v := .int .u8 x) rfl (by kernel_rfl) (by kernel_rfl) (by kernel_rfl) (fun _ _ _ h => h) (Or.inl ⟨by rfl, ?_⟩) hHeld ?_
    · intro wq hSw
      try dsimp only at hSw
      go_simp
    try simp only [Act.put]
    try simp only [List.setIfInBounds_toArray]
    try simp only [List.set_cons_succ]
    try simp only [List.set_cons_zero]
    refine wpAnyH_take (i := 4) (v := .slice (some ⟨b, off + i * 3, none⟩) 3 3) rfl (by kernel_rfl) (by kernel_rfl) (by kernel_rfl) (fun _ _ _ h => h) (Or.inl ⟨by rfl, ?_⟩) hHeld ?_
    · intro wq hSw
      try dsimp only at hSw
      go_simp
    try simp only [Act.put]
    try simp only [List.setIfInBounds_toArray]
    try simp only [List.set_cons_succ]
    try simp only [List.set_cons_zero]
    refine wpAnyH_take (i := 5) (v := .pointer (some ⟨b, off + i * 3 + 1, none⟩)) rfl (by kernel_rfl) (by kernel_rfl) (by kernel_rfl) (fun _ _ _ h => h) (Or.inl ⟨by rfl, ?_⟩) hHeld ?_
    · intro wq hSw
      try dsimp only at hSw
      go_simp
    try simp only [Act.put]
    try simp only [List.setIfInBounds_toArray]
    try simp only [List.set_cons_succ]
    try simp only [List.set_cons_zero]
    refine wpAnyH_take (i := 6) (v := .int .u8 y) rfl (by kernel_rfl) (by kernel_rfl) (by kernel_rfl) (fun _ _ _ h => h) (Or.inl ⟨by rfl, ?_⟩) hHeld ?_
    · intro wq hSw
      try dsimp only at hSw
      go_simp
    try simp only [Act.put]
    try simp only [List.setIfInBounds_toArray]
    try simp only [List.set_cons_succ]
    try simp only [List.set_cons_zero]
    refine wpAnyH_take (i := 7) (v := .slice (some ⟨b, off + i * 3, none⟩) 3 3) rfl (by kernel_rfl) (by kernel_rfl) (by kernel_rfl) (fun _ _ _ h => h) (Or.inl ⟨by rfl, ?_⟩) hHeld ?_
    · intro wq hSw
      try dsimp only at hSw
      go_simp
    try simp only [Act.put]
    try simp only [List.setIfInBounds_toArray]
    try simp only [List.set_cons_succ]
    try simp only [List.set_cons_zero]
    refine wpAnyH_take (i := 8) (v := .pointer (some ⟨b, off + i * 3 + 2, none⟩)) rfl (by kernel_rfl) (by kernel_rfl) (by kernel_rfl) (fun _ _ _ h => h) (Or.inl ⟨by rfl, ?_⟩) hHeld ?_
    · intro wq hSw
      try dsimp only at hSw
      go_simp
    try simp only [Act.put]
    try simp only [List.setIfInBounds_toArray]
    try simp only [List.set_cons_succ]
    try simp only [List.set_cons_zero]
    refine wpAnyH_take (i := 9) (v := .int .u8 z) rfl (by kernel_rfl) (by kernel_rfl) (by kernel_rfl) (fun _ _ _ h => h) (Or.inl ⟨by rfl, ?_⟩) hHeld ?_
    · intro wq hSw
      try dsimp only at hSw
      go_simp
    try simp only [Act.put]
    try simp only [List.setIfInBounds_toArray]
    try simp only [List.set_cons_succ]
    try simp only [List.set_cons_zero]
    refine wpAnyH_take (i := 10) (v := .agg #[.int .u8 x, .int .u8 y, .int .u8 z]) rfl (by kernel_rfl) (by kernel_rfl) (by kernel_rfl) (fun _ _ _ h => h) (Or.inl ⟨by rfl, ?_⟩) hHeld ?_
    · intro wq hSw
      try dsimp only at hSw
      go_simp
    try simp only [Act.put]
    try simp only [List.setIfInBounds_toArray]
    try simp only [List.set_cons_succ]
    try simp only [List.set_cons_zero]
    refine wpAnyH_ready (rs := [0, 11]) (by kernel_rfl) (by simp) (AllReadyH.cons (o := _) rfl (fun K hK => ?_) (AllReadyH.cons (o := _) rfl (fun K hK => ?_) AllReadyH.nil))
    · go_simp
      refine hK.out _ _ hHeld (fun hHeld => ?_)
      clear hK K
      try simp only [Act.put]
      try simp only [List.setIfInBounds_toArray]
      try simp only [List.set_cons_succ]
      try simp only [List.set_cons_zero]
      refine wpAnyH_ready (rs := [11]) (by kernel_rfl) (by simp) (AllReadyH.cons (o := _) rfl (fun K hK => ?_) AllReadyH.nil)
      go_simp
      refine hK.out _ _ HSA.out (fun hHeld => ?_)
      clear hK K
      try simp only [Act.put]
      try simp only [List.setIfInBounds_toArray]
      try simp only [List.set_cons_succ]
      try simp only [List.set_cons_zero]
      refine wpAnyH_ready (rs := [12]) (by kernel_rfl) (by simp) (AllReadyH.cons (o := _) rfl (fun K hK => ?_) AllReadyH.nil)
      refine step_of_list rfl (wpList_append_own _ rfl _ _ 79 rfl w3.heap.size 172 i0 _ 3 3 Tryz.underlying79 hi0 hz0 hz1 hz2 rfl (by decide) (.slice av i cv) i (vals (l.take (3 * i))) rfl HN.out.1 ⟨Wc.heap.size, 0, none⟩ 1 1 (vals [x, y, z]) rfl rfl (new3 Wc.drew x y z) (vals_one _) (by unfold maxLen; omega) (by omega) (by have := HI2.out.gr.size; simp; omega) (fun v7 w7 g1 g2 _ => ⟨rfl, ?_⟩))
      obtain ⟨y1, y2, y3, y4, y5, y6, y7⟩ := HN.out.2 v7 w7 g1 g2
      obtain ⟨a7, c7, hv7⟩ := own_shape g1
      subst hv7
      clear g1 g2
      refine hK.out _ _ y3 (fun hHeld => ?_)
      clear hK K
      try simp only [Act.put]
      try simp only [List.setIfInBounds_toArray]
      try simp only [List.set_cons_succ]
      try simp only [List.set_cons_zero]
      refine wpAnyH_ready (rs := [13]) (by kernel_rfl) (by simp) (AllReadyH.cons (o := _) rfl (fun K hK => ?_) AllReadyH.nil)
      go_simp
      refine hK.out _ _ y4 (fun hHeld => ?_)
      clear hK K
      try simp only [Act.put]
      try simp only [List.setIfInBounds_toArray]
      try simp only [List.set_cons_succ]
      try simp only [List.set_cons_zero]
      refine wpAnyH_done (by kernel_rfl) ?_ _
      exact ⟨y6, y7, y5⟩
    · go_simp
      refine hK.out _ _ HSA.out (fun hHeld => ?_)
      clear hK K
      try simp only [Act.put]
      try simp only [List.setIfInBounds_toArray]
      try simp only [List.set_cons_succ]
      try simp only [List.set_cons_zero]
      refine wpAnyH_ready (rs := [0]) (by kernel_rfl) (by simp) (AllReadyH.cons (o := _) rfl (fun K hK => ?_) AllReadyH.nil)
      go_simp
      refine hK.out _ _ HSA.out (fun hHeld => ?_)
      clear hK K
      try simp only [Act.put]
      try simp only [List.setIfInBounds_toArray]
      try simp only [List.set_cons_succ]
      try simp only [List.set_cons_zero]
      refine wpAnyH_ready (rs := [12]) (by kernel_rfl) (by simp) (AllReadyH.cons (o := _) rfl (fun K hK => ?_) AllReadyH.nil)
      refine step_of_list rfl (wpList_append_own _ rfl _ _ 79 rfl w3.heap.size 172 i0 _ 3 3 Tryz.underlying79 hi0 hz0 hz1 hz2 rfl (by decide) (.slice av i cv) i (vals (l.take (3 * i))) rfl HN.out.1 ⟨Wc.heap.size, 0, none⟩ 1 1 (vals [x, y, z]) rfl rfl (new3 Wc.drew x y z) (vals_one _) (by unfold maxLen; omega) (by omega) (by have := HI2.out.gr.size; simp; omega) (fun v7 w7 g1 g2 _ => ⟨rfl, ?_⟩))
      obtain ⟨y1, y2, y3, y4, y5, y6, y7⟩ := HN.out.2 v7 w7 g1 g2
      obtain ⟨a7, c7, hv7⟩ := own_shape g1
      subst hv7
      clear g1 g2
      refine hK.out _ _ y3 (fun hHeld => ?_)
      clear hK K
      try simp only [Act.put]
      try simp only [List.setIfInBounds_toArray]
      try simp only [List.set_cons_succ]
      try simp only [List.set_cons_zero]
      refine wpAnyH_ready (rs := [13]) (by kernel_rfl) (by simp) (AllReadyH.cons (o := _) rfl (fun K hK => ?_) AllReadyH.nil)
      go_simp
      refine hK.out _ _ y4 (fun hHeld => ?_)
      clear hK K
      try simp only [Act.put]
      try simp only [List.setIfInBounds_toArray]
      try simp only [List.set_cons_succ]
      try simp only [List.set_cons_zero]
      refine wpAnyH_done (by kernel_rfl) ?_ _
      exact ⟨y6, y7, y5⟩
  case done =>
    intro Wa HI hD hlp
    obtain ⟨v, h1, h2⟩ := HI.ob
    have k1 : Wa.cell? ⟨w.heap.size, 0, none⟩ = some v := by simp [World.cell?, h1]
    have hgr := HI.gr
    obtain ⟨av, cv, hv⟩ := own_shape h2
    subst hv
    have HP : Hid (TbPost w c U l s' (.returned (.slice av N cv)) (Wa.putObj w3.heap.size (.deferred none))) := by
      have oth : ∀ k, k ≠ w3.heap.size → (Wa.putObj w3.heap.size (.deferred none)).heap[k]? = Wa.heap[k]? := fun k hk => World.putObj_heap_other hk
      have hl : l.take (3 * N) = l := List.take_of_length_le (by have := HNL.out; omega)
      rw [hl] at h2
      have hsz3 : w.heap.size < w3.heap.size := HMB.out.2
      have hcap : N ≤ cv := by
        rcases h2.2 with ⟨e, e2⟩ | ⟨g, cap, cur, e, _, _, h5, _⟩
        · omega
        · simp only [Value.slice.injEq] at e; obtain ⟨_, _, rfl⟩ := e; exact h5
      have hblk : ∀ x, av = some x → w3.heap.size ≤ x.block := fun x hx => by
        subst hx; exact (owns_tag h2 (k := x.block) rfl).1
      refine ⟨_, rfl, ⟨av, N, cv, rfl, by have := HNL.out; omega, hcap, by have := HNL.out; omega, (own_rowT h2).same fun x hx hz => oth _ ?_, fun x hx hz => by have := hblk x hx; omega⟩, ?_, ?_⟩
      · intro e
        subst hx
        obtain ⟨c2, e2⟩ := (owns_tag h2 (k := x.block) rfl).2
        rw [e, hD] at e2; cases e2
      · have hcs : CS Wa c U s' := by
          have hc0 := HH.out.lt
          refine ⟨?_, HC3.out.2.1.byt, HC3.out.2.1.ln, HC3.out.2.1.ne, HC3.out.2.1.cu⟩
          exact HC3.out.2.1.cur.grown hgr (by omega) (HCU.out)
        have hbel : Below Wa.heap.size Wa Wa := Below.refl _ _
        obtain ⟨a', cap', q1, q2, q3, q4, q5⟩ := hcs.cur
        refine ⟨⟨a', cap', (oth _ (by have := lt_of_block q1; intro e; rw [e, hD] at q1; cases q1)).trans q1, q2, q3, q4.same fun x hx hz => oth _ ?_, q5⟩, hcs.byt, hcs.ln, hcs.ne, hcs.cu⟩
        have := q5 x hx hz
        have := HCU.out
        omega
      · have g1 := HC3.out.2.2
        refine ⟨hgr.os.trans g1.os, hgr.tape.trans g1.tape, hgr.output.trans g1.output, by rw [World.putObj_size]; exact Nat.le_trans g1.size hgr.size, fun k hk hne => ?_⟩
        exact (oth k (by omega)).trans ((hgr.block k (by omega) (by simp; omega)).trans (g1.block k hk hne))
    clear HI hlp h1 h2 hgr
    go_wp2
    refine ⟨by simp, .inl ⟨_, _, rfl, run_takeDeferred hD, ?_⟩⟩
    refine ⟨_, results_tmp rfl _ _ _, ?_⟩
    simp only [Array.getD_eq_getD_getElem?, List.getElem?_toArray, List.getElem?_cons_succ, List.getElem?_cons_zero, Option.getD_some]
    exact HP.out
end Go.Proofs.YtgffcdldljgiiaaGreat
