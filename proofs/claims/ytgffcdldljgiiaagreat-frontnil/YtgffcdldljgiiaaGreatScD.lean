/- A GIF's beginning: the name, the sizes: the program's walks. -/
import Derived.Test.YtgffcdldljgiiaaGreatScC
import Derived.Lib.SmallJoins
import Derived.Deep.RegionHeld3
namespace Go.Proofs.YtgffcdldljgiiaaGreat
open Go.RowKit
theorem row_fr {w : World} (l : List Int) (cs : Array Value) (fr : Nat × Nat) (hc : cs = (vals l).toArray) : Row (w.alloc (.cells cs 5 fr)) (some ⟨w.heap.size, 0, none⟩) l := by
  subst hc
  refine .inr ⟨_, 0, rfl, fun i hi => ?_⟩
  rw [World.cell?_alloc_mark, Nat.zero_add, ← vals_at l i hi]
  simp
theorem CS.ge {w : World} {c U : Nat} {st : St} (h : CS w c U st) : c < w.heap.size := h.lt
def NmPost (w : World) (c U : Nat) (st : St) (e : Ending) (w' : World) : Prop := e = .returned (.tuple #[]) ∧ CS w' c U st ∧ w.grownBy w' (some c)
set_option maxHeartbeats 1600000 in
set_option maxRecDepth 20000 in
theorem readName_any (c U : Nat) (st : St) (w : World) (h : CS w c U st) : Calls Tryz.prog 240 #[.pointer (some ⟨c, 0, none⟩)] w fun e w' => NmPost w c U (nmAt st 6) e w' := by
  have kc := fun (w : World) (C : Array Value) (n c g : Nat) (hg : g = w.heap.size) => Go.Joins.run_convert_bytes_const_at (P := Tryz.prog) w 22 5 C n c g hg Tryz.underlying22 Tryz.underlying5
  obtain ⟨w1, hw1⟩ : ∃ w1, w.alloc (.cells #[.int .u8 71, .int .u8 73, .int .u8 70, .int .u8 56, .int .u8 57, .int .u8 97] 5 (6, 7)) = w1 := ⟨_, rfl⟩
  have hb1 : Below w.heap.size w w1 := by rw [← hw1]; exact (Below.refl _ w).alloc (Nat.le_refl _) _
  have HR : Hid (Row w1 (some ⟨w.heap.size, 0, none⟩) nmB) := by show Row _ _ _; rw [← hw1]; exact row_fr nmB _ _ rfl
  have HC : Hid (CS w1 c U st ∧ Below w.heap.size w w1 ∧ c < w.heap.size ∧ w.heap.size < w1.heap.size) := ⟨h.old hb1, hb1, h.lt, by rw [← hw1]; simp⟩
  clear h hb1
  go_enter Tryz.func240, Tryz.ntmps240
  go_wp2
  clear kc hw1
  go_loopw [3, 7] (fun _ i wr => ∃ k : Nat, k ≤ 6 ∧ i = .int .i64 k ∧ Hid (CS wr c U (nmAt st k) ∧ w1.grownBy wr (some c))) (fun _ i _ => 6 - (intOf i).toNat)
  case atStart => exact ⟨0, by omega, rfl, HC.out.1, grownBy_refl _ _⟩
  case round =>
    obtain ⟨k, hk, rfl, HI⟩ := hrel
    by_cases hlt : k < 6
    · obtain ⟨b, off, hbo, hcell⟩ : ∃ b off, (some ⟨w.heap.size, 0, none⟩ : Option Addr) = some ⟨b, off, none⟩ ∧ ∀ j, j < nmB.length → w1.cell? ⟨b, off + j, none⟩ = some (.int .u8 (nmB[j]?.getD 0)) := by
        rcases HR.out with e | e
        · cases e
        · exact e
      simp only [Option.some.injEq, Addr.mk.injEq] at hbo
      obtain ⟨rfl, rfl, -⟩ := hbo
      have hck := HI.out.2.cell (hcell k hlt) (by have := HC.out.2.2.1; simp; omega)
      rw [Nat.zero_add] at hck
      have HN : Hid (nmAt st (k + 1) = nm1 (nmB[k]?.getD 0) (nmAt st k)) := rfl
      have hkb : 0 ≤ nmB[k]?.getD 0 ∧ nmB[k]?.getD 0 ≤ 255 := by
        match k, hlt with
        | 0, _ => decide
        | 1, _ => decide
        | 2, _ => decide
        | 3, _ => decide
        | 4, _ => decide
        | 5, _ => decide
      have CB := HI.out.1.big
      have HG : Hid (w1.grownBy wr (some c)) := HI.out.2
      have HF : Hid (∀ w2, CS w2 c U (bS 1 (nmAt st k)) → Calls Tryz.prog 123 #[.pointer (some ⟨c, 0, none⟩), .int .i64 3] w2 fun e w' => e = .returned (.tuple #[]) ∧ CS w' c U (fS 3 (bS 1 (nmAt st k))) ∧ w2.grownBy w' (some c)) := fun w2 h => h.fail 3 (by omega)
      unfold nm1 at HN
      generalize nmB[k]?.getD 0 = X at *
      generalize bS 1 (nmAt st k) = s1 at *
      generalize b1 (nmAt st k) = B at *
      clear hcell HI
      by_cases hB : B = X
      · subst hB
        rw [if_pos rfl] at HN
        go_wp2_with fail
        refine CB.mono ?_
        clear CB HF
        rintro e w2 ⟨rfl, hc2, hg2⟩
        have HX : Hid (CS w2 c U s1 ∧ w1.grownBy w2 (some c)) := ⟨hc2, grownBy_trans HG.out hg2⟩
        clear hc2 hg2
        go_wp2
        go_roundw
        case rel => exact ⟨k + 1, by omega, by go_num, by have := HX.out; rw [← HN.out] at this; exact this⟩
        case measure => simp [intOf]; omega
      · rw [if_neg hB] at HN
        have hB1 : (B != X) = true := by simpa using hB
        have hB2 : (B == X) = false := by simpa using hB
        go_wp2_with fail
        refine CB.mono ?_
        clear CB
        rintro e w2 ⟨rfl, hc2, hg2⟩
        have CF := HF.out w2 hc2
        have HX : Hid (w1.grownBy w2 (some c)) := grownBy_trans HG.out hg2
        clear hc2 hg2 HF
        go_wp2_with fail
        refine CF.mono ?_
        clear CF
        rintro e w3 ⟨rfl, hc3, hg3⟩
        have HX3 : Hid (CS w3 c U (fS 3 s1) ∧ w1.grownBy w3 (some c)) := ⟨hc3, grownBy_trans HX.out hg3⟩
        clear hc3 hg3
        go_wp2
        go_roundw
        case rel => exact ⟨k + 1, by omega, by go_num, by have := HX3.out; rw [← HN.out] at this; exact this⟩
        case measure => simp [intOf]; omega
    · obtain rfl : k = 6 := by omega
      go_wp2
      go_end0
      exact ⟨rfl, HI.out.1, grownBy_trans (grownBy_of_below HC.out.2.1 _) HI.out.2⟩
set_option maxRecDepth 100000 in
theorem land128 : ∀ k : Fin 256, k.val &&& 128 = if 128 ≤ k.val then 128 else 0 := by decide
theorem and128 (m : Int) (h0 : 0 ≤ m) (h1 : m ≤ 255) : bits .and .i64 m 128 = if 128 ≤ m then 128 else 0 := by
  obtain ⟨k, rfl⟩ := Int.eq_ofNat_of_zero_le h0
  rw [show (128 : Int) = ((128 : Nat) : Int) from rfl, i64_andN k 128 (by omega) (by omega), land128 ⟨k, by omega⟩]
  by_cases h : 128 ≤ k
  · rw [if_pos h, if_pos (by omega)]
  · rw [if_neg h, if_neg (by omega)]; rfl
/-- A screen as a value. -/
def ScV (W H : Int) (tv : Value) (Lo : Bool) (C : Int) (La : Bool) (B : Int) : Value := .agg #[.int .i64 W, .int .i64 H, tv, .bool Lo, .int .i64 C, .bool La, .int .i64 B]
theorem seven_cells {w : World} {b : Nat} {v0 v1 v2 v3 v4 v5 v6 : Value} {t : TypeId} (h : w.heap[b]? = some (.cells #[v0, v1, v2, v3, v4, v5, v6] t (0, 0))) :
    w.cell? ⟨b, 0, none⟩ = some v0 ∧ w.cell? ⟨b, 1, none⟩ = some v1 ∧ w.cell? ⟨b, 2, none⟩ = some v2 ∧ w.cell? ⟨b, 3, none⟩ = some v3 ∧ w.cell? ⟨b, 4, none⟩ = some v4 ∧ w.cell? ⟨b, 5, none⟩ = some v5 ∧ w.cell? ⟨b, 6, none⟩ = some v6 ∧ ∀ i, w.frozen? ⟨b, i, none⟩ = false := by
  simp [World.cell?, World.frozen?, h]
def SdPost (w : World) (c U : Nat) (W H : Int) (T : List Int) (st : St) (e : Ending) (w' : World) : Prop := ∃ tv, e = .returned (ScV W H tv false (-1) false 0) ∧ TI w' w.heap.size tv T ∧ CS w' c U st ∧ w.grownBy w' (some c)
/-- The screen that is begun, and the result's place. -/
structure Sd1 (w : World) (c U : Nat) (W H : Int) (sb : Nat) (st : St) (wr : World) : Prop where
  cs : CS wr c U st
  gr : w.grownBy wr (some c)
  rs : wr.heap[w.heap.size]? = some (.cells #[.int .i64 0, .int .i64 0, .slice none 0 0, .bool false, .int .i64 0, .bool false, .int .i64 0] 303 (0, 0))
  sc : wr.heap[sb]? = some (.cells #[.int .i64 W, .int .i64 H, .slice none 0 0, .bool false, .int .i64 (-1), .bool false, .int .i64 0] 303 (0, 0))
  lt : w.heap.size < sb
  cl : c < w.heap.size
theorem Sd1.step {w : World} {c U : Nat} {W H : Int} {sb : Nat} {st st' : St} {wr w' : World} (h : Sd1 w c U W H sb st wr) (hc : CS w' c U st') (hg : wr.grownBy w' (some c)) : Sd1 w c U W H sb st' w' := by
  have h1 := h.lt
  have h2 := h.cl
  exact ⟨hc, grownBy_trans h.gr hg, (hg.block _ (lt_of_block h.rs) (by simp; omega)).trans h.rs, (hg.block _ (lt_of_block h.sc) (by simp; omega)).trans h.sc, h.lt, h.cl⟩
theorem Sd1.below {w : World} {c U : Nat} {W H : Int} {sb : Nat} {st : St} {wr w' : World} (h : Sd1 w c U W H sb st wr) (hb : Below wr.heap.size wr w') : Sd1 w c U W H sb st w' := h.step (h.cs.old hb) (grownBy_of_below hb _)
/-- Seven cells are laid: nothing else is changed. -/
theorem set7 {w : World} {b : Nat} (u0 u1 u2 u3 u4 u5 u6 : Value) : ∀ k, k ≠ b → (((((((w.setCell ⟨b, 0, none⟩ u0).setCell ⟨b, 1, none⟩ u1).setCell ⟨b, 2, none⟩ u2).setCell ⟨b, 3, none⟩ u3).setCell ⟨b, 4, none⟩ u4).setCell ⟨b, 5, none⟩ u5).setCell ⟨b, 6, none⟩ u6).heap[k]? = w.heap[k]? := fun k hk => by
  rw [Below.heap_setCell _ _ _ _ hk, Below.heap_setCell _ _ _ _ hk, Below.heap_setCell _ _ _ _ hk, Below.heap_setCell _ _ _ _ hk, Below.heap_setCell _ _ _ _ hk, Below.heap_setCell _ _ _ _ hk, Below.heap_setCell _ _ _ _ hk]
theorem grown7 {w : World} {b : Nat} (u0 u1 u2 u3 u4 u5 u6 : Value) : w.grownBy (((((((w.setCell ⟨b, 0, none⟩ u0).setCell ⟨b, 1, none⟩ u1).setCell ⟨b, 2, none⟩ u2).setCell ⟨b, 3, none⟩ u3).setCell ⟨b, 4, none⟩ u4).setCell ⟨b, 5, none⟩ u5).setCell ⟨b, 6, none⟩ u6) (some b) :=
  grownBy_trans (grownBy_trans (grownBy_trans (grownBy_trans (grownBy_trans (grownBy_trans (grownBy_set _ _ _ _) (grownBy_set _ _ _ _)) (grownBy_set _ _ _ _)) (grownBy_set _ _ _ _)) (grownBy_set _ _ _ _)) (grownBy_set _ _ _ _)) (grownBy_set _ _ _ _)
/-- A change of a block of the call's own. -/
theorem grownBy_own {w wr w' : World} {c b : Nat} (h : w.grownBy wr (some c)) (hg : wr.grownBy w' (some b)) (hb : w.heap.size ≤ b) : w.grownBy w' (some c) :=
  ⟨hg.os.trans h.os, hg.tape.trans h.tape, hg.output.trans h.output, Nat.le_trans h.size hg.size, fun k hk hne => (hg.block k (Nat.lt_of_lt_of_le hk h.size) (by simp; omega)).trans (h.block k hk hne)⟩
theorem Sd1.fin {w : World} {c U : Nat} {W H : Int} {sb : Nat} {st : St} {wr : World} (h : Sd1 w c U W H sb st wr) (hU : U ≤ w.heap.size) (u0 u1 u2 u3 u4 u5 u6 : Value) : SdPost w c U W H [] st (.returned (ScV W H (.slice none 0 0) false (-1) false 0)) (((((((wr.setCell ⟨w.heap.size, 0, none⟩ u0).setCell ⟨w.heap.size, 1, none⟩ u1).setCell ⟨w.heap.size, 2, none⟩ u2).setCell ⟨w.heap.size, 3, none⟩ u3).setCell ⟨w.heap.size, 4, none⟩ u4).setCell ⟨w.heap.size, 5, none⟩ u5).setCell ⟨w.heap.size, 6, none⟩ u6) :=
  ⟨_, rfl, TI.nil _ _, h.cs.grown (grown7 _ _ _ _ _ _ _) hU, grownBy_own h.gr (grown7 _ _ _ _ _ _ _) (Nat.le_refl _)⟩
theorem Sd1.fint {w : World} {c U : Nat} {W H : Int} {sb : Nat} {st : St} {wr : World} {B : Nat} {T : List Int} {tv : Value} (h : Sd1 w c U W H sb st wr) (hU : U ≤ w.heap.size) (hsb : sb < B) (ht : TI wr B tv T) (u u0 u1 u2 u3 u4 u5 u6 : Value) : SdPost w c U W H T st (.returned (ScV W H tv false (-1) false 0)) ((((((((wr.setCell ⟨sb, 2, none⟩ u).setCell ⟨w.heap.size, 0, none⟩ u0).setCell ⟨w.heap.size, 1, none⟩ u1).setCell ⟨w.heap.size, 2, none⟩ u2).setCell ⟨w.heap.size, 3, none⟩ u3).setCell ⟨w.heap.size, 4, none⟩ u4).setCell ⟨w.heap.size, 5, none⟩ u5).setCell ⟨w.heap.size, 6, none⟩ u6) := by
  have hlt := h.lt
  refine ⟨_, rfl, ?_, ?_, ?_⟩
  · exact (ht.same fun k hk _ => by rw [set7 _ _ _ _ _ _ _ k (by omega), Below.heap_setCell _ _ _ _ (show k ≠ sb by omega)]).mono (by omega)
  · exact (h.cs.grown (grownBy_set _ _ _ _) (by omega)).grown (grown7 _ _ _ _ _ _ _) hU
  · exact grownBy_own (grownBy_own h.gr (grownBy_set _ _ _ _) (by omega)) (grown7 _ _ _ _ _ _ _) (Nat.le_refl _)
set_option maxHeartbeats 3200000 in
set_option maxRecDepth 20000 in
theorem readSides_any (c U : Nat) (st : St) (w : World) (h : CS w c U st) (hU : U ≤ w.heap.size) : Calls Tryz.prog 241 #[.pointer (some ⟨c, 0, none⟩)] w fun e w' => SdPost w c U (l2 st) (sdH st) (sdT st) (sdS st) e w' := by
  have HU : Hid (U ≤ w.heap.size) := hU
  obtain ⟨w0, hw0⟩ : ∃ w0, w.alloc (.cells #[.int .i64 0, .int .i64 0, .slice none 0 0, .bool false, .int .i64 0, .bool false, .int .i64 0] 303) = w0 := ⟨_, rfl⟩
  have hb0 : Below w.heap.size w w0 := by rw [← hw0]; exact (Below.refl _ w).alloc (Nat.le_refl _) _
  have HR0 : Hid (w0.heap[w.heap.size]? = some (.cells #[.int .i64 0, .int .i64 0, .slice none 0 0, .bool false, .int .i64 0, .bool false, .int .i64 0] 303 (0, 0)) ∧ Below w.heap.size w w0 ∧ c < w.heap.size) := ⟨by rw [← hw0]; exact World.alloc_heap_new w _, hb0, h.lt⟩
  have CA := (h.old hb0).little
  have HB : Hid (∀ w1, CS w1 c U (bS 2 st) → Calls Tryz.prog 257 #[.pointer (some ⟨c, 0, none⟩), .int .i64 2] w1 fun e w' => e = .returned (.int .i64 (sdH st)) ∧ CS w' c U (bS 2 (bS 2 st)) ∧ w1.grownBy w' (some c)) := fun w1 h => h.little
  have HD : Hid (∀ w1, CS w1 c U (bS 2 (bS 2 st)) → (0 ≤ sdM st ∧ sdM st ≤ 255) ∧ Calls Tryz.prog 78 #[.pointer (some ⟨c, 0, none⟩), .int .i64 1] w1 fun e w' => e = .returned (.int .i64 (sdM st)) ∧ CS w' c U (bS 1 (bS 2 (bS 2 st))) ∧ w1.grownBy w' (some c)) := fun w1 h => ⟨b1_bd h, h.big⟩
  have HE : Hid (∀ w1, CS w1 c U (bS 1 (bS 2 (bS 2 st))) → Calls Tryz.prog 258 #[.pointer (some ⟨c, 0, none⟩), .int .i64 2] w1 fun e w' => CbPost w1 c U (bL 2 (bS 1 (bS 2 (bS 2 st)))) (sdA st) e w') := fun w1 h => h.bytes 2 (by omega) (by omega)
  have HS : Hid (sdT st = (if 128 ≤ sdM st then bL (tbN (sdM st)) (if picN (l2 st) (sdH st) then sdA st else fS 11 (sdA st)) else []) ∧ sdS st = (if 128 ≤ sdM st then bS (tbN (sdM st)) (if picN (l2 st) (sdH st) then sdA st else fS 11 (sdA st)) else (if picN (l2 st) (sdH st) then sdA st else fS 11 (sdA st)))) := ⟨rfl, rfl⟩
  generalize sdT st = T at *
  generalize sdS st = SF at *
  generalize sdA st = SA at *
  generalize bL 2 (bS 1 (bS 2 (bS 2 st))) = LX at *
  generalize bS 1 (bS 2 (bS 2 st)) = S3 at *
  generalize bS 2 (bS 2 st) = S2 at *
  generalize bS 2 st = S1 at *
  generalize sdM st = M at *
  generalize sdH st = H at *
  generalize l2 st = W at *
  clear h hb0 hU
  go_enter Tryz.func241, Tryz.ntmps241
  go_wp2_with fail
  refine CA.mono ?_
  clear CA hw0
  rintro e w1 ⟨rfl, hc1, hg1⟩
  have CB := HB.out w1 hc1
  have HX1 : Hid (w.grownBy w1 (some c) ∧ w1.heap[w.heap.size]? = some (.cells #[.int .i64 0, .int .i64 0, .slice none 0 0, .bool false, .int .i64 0, .bool false, .int .i64 0] 303 (0, 0))) := ⟨grownBy_trans (grownBy_of_below HR0.out.2.1 _) hg1, (hg1.block _ (lt_of_block HR0.out.1) (by have := HR0.out.2.2; simp; omega)).trans HR0.out.1⟩
  clear hc1 hg1 HB
  go_wp2_with fail
  refine CB.mono ?_
  clear CB
  rintro e w2 ⟨rfl, hc2, hg2⟩
  obtain ⟨w3, hw3⟩ : ∃ w3, w3 = w2.alloc (.cells #[.int .i64 W, .int .i64 H, .slice none 0 0, .bool false, .int .i64 (-1), .bool false, .int .i64 0] 303) := ⟨_, rfl⟩
  have HX3 : Hid (Sd1 w c U W H w2.heap.size S2 w3) := by
    have hb : Below w2.heap.size w2 w3 := by rw [hw3]; exact (Below.refl _ w2).alloc (Nat.le_refl _) _
    have hr2 := (hg2.block _ (lt_of_block HX1.out.2) (by have := HR0.out.2.2; simp; omega)).trans HX1.out.2
    exact ⟨hc2.old hb, grownBy_trans (grownBy_trans HX1.out.1 hg2) (grownBy_of_below hb _), (hb.block _ (lt_of_block hr2)).trans hr2, by rw [hw3]; exact World.alloc_heap_new w2 _, lt_of_block hr2, HR0.out.2.2⟩
  obtain ⟨hM, CD⟩ := HD.out w3 HX3.out.cs
  clear hc2 hg2 HX1 HD HR0
  go_wp2_with fail
  rw [← hw3]
  refine CD.mono ?_
  clear CD hw3
  generalize w2.heap.size = sb at *
  rintro e w4 ⟨rfl, hc4, hg4⟩
  have HX4 : Hid (Sd1 w c U W H sb S3 w4) := HX3.out.step hc4 hg4
  have CE := HE.out w4 hc4
  clear hc4 hg4 HX3 HE
  go_wp2_with fail
  refine CE.mono ?_
  clear CE
  rintro e w5 ⟨a5, cp5, g5, rfl, -, -, -, -, -, hc5, hg5⟩
  have HX5 : Hid (Sd1 w c U W H sb SA w5) := HX4.out.step hc5 hg5
  clear hc5 hg5 HX4
  generalize LX.length = LN at *
  obtain ⟨k0, k1, -⟩ := seven_cells HX5.out.sc
  have CM := maySides_any W H w5
  have h128 := and128 M hM.1 hM.2
  by_cases hp : picN W H
  · by_cases hq : 128 ≤ M
    · rw [decide_eq_true hp] at CM
      rw [if_pos hp, if_pos hq, if_pos hq] at HS
      rw [if_pos hq] at h128
      go_wp2_with fail
      refine CM.mono ?_
      clear CM k0 k1
      rintro e w6 ⟨rfl, hb6⟩
      have HX6 : Hid (Sd1 w c U W H sb SA w6) := HX5.out.below hb6
      clear hb6 HX5
      obtain ⟨w7, hw7⟩ : ∃ w7, w7 = w6 := ⟨_, rfl⟩
      subst hw7
      have HX7 : Hid (Sd1 w c U W H sb SA w7) := HX6.out
      clear HX6
      generalize SA = SB at *
      have CT := readTable_any c U SB M w7 HX7.out.cs (by have := HU.out; have := HX7.out.gr.size; omega) hM
      go_wp2_with fail
      refine CT.mono ?_
      clear CT
      rintro e w8 ⟨tv, rfl, ht8, hc8, hg8⟩
      have HX8 : Hid (Sd1 w c U W H sb (bS (tbN M) SB) w8) := HX7.out.step hc8 hg8
      have HSB : Hid (sb < w7.heap.size) := lt_of_block HX7.out.sc
      have HT8 : Hid (TI w8 w7.heap.size tv (bL (tbN M) SB)) := ht8
      obtain ⟨ta, tn, tc, htv, -⟩ := ht8
      subst htv
      clear hc8 hg8 HX7
      obtain ⟨j0, j1, j2, j3, j4, j5, j6, jf⟩ := seven_cells HX8.out.sc
      obtain ⟨r0, r1, r2, r3, r4, r5, r6, rf⟩ := seven_cells HX8.out.rs
      have jf2 := jf 2
      have rf0 := rf 0
      have rf1 := rf 1
      have rf2 := rf 2
      have rf3 := rf 3
      have rf4 := rf 4
      have rf5 := rf 5
      have rf6 := rf 6
      have hne := HX8.out.lt
      have hne2 : w.heap.size ≠ sb := by omega
      clear jf rf
      go_wp2
      refine bodyPost_ret (v := ScV W H (.slice ta tn tc) false (-1) false 0) ?_ rfl (by rw [HS.out.1, HS.out.2]; exact HX8.out.fint HU.out HSB.out HT8.out _ _ _ _ _ _ _ _)
      rw [results_cellA rfl]
      go_simp
      rfl
    · rw [decide_eq_true hp] at CM
      rw [if_pos hp, if_neg hq, if_neg hq] at HS
      rw [if_neg hq] at h128
      go_wp2_with fail
      refine CM.mono ?_
      clear CM k0 k1
      rintro e w6 ⟨rfl, hb6⟩
      have HX6 : Hid (Sd1 w c U W H sb SA w6) := HX5.out.below hb6
      clear hb6 HX5
      obtain ⟨w7, hw7⟩ : ∃ w7, w7 = w6 := ⟨_, rfl⟩
      subst hw7
      have HX7 : Hid (Sd1 w c U W H sb SA w7) := HX6.out
      clear HX6
      generalize SA = SB at *
      obtain ⟨j0, j1, j2, j3, j4, j5, j6, jf⟩ := seven_cells HX7.out.sc
      obtain ⟨r0, r1, r2, r3, r4, r5, r6, rf⟩ := seven_cells HX7.out.rs
      have rf0 := rf 0
      have rf1 := rf 1
      have rf2 := rf 2
      have rf3 := rf 3
      have rf4 := rf 4
      have rf5 := rf 5
      have rf6 := rf 6
      clear jf rf
      go_wp2
      refine bodyPost_ret (v := ScV W H (.slice none 0 0) false (-1) false 0) ?_ rfl (by rw [HS.out.1, HS.out.2]; exact HX7.out.fin HU.out _ _ _ _ _ _ _)
      rw [results_cellA rfl]
      go_simp
      rfl
  · by_cases hq : 128 ≤ M
    · rw [decide_eq_false hp] at CM
      rw [if_neg hp, if_pos hq, if_pos hq] at HS
      rw [if_pos hq] at h128
      go_wp2_with fail
      refine CM.mono ?_
      clear CM k0 k1
      rintro e w6 ⟨rfl, hb6⟩
      have HX6 : Hid (Sd1 w c U W H sb SA w6) := HX5.out.below hb6
      clear hb6 HX5
      have CF := HX6.out.cs.fail 11 (by omega)
      go_wp2_with fail
      refine CF.mono ?_
      clear CF
      rintro e w7 ⟨rfl, hc7, hg7⟩
      have HX7 : Hid (Sd1 w c U W H sb (fS 11 SA) w7) := HX6.out.step hc7 hg7
      clear hc7 hg7 HX6
      generalize fS 11 SA = SB at *
      have CT := readTable_any c U SB M w7 HX7.out.cs (by have := HU.out; have := HX7.out.gr.size; omega) hM
      go_wp2_with fail
      refine CT.mono ?_
      clear CT
      rintro e w8 ⟨tv, rfl, ht8, hc8, hg8⟩
      have HX8 : Hid (Sd1 w c U W H sb (bS (tbN M) SB) w8) := HX7.out.step hc8 hg8
      have HSB : Hid (sb < w7.heap.size) := lt_of_block HX7.out.sc
      have HT8 : Hid (TI w8 w7.heap.size tv (bL (tbN M) SB)) := ht8
      obtain ⟨ta, tn, tc, htv, -⟩ := ht8
      subst htv
      clear hc8 hg8 HX7
      obtain ⟨j0, j1, j2, j3, j4, j5, j6, jf⟩ := seven_cells HX8.out.sc
      obtain ⟨r0, r1, r2, r3, r4, r5, r6, rf⟩ := seven_cells HX8.out.rs
      have jf2 := jf 2
      have rf0 := rf 0
      have rf1 := rf 1
      have rf2 := rf 2
      have rf3 := rf 3
      have rf4 := rf 4
      have rf5 := rf 5
      have rf6 := rf 6
      have hne := HX8.out.lt
      have hne2 : w.heap.size ≠ sb := by omega
      clear jf rf
      go_wp2
      refine bodyPost_ret (v := ScV W H (.slice ta tn tc) false (-1) false 0) ?_ rfl (by rw [HS.out.1, HS.out.2]; exact HX8.out.fint HU.out HSB.out HT8.out _ _ _ _ _ _ _ _)
      rw [results_cellA rfl]
      go_simp
      rfl
    · rw [decide_eq_false hp] at CM
      rw [if_neg hp, if_neg hq, if_neg hq] at HS
      rw [if_neg hq] at h128
      go_wp2_with fail
      refine CM.mono ?_
      clear CM k0 k1
      rintro e w6 ⟨rfl, hb6⟩
      have HX6 : Hid (Sd1 w c U W H sb SA w6) := HX5.out.below hb6
      clear hb6 HX5
      have CF := HX6.out.cs.fail 11 (by omega)
      go_wp2_with fail
      refine CF.mono ?_
      clear CF
      rintro e w7 ⟨rfl, hc7, hg7⟩
      have HX7 : Hid (Sd1 w c U W H sb (fS 11 SA) w7) := HX6.out.step hc7 hg7
      clear hc7 hg7 HX6
      generalize fS 11 SA = SB at *
      obtain ⟨j0, j1, j2, j3, j4, j5, j6, jf⟩ := seven_cells HX7.out.sc
      obtain ⟨r0, r1, r2, r3, r4, r5, r6, rf⟩ := seven_cells HX7.out.rs
      have rf0 := rf 0
      have rf1 := rf 1
      have rf2 := rf 2
      have rf3 := rf 3
      have rf4 := rf 4
      have rf5 := rf 5
      have rf6 := rf 6
      clear jf rf
      go_wp2
      refine bodyPost_ret (v := ScV W H (.slice none 0 0) false (-1) false 0) ?_ rfl (by rw [HS.out.1, HS.out.2]; exact HX7.out.fin HU.out _ _ _ _ _ _ _)
      rw [results_cellA rfl]
      go_simp
      rfl
end Go.Proofs.YtgffcdldljgiiaaGreat
