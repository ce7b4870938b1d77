/- LZW's packer: its cells; put, begin, room. -/
import Derived.Test.YtcbmlioeeoghkaaLzA
import Derived.Test.YtcbmlioeeoghkaaLzP
import Derived.Test.YtcbmlioeeoghkaaPut
namespace Go.Proofs.Ytcbmlioeeoghkaa
open Go.RowKit
/-- What was written: numbers, each with its bits. -/
abbrev Em := Nat × Nat
def cntE : List Em → Nat
  | [] => 0
  | p :: r => p.2 + cntE r
def numE : List Em → Int
  | [] => 0
  | p :: r => (p.1 : Int) + 2 ^ p.2 * numE r
theorem cntE_app (es fs : List Em) : cntE (es ++ fs) = cntE es + cntE fs := by
  induction es with
  | nil => simp [cntE]
  | cons p r ih => simp only [List.cons_append, cntE, ih]; omega
theorem numE_app (es fs : List Em) : numE (es ++ fs) = numE es + 2 ^ cntE es * numE fs := by
  induction es with
  | nil => simp [cntE, numE]
  | cons p r ih =>
    simp only [List.cons_append, cntE, numE, ih]
    rw [pow_add, Int.mul_add, Int.mul_assoc, Int.add_assoc]
def widW (L wr : Nat) : Nat := widN L (fcN L + (wr - 1))
theorem widG_gt (w n : Nat) (h : w ≤ 12) : n < 2 ^ widG w n ∨ widG w n = 12 := by
  obtain ⟨k, hk⟩ : ∃ k, 12 - w = k := ⟨_, rfl⟩
  induction k generalizing w with
  | zero =>
    rw [widG_eq, if_neg (by omega)]
    exact .inr (by omega)
  | succ k ih =>
    rw [widG_eq]
    split
    · exact ih (w + 1) (by omega) (by omega)
    · exact .inl (by omega)
theorem widN_fits {L n c : Nat} (hL : L ≤ 8) (h1 : c ≤ n) (h2 : c < 4096) : c < 2 ^ widN L n := by
  rcases widG_gt (L + 1) n (by omega) with h | h
  · exact Nat.lt_of_le_of_lt h1 h
  · unfold widN; rw [h]; exact h2
/-- A packer's cells. -/
structure Pk (base : Nat) (w : World) (p r m : Nat) (g : Option Nat) (L : Nat) (fs : List Tx) (wr : Nat) (es : List Em) : Prop where
  pc : w.heap[p]? = some (.cells #[.int .i64 L, .pointer (some ⟨r, 0, none⟩), .map (some m), .int .i64 wr] 68 (0, 0))
  wz : ∃ zs, WrZ w r g zs (cntE es) ∧ Bitz zs (numE es) (cntE es)
  mp : MapT w m L fs
  bs : base ≤ p ∧ base ≤ r ∧ base ≤ m ∧ ∀ k, g = some k → base ≤ k
section
variable {base : Nat} {w w' : World} {p r m : Nat} {g : Option Nat} {L : Nat} {fs : List Tx} {wr : Nat} {es : List Em}
theorem four_cells {c0 c1 c2 c3 : Value} {t : TypeId} (h : w.heap[p]? = some (.cells #[c0, c1, c2, c3] t (0, 0))) : w.cell? ⟨p, 0, none⟩ = some c0 ∧ w.cell? ⟨p, 1, none⟩ = some c1 ∧ w.cell? ⟨p, 2, none⟩ = some c2 ∧ w.cell? ⟨p, 3, none⟩ = some c3 ∧ ∀ j, w.frozen? ⟨p, j, none⟩ = false := by
  refine ⟨?_, ?_, ?_, ?_, fun j => ?_⟩ <;> simp [World.cell?, World.frozen?, h]
theorem WrZ.tags {zs : List Int} {n : Nat} (h : WrZ w r g zs n) : (∃ c, w.heap[r]? = some (.cells c 89 (0, 0))) ∧ ∀ k, g = some k → ∃ c, w.heap[k]? = some (.cells c 5 (0, 0)) := by
  obtain ⟨v, hh, hs⟩ := h
  refine ⟨⟨_, hh⟩, fun k hk => ?_⟩
  rcases hs with ⟨_, h, _⟩ | ⟨b, off, cp, cur, _, h, hb, _⟩
  · rw [h] at hk; cases hk
  · rw [h] at hk; cases hk; exact ⟨cur, hb⟩
theorem Pk.apart (h : Pk base w p r m g L fs wr es) : p ≠ r ∧ p ≠ m ∧ r ≠ m ∧ some p ≠ g ∧ some m ≠ g ∧ some r ≠ g := by
  obtain ⟨zs, h1, -⟩ := h.wz
  obtain ⟨⟨c, hc⟩, h2⟩ := h1.tags
  obtain ⟨e1, e2, hm⟩ := h.mp.tag
  have hp := h.pc
  refine ⟨fun e => ?_, fun e => ?_, fun e => ?_, fun e => ?_, fun e => ?_, fun e => ?_⟩
  · rw [e, hc] at hp; simp at hp
  · rw [e, hm] at hp; simp at hp
  · rw [e, hm] at hc; simp at hc
  · obtain ⟨c2, hc2⟩ := h2 _ e.symm; rw [hp] at hc2; simp at hc2
  · obtain ⟨c2, hc2⟩ := h2 _ e.symm; rw [hm] at hc2; simp at hc2
  · obtain ⟨c2, hc2⟩ := h2 _ e.symm; rw [hc] at hc2; simp at hc2
theorem Pk.drewN (h : Pk base w p r m g L fs wr es) (n : Nat) : Pk base (w.drewN n) p r m g L fs wr es := by
  obtain ⟨zs, h1, h2⟩ := h.wz
  exact ⟨h.pc, ⟨zs, h1.same rfl fun _ _ => rfl, h2⟩, h.mp.same rfl, h.bs⟩
/-- The writer has more. -/
theorem Pk.more {es' : List Em} {zs : List Int} {g' : Option Nat} (h : Pk base w p r m g L fs wr es) (q1 : WrZ w' r g' zs (cntE es')) (q2 : Bitz zs (numE es') (cntE es')) (q3 : g' = g ∨ ∃ k, g' = some k ∧ w.heap.size ≤ k) (q4 : Fr w w' r g) : Pk base w' p r m g' L fs wr es' ∧ Below base w w' := by
  obtain ⟨a1, a2, a3, a4, a5, a6⟩ := h.apart
  obtain ⟨b1, b2, b3, b4⟩ := h.bs
  have hl := lt_of_block h.pc
  refine ⟨⟨(q4.block p hl a1 a4).trans h.pc, ⟨zs, q1, q2⟩, h.mp.same (q4.block m h.mp.lt a3.symm a5), b1, b2, b3, fun k hk => ?_⟩, ⟨q4.os, q4.tape, q4.output, q4.size, fun k hk => q4.block k (by omega) (by omega) (fun e => by have := b4 k e.symm; omega)⟩⟩
  rcases q3 with e | ⟨j, e, hj⟩
  · exact b4 k (e.symm.trans hk)
  · rw [e] at hk; cases hk; omega
theorem Pk.setW (h : Pk base w p r m g L fs wr es) (x : Nat) : Pk base (w.setCell ⟨p, 3, none⟩ (.int .i64 (x : Int))) p r m g L fs x es ∧ Below base w (w.setCell ⟨p, 3, none⟩ (.int .i64 (x : Int))) := by
  obtain ⟨a1, a2, a3, a4, a5, a6⟩ := h.apart
  obtain ⟨b1, b2, b3, b4⟩ := h.bs
  obtain ⟨zs, h1, h2⟩ := h.wz
  have ho : ∀ k, k ≠ p → (w.setCell ⟨p, 3, none⟩ (.int .i64 (x : Int))).heap[k]? = w.heap[k]? := fun k hk => Below.heap_setCell _ _ _ _ hk
  refine ⟨⟨?_, ⟨zs, h1.same (ho r a1.symm) (fun k hk => ho k (fun e => a4 (by rw [hk, e]))), h2⟩, h.mp.same (ho m a2.symm), h.bs⟩, ⟨rfl, rfl, rfl, by simp [World.setCell], fun k hk => ho k (by omega)⟩⟩
  rw [heap_setCell_same w p 3 _ _ _ h.pc]; rfl
theorem Pk.setM {fs' : List Tx} (h : Pk base w p r m g L fs wr es) (h1 : MapT w' m L fs') (h2 : w.grownBy w' (some m)) : Pk base w' p r m g L fs' wr es ∧ Below base w w' := by
  obtain ⟨a1, a2, a3, a4, a5, a6⟩ := h.apart
  obtain ⟨b1, b2, b3, b4⟩ := h.bs
  obtain ⟨zs, q1, q2⟩ := h.wz
  have ho : ∀ k, k < w.heap.size → k ≠ m → w'.heap[k]? = w.heap[k]? := fun k hk hn => h2.block k hk (fun e => hn (Option.some.inj e))
  have hl := lt_of_block h.pc
  exact ⟨⟨(ho p hl a2).trans h.pc, ⟨zs, q1.same (ho r q1.lt a3) (fun k hk => ho k (q1.glt hk) (fun e => a5 (by rw [hk, e]))), q2⟩, h1, h.bs⟩, ⟨h2.os, h2.tape, h2.output, h2.size, fun k hk => ho k (by omega) (by omega)⟩⟩
end
theorem max_pred (wr : Nat) : ((wr - 1 : Nat) : Int) = if 0 < wr then (wr : Int) - 1 else 0 := by split <;> omega
/-- What put leaves. -/
def PpP (base : Nat) (w : World) (p r m L : Nat) (fs : List Tx) (wr : Nat) (es : List Em) (e : Ending) (w' : World) : Prop :=
  e = .returned (.tuple #[]) ∧ ∃ g', Pk base w' p r m g' L fs wr es ∧ Below base w w'
set_option maxHeartbeats 1600000 in
set_option maxRecDepth 100000 in
theorem pput_any {base : Nat} {w : World} {p r m : Nat} {g : Option Nat} {L : Nat} {fs : List Tx} {wr : Nat} {es : List Em} {c : Nat} (hL : 2 ≤ L ∧ L ≤ 8) (h : Pk base w p r m g L fs wr es) (hc : c < 2 ^ widW L wr) (hn : cntE es ≤ 1000000) (hw : wr ≤ 900000) :
    Calls Try.prog 34 #[.pointer (some ⟨p, 0, none⟩), .int .i64 c] w fun e w' => PpP base w p r m L fs wr (es ++ [(c, widW L wr)]) e w' := by
  obtain ⟨k0, k1, k2, k3, kf⟩ := four_cells h.pc
  have hWb := widN_le L (fcN L + (wr - 1)) hL.2
  have HF2 := furtherCode_any hL w.drew
  have hb := fc_bd hL
  have HW : Calls Try.prog 41 #[.int .i64 L, .int .i64 ((fcN L + (wr - 1) : Nat) : Int)] w.drew.drew fun e w' => e = .returned (.int .i64 (widW L wr : Int)) ∧ w' = w.drew.drew := width_any hL (by unfold fcN; omega) _
  have hWe : widW L wr = widN L (fcN L + (wr - 1)) := rfl
  rw [← hWe] at hWb
  clear hWe
  obtain ⟨W, hW⟩ : ∃ W, widW L wr = W := ⟨_, rfl⟩
  rw [hW] at hWb HW hc ⊢
  clear hW
  have HP : Hid (∀ n, Calls Try.prog 50 #[.pointer (some ⟨r, 0, none⟩), .int .i64 c, .int .i64 W] (w.drewN n) fun e w' => PpP base w p r m L fs wr (es ++ [(c, W)]) e w') := fun n => by
    obtain ⟨zs, h1, h2⟩ := h.wz
    have e32 : min ((W : Nat) : Int) 32 = (W : Int) := by omega
    refine (put_yes r g zs (numE es) (cntE es) W (c : Int) (W : Int) (w.drewN n) (h1.same rfl fun _ _ => rfl) h2 hn (by omega) e32).mono ?_
    rintro e w' ⟨zs', b1, b2, g', b3, b4, b5⟩
    have hc4 : c < 4096 := Nat.lt_of_lt_of_le hc (Nat.pow_le_pow_right (by omega) hWb.2)
    have e1 : IntKind.u64.wrap (c : Int) % 2 ^ W = (c : Int) := by
      have e0 : (c : Int) % 18446744073709551616 = (c : Int) := Int.emod_eq_of_lt (by omega) (by omega)
      rw [IntKind.wrap_u64, e0]
      refine Int.emod_eq_of_lt (by omega) ?_
      have : ((2 ^ W : Nat) : Int) = 2 ^ W := by simp
      rw [← this]; omega
    have e2 : numE (es ++ [(c, W)]) = numE es + (c : Int) * 2 ^ cntE es := by
      rw [numE_app]; simp only [numE, Int.mul_zero, Int.add_zero]; rw [Int.mul_comm]
    have e3 : cntE (es ++ [(c, W)]) = cntE es + W := by rw [cntE_app]; rfl
    rw [e1, ← e2, ← e3] at b1
    rw [← e3] at b3
    obtain ⟨p1, p2⟩ := h.more (es' := es ++ [(c, W)]) b3 b1 b4 ⟨b5.os, b5.tape, b5.output, b5.size, b5.block⟩
    exact ⟨b2, g', p1, p2⟩
  have hF : fcN L ≤ 258 := by unfold fcN; omega
  obtain ⟨N, hN⟩ : ∃ N, fcN L + (wr - 1) = N := ⟨_, rfl⟩
  rw [hN] at HW
  have HN : Hid (fcN L + (wr - 1) = N) := hN
  clear hN hc h hn kf k2
  generalize fcN L = F at *
  obtain ⟨x, hx⟩ : ∃ x : Int, (wr : Int) - 1 = x := ⟨_, rfl⟩
  have hwx : IntKind.i64.wrap ((wr : Int) - 1) = x := by rw [IntKind.wrap_i64]; omega
  have hmx : (if x < 0 then 0 else x) = ((wr - 1 : Nat) : Int) := by split <;> omega
  obtain ⟨y, hy⟩ : ∃ y : Int, ((wr - 1 : Nat) : Int) = y := ⟨_, rfl⟩
  have hadd : IntKind.i64.wrap ((F : Int) + y) = (N : Int) := by rw [IntKind.wrap_i64]; have := HN.out; omega
  rw [hy] at hmx
  have d0 : w.drew.cell? ⟨p, 0, none⟩ = _ := k0
  have d3 : w.drew.cell? ⟨p, 3, none⟩ = _ := k3
  have c0 : w.drew.drew.cell? ⟨p, 0, none⟩ = _ := k0
  have c1 : w.drew.drew.cell? ⟨p, 1, none⟩ = _ := k1
  have CP := HP.out 2
  clear hx hy HN HP
  go_enter Try.func34, Try.ntmps34
  go_upto_region 0 with fail
  refine wp_region_still_tail 12 (by kernel_rfl) (by kernel_rfl) ?_
  simp only [List.take_succ_cons, List.take_zero, List.drop_succ_cons, List.drop_zero]
  rw [show ({ w with drawn := w.drawn + 1 } : World) = w.drew from rfl]
  iterate 4 still_step
  still_call HF2
  iterate 7 still_step
  refine wpStill_nil ?_
  go_upto_region 1 with fail
  refine wp_region_still_tail 11 (by kernel_rfl) (by kernel_rfl) ?_
  simp only [List.take_succ_cons, List.take_zero, List.drop_succ_cons, List.drop_zero]
  rw [show ({ w.drew with drawn := w.drew.drawn + 1 } : World) = w.drew.drew from rfl]
  iterate 10 still_step
  still_call HW
  refine wpStill_nil ?_
  go_wp2_with fail
  refine CP.mono ?_
  rintro e w' ⟨rfl, g', hp, hbl⟩
  have HE : Hid (PpP base w p r m L fs wr (es ++ [(c, W)]) (.returned (.tuple #[])) w') := ⟨rfl, g', hp, hbl⟩
  clear hp hbl CP
  go_wp2
  go_end0
  exact HE.out
end Go.Proofs.Ytcbmlioeeoghkaa
