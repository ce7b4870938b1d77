/- The law's fixed. -/
import Derived.Test.YtinmkhdangknbaaTkX
import Derived.Test.YtinmkhdangknbaaTkJ
import Derived.Test.YtinmkhdangknbaaTkW
import Derived.Test.YtinmkhdangknbaaSmB
import Derived.Lib.SlBytesConst
namespace Go.Proofs.Ytinmkhdangknbaa
open Go.RowKit
def tfx : List Int := [1, 0, 0, 0, 2, 0, 0, 0, 0]
theorem tfx_eq : txT 1 2 [] = tfx := by decide
theorem tfx_byte : Bytes tfx := bytes_of_all (by decide)
/-- What stands between the law's first steps. -/
structure FxI (w : World) (a : Option Addr) (c : Nat) (g : Option Nat) (B : Nat) (ra : Option Addr) (rc : Nat) (wr : World) : Prop where
  sl : Sl wr 5 (.slice a 13 c) g (vals (sealM tfx))
  tk : wr.heap[B]? = some (.cells #[.int .i64 1, .int .u32 2, .slice ra 0 rc] 25 (0, 0))
  be : Below w.heap.size w wr
theorem FxI.old {w wr w' : World} {a : Option Addr} {c : Nat} {g : Option Nat} {B : Nat} {ra : Option Addr} {rc : Nat} (h : FxI w a c g B ra rc wr) (b : Below wr.heap.size wr w') : FxI w a c g B ra rc w' :=
  ⟨h.sl.same fun k hk => b.block k (h.sl.lt hk), (b.block _ (lt_of_block h.tk)).trans h.tk, h.be.trans (b.mono h.be.size)⟩
theorem FxI.grown {w wr w' : World} {a : Option Addr} {c : Nat} {g : Option Nat} {B b : Nat} {ra : Option Addr} {rc : Nat} (h : FxI w a c g B ra rc wr) (gr : wr.grownBy w' (some b)) (hb : B < b) (hg : ∀ k, g = some k → k < B) (hw : w.heap.size ≤ b) : FxI w a c g B ra rc w' :=
  ⟨h.sl.same fun k hk => gr.block k (h.sl.lt hk) (fun e => by have := hg k hk; simp at e; omega), (gr.block _ (lt_of_block h.tk) (by simp; omega)).trans h.tk, h.be.grown gr h.be.size (fun k hk => by cases hk; exact hw)⟩
theorem nil_bok (w : World) : BOk w none 0 0 [] := ⟨rfl, Bytes.nil, Nat.le_refl _, by omega, fun _ => rfl, .inl rfl⟩
/-- What Write made of the law's token is read. -/
theorem fx_read (a : Option Addr) (c : Nat) (g : Option Nat) (w : World) (h : Sl w 5 (.slice a 13 c) g (vals (sealM tfx))) (hb : Bytes (sealM tfx)) : Calls Try.prog 14 #[.slice a 13 c] w fun e w' => Below w.heap.size w w' ∧ ∃ ra rc, e = .returned (.tuple #[.agg #[.int .i64 1, .int .u32 2, .slice ra 0 rc], .int .i64 0]) := by
  obtain ⟨a', c', e, q1, q2, q3⟩ := h.shape
  simp at e
  obtain ⟨rfl, e2, rfl⟩ := e
  rw [vals_len] at q1 e2
  refine (read_any a 13 c (sealM tfx) w e2.symm q3 (by omega) (by omega) q2 hb (h.row rfl)).mono ?_
  rintro e w' ⟨p1, _, p3⟩
  have hx := back_tx 1 2 [] (by decide) (by decide)
  rw [tfx_eq] at hx
  obtain ⟨f1, f2, f3, f4⟩ := hx
  obtain ⟨ra, rc, p4, _⟩ := p3 (seal_ok tfx (by decide) f4)
  rw [seal_tb, f1, f2, f3] at p4
  exact ⟨p1, ra, rc, p4⟩
set_option maxHeartbeats 6400000 in
theorem tfixed_any (w : World) : Calls Try.prog 9 #[] w fun e w' => e = .returned (.bool true) ∧ Below w.heap.size w w' := by
  have W1 := write_yes 1 2 none 0 0 [] w (by decide) (nil_bok w) (by decide)
  rw [tfx_eq] at W1
  have HW1 : Hid _ := W1
  clear W1
  have kc := fun (w : World) (C : Array Value) (n c : Nat) => Lib.run_convert_bytes_const (P := Try.prog) w 23 5 C n c Try.underlying23 Try.underlying5
  go_enter Try.func9, Try.ntmps9
  go_wp2_with fail
  refine Calls.mono HW1.out ?_
  rintro e w1 ⟨a, c, g, rfl, sl, hl, hb, fr, b1⟩
  have HS1 : Hid (Sl w1 5 (.slice a 13 c) g (vals (sealM tfx))) := sl
  have HL : Hid ((sealM tfx).length = 13 ∧ Bytes (sealM tfx)) := ⟨hl, hb⟩
  have HB1 : Hid (Below w.heap.size w w1) := b1
  clear HW1 sl hl hb fr b1
  go_wp2_with fail
  refine Calls.mono (fx_read a c g w1 HS1.out HL.out.2) ?_
  rintro e w2 ⟨b2, ra, rc, rfl⟩
  have HG : Hid (∀ k, g = some k → k < w2.heap.size) := fun k hk => Nat.lt_of_lt_of_le (HS1.out.lt hk) b2.size
  have hA2 : Below w2.heap.size w2 (w2.alloc (.cells #[.int .i64 1, .int .u32 2, .slice ra 0 rc] 25)) := (Below.refl _ _).alloc (Nat.le_refl _) _
  have HF2 : Hid (FxI w a c g w2.heap.size ra rc (w2.alloc (.cells #[.int .i64 1, .int .u32 2, .slice ra 0 rc] 25))) := ⟨(HS1.out.same (fun k hk => b2.block k (HS1.out.lt hk))).same (fun k hk => hA2.block k (HG.out k hk)), heap_alloc_newT w2 _, (HB1.out.trans (b2.mono HB1.out.size)).trans (hA2.mono (HB1.out.trans (b2.mono HB1.out.size)).size)⟩
  clear HS1 HB1 b2 hA2
  go_upto_region 3 with fail
  obtain ⟨B, hB⟩ : ∃ B, w2.heap.size = B := ⟨_, rfl⟩
  obtain ⟨w3, hw3⟩ : ∃ w3, w2.alloc (.cells #[.int .i64 1, .int .u32 2, .slice ra 0 rc] 25) = w3 := ⟨_, rfl⟩
  have hB3 : w3.heap.size = B + 1 := by rw [← hw3, ← hB]; simp
  rw [hw3, hB] at HF2
  rw [hB] at HG
  try rw [hw3]
  try rw [hB]
  clear hw3
  go_wp2_with fail
  refine Calls.mono (store_new w3) ?_
  rintro e w4 ⟨b, rfl, p4, b4, f4⟩
  have HF4 : Hid (FxI w a c g B ra rc w4) := HF2.out.old b4
  have HP4 : Hid (PS w4 b hPt0 hPt0 false ∧ B < b ∧ w.heap.size ≤ b) := ⟨p4, by omega, by have := HF2.out.be.size; omega⟩
  clear HF2 p4 b4 f4 hB3
  have hA4 : Below w4.heap.size w4 (w4.alloc (.cells #[.int .u8 120] 5 (1, 2))) := (Below.refl _ _).alloc (Nat.le_refl _) _
  have hrow : Row (w4.alloc (.cells #[.int .u8 120] 5 (1, 2))) (some ⟨w4.heap.size, 0, none⟩) [120] := row_arr rfl [120] #[.int .u8 120] (1, 2) rfl
  have HF5 : Hid (FxI w a c g B ra rc (w4.alloc (.cells #[.int .u8 120] 5 (1, 2)))) := HF4.out.old hA4
  have HP5 : Hid (PS (w4.alloc (.cells #[.int .u8 120] 5 (1, 2))) b hPt0 hPt0 false) := HP4.out.1.old hA4
  have HC5 : Hid _ := put_ok HP5.out (a := some ⟨w4.heap.size, 0, none⟩) (n := 1) (c := 1) (zs := [120]) ⟨rfl, bytes_of_all (by decide), Nat.le_refl _, by omega, (by intro h; cases h), hrow⟩
  clear hA4 hrow HF4
  go_wp2_with fail
  refine Calls.mono HC5.out ?_
  rintro e w6 ⟨Q, rfl, hq, p6, g6, f6⟩
  have HF6 : Hid (FxI w a c g B ra rc w6) := HF5.out.grown g6 HP4.out.2.1 HG.out HP4.out.2.2
  have HC6 : Hid _ := crash_yes p6 false
  clear HF5 HP5 HC5 hq p6 g6 f6
  go_wp2_with fail
  refine Calls.mono HC6.out ?_
  rintro e w7 ⟨rfl, p7, g7⟩
  have HF7 : Hid (FxI w a c g B ra rc w7) := HF6.out.grown g7 HP4.out.2.1 HG.out HP4.out.2.2
  have HP7 : Hid (PS w7 b hPt0 hPt0 false) := p7
  clear HF6 HC6 p7 g7
  have hA7 : Below w7.heap.size w7 (w7.alloc (.cells #[.int .u8 1, .int .u8 0, .int .u8 0, .int .u8 0, .int .u8 2, .int .u8 0, .int .u8 0, .int .u8 0, .int .u8 0] 5)) := (Below.refl _ _).alloc (Nat.le_refl _) _
  have hrow : Row (w7.alloc (.cells #[.int .u8 1, .int .u8 0, .int .u8 0, .int .u8 0, .int .u8 2, .int .u8 0, .int .u8 0, .int .u8 0, .int .u8 0] 5)) (some ⟨w7.heap.size, 0, none⟩) tfx := row_arr rfl tfx #[.int .u8 1, .int .u8 0, .int .u8 0, .int .u8 0, .int .u8 2, .int .u8 0, .int .u8 0, .int .u8 0, .int .u8 0] (0, 0) rfl
  have HF8 : Hid (FxI w a c g B ra rc (w7.alloc (.cells #[.int .u8 1, .int .u8 0, .int .u8 0, .int .u8 0, .int .u8 2, .int .u8 0, .int .u8 0, .int .u8 0, .int .u8 0] 5))) := HF7.out.old hA7
  have HP8 : Hid (PS (w7.alloc (.cells #[.int .u8 1, .int .u8 0, .int .u8 0, .int .u8 0, .int .u8 2, .int .u8 0, .int .u8 0, .int .u8 0, .int .u8 0] 5)) b hPt0 hPt0 false) := HP7.out.old hA7
  have CS : Hid (Calls Try.prog 13 #[.slice (some ⟨w7.heap.size, 0, none⟩) 9 9] (w7.alloc (.cells #[.int .u8 1, .int .u8 0, .int .u8 0, .int .u8 0, .int .u8 2, .int .u8 0, .int .u8 0, .int .u8 0, .int .u8 0] 5)) fun e w' => BPs (w7.alloc (.cells #[.int .u8 1, .int .u8 0, .int .u8 0, .int .u8 0, .int .u8 2, .int .u8 0, .int .u8 0, .int .u8 0, .int .u8 0] 5)) 13 (sealM tfx) e w') := sealed_any (some ⟨w7.heap.size, 0, none⟩) 9 9 tfx _ ⟨rfl, tfx_byte, Nat.le_refl _, by omega, (by intro h; cases h), hrow⟩ (by omega)
  obtain ⟨k0, k1, k2⟩ := three_cells HF8.out.tk
  clear hA7 hrow HF7 HP7 kc
  go_wp2_with (first
    | (go_at_call 13; refine Calls.mono CS.out ?_; rintro e w9 ⟨a9, c9, g9, rfl, sl9, l9, by9, fr9, b9⟩; have HF9 : Hid (FxI w a c g B ra rc w9) := HF8.out.old b9; have HP9 : Hid (PS w9 b hPt0 hPt0 false) := HP8.out.old b9; have HR9 : Hid (Row w9 a9 (sealM tfx)) := sl9.row rfl; obtain ⟨m0, m1, m2⟩ := three_cells HF9.out.tk; clear sl9 l9 by9 fr9 b9)
    | (go_at_call 12; refine (same_any a a9 13 c c9 (sealM tfx) w9 HL.out.1 (HF9.out.sl.row rfl) HR9.out).mono ?_; rintro e x ⟨rfl, hx⟩; have hx2 := hx.symm; clear hx; subst hx2)
    | (go_at_call 24; refine Calls.mono (get_any HP9.out) ?_; rintro e w10 ⟨q, rfl, hq, -, b10, -⟩; have HF10 : Hid (FxI w a c g B ra rc w10) := HF9.out.old b10; have HP10 : Hid (PS w10 b hPt0 hPt0 false) := HP9.out.old b10; have hz : q.z.length = 0 := (by rw [hq]; rfl); unfold ptV; rw [hz]; clear hq b10 hz)
    | (go_at_call 25; refine Calls.mono (busy_any HP10.out) ?_; rintro e x ⟨rfl, hx⟩; have hx2 := hx.symm; clear hx; subst hx2))
  go_ret
  exact ⟨by simp, HF10.out.be⟩
end Go.Proofs.Ytinmkhdangknbaa
