/- The law's fixed. -/
import Derived.Test.YtaibojmaghmfnaaMgY
namespace Go.Proofs.Ytaibojmaghmfnaa
open Go.RowKit
def mfx : Ms := ⟨4, 1, 0, 0, 0, 0, 0, 2, 0, 0, none, 0, 0, none, 0, 0⟩
def mzr : Ms := ⟨0, 0, 0, 0, 0, 0, 0, 0, 0, 0, none, 0, 0, none, 0, 0⟩
def tfx : List Int := [4, 0, 0, 0, 1, 0, 0, 0, 2, 0]
theorem mfx_ok (w : World) : MsM w mfx [] [] := ⟨.inl rfl, rfl, ⟨rfl, Bytes.nil, Nat.le_refl _, (by simp [mfx]), (fun _ => rfl), .inl rfl⟩, (by simp [mfx]), (by simp [mfx]), Nat.zero_le _⟩
theorem mzr_ok (w : World) : MsM w mzr [] [] := ⟨.inl rfl, rfl, ⟨rfl, Bytes.nil, Nat.le_refl _, (by simp [mzr]), (fun _ => rfl), .inl rfl⟩, (by simp [mzr]), (by simp [mzr]), Nat.zero_le _⟩
theorem mfx_may : mayW mfx [] = true := by decide
theorem mzr_may : mayW mzr [] = false := by decide
theorem tfx_eq : txM mfx [] [] = tfx := by decide
theorem tfx_ok : okT tfx = true ∧ mnT tfx = mfx.mn [] [] := by
  have h := back_all mfx [] [] (by decide) (by decide) rfl rfl (by simp [mfx]) (by simp [mfx])
  rwa [tfx_eq] at h
theorem tfx_byte : Bytes tfx := bytes_of_all (by decide)
/-- What Write made of the law's message is read. -/
theorem fx_read (a : Option Addr) (c : Nat) (g : Option Nat) (w : World) (h : Sl w 5 (.slice a 14 c) g (vals (sealM tfx))) (hb : Bytes (sealM tfx)) : Calls Try.prog 13 #[.slice a 14 c] w fun e w' => Below w.heap.size w w' ∧ ∃ ra rc da dc, e = .returned (.tuple #[(⟨4, 1, 0, 0, 0, 0, 0, 2, 0, 0, ra, 0, rc, da, 0, dc⟩ : Ms).V, .int .i64 0]) := by
  obtain ⟨a', c', e, q1, q2, q3⟩ := h.shape
  simp at e
  obtain ⟨rfl, e2, rfl⟩ := e
  rw [vals_len] at q1 e2
  refine (read_any a 14 c (sealM tfx) w e2.symm q3 (by omega) (by omega) q2 hb (h.row rfl)).mono ?_
  rintro e w' ⟨p1, _, p3⟩
  obtain ⟨ra, rc, da, dc, p4, _⟩ := p3 (seal_ok tfx (by decide) tfx_ok.1)
  rw [seal_tx, tfx_ok.2] at p4
  exact ⟨p1, ra, rc, da, dc, p4⟩
set_option maxHeartbeats 6400000 in
theorem fixed_any (w : World) : Calls Try.prog 8 #[] w fun e w' => e = .returned (.bool true) ∧ Below w.heap.size w w' := by
  have W1 := write_all mfx [] [] w (by decide) (mfx_ok w)
  have W2 : Hid (∀ u, Calls Try.prog 9 #[mzr.V] u fun e w' => WaP u mzr [] [] e w') := fun u => write_all mzr [] [] u (by decide) (mzr_ok u)
  unfold mfx Ms.V Ms.c12 at W1
  unfold mzr Ms.V Ms.c12 at W2
  have HW1 : Hid _ := W1
  clear W1
  go_enter Try.func8, Try.ntmps8
  go_wp2_with fail
  refine Calls.mono HW1.out ?_
  rintro e w1 ⟨-, h1⟩
  obtain ⟨a, c, g, rfl, sl, hl, hb, fr, b1⟩ := h1 mfx_may
  rw [show txM (⟨4, 1, 0, 0, 0, 0, 0, 2, 0, 0, none, 0, 0, none, 0, 0⟩ : Ms) [] [] = tfx from tfx_eq] at sl hl hb
  have HS1 : Hid (Sl w1 5 (.slice a 14 c) g (vals (sealM tfx))) := sl
  have HL : Hid ((sealM tfx).length = 14 ∧ Bytes (sealM tfx)) := ⟨hl, hb⟩
  have HB1 : Hid (Below w.heap.size w w1) := b1
  clear HW1 h1 sl hl hb fr b1
  go_wp2_with fail
  refine Calls.mono (fx_read a c g w1 HS1.out HL.out.2) ?_
  rintro e w2 ⟨b2, ra, rc, da, dc, rfl⟩
  have HB2 : Hid (Below w.heap.size w w2) := HB1.out.trans (b2.mono HB1.out.size)
  have HS2 : Hid (Sl w2 5 (.slice a 14 c) g (vals (sealM tfx))) := HS1.out.same (fun k hk => b2.block k (HS1.out.lt hk))
  unfold Ms.V Ms.c12
  clear HB1 HS1 b2
  go_wp2_with fail
  refine Calls.mono (W2.out _) ?_
  rintro e w3 ⟨h3, -⟩
  obtain ⟨rfl, b3⟩ := h3 mzr_may
  have hm2 := heap_alloc_newM w2 (.cells #[.int .i64 4, .int .u32 1, .int .i64 0, .int .u32 0, .int .i64 0, .int .i64 0, .int .i64 0, .int .i64 2, .int .i64 0, .int .i64 0, .slice ra 0 rc, .slice da 0 dc] 26)
  have hA2 : Below w2.heap.size w2 (w2.alloc (.cells #[.int .i64 4, .int .u32 1, .int .i64 0, .int .u32 0, .int .i64 0, .int .i64 0, .int .i64 0, .int .i64 2, .int .i64 0, .int .i64 0, .slice ra 0 rc, .slice da 0 dc] 26)) := (Below.refl _ _).alloc (Nat.le_refl _) _
  have hm3 := (b3.block _ (lt_of_block hm2)).trans hm2
  obtain ⟨-, -, -, -, -, -, -, z7, -, -, -, -⟩ := twelve_cells hm3
  have HB3 : Hid (Below w.heap.size w w3) := HB2.out.trans ((hA2.trans (b3.mono hA2.size)).mono HB2.out.size)
  have HS3 : Hid (Sl w3 5 (.slice a 14 c) g (vals (sealM tfx))) := (HS2.out.same (fun k hk => hA2.block k (HS2.out.lt hk))).same (fun k hk => b3.block k (Nat.lt_of_lt_of_le (HS2.out.lt hk) hA2.size))
  clear h3 b3 hm2 hA2 hm3 HB2 HS2 W2
  have hA4 : Below w3.heap.size w3 (w3.alloc (.cells #[.int .u8 4, .int .u8 0, .int .u8 0, .int .u8 0, .int .u8 1, .int .u8 0, .int .u8 0, .int .u8 0, .int .u8 2, .int .u8 0] 5)) := (Below.refl _ _).alloc (Nat.le_refl _) _
  have hrow : Row (w3.alloc (.cells #[.int .u8 4, .int .u8 0, .int .u8 0, .int .u8 0, .int .u8 1, .int .u8 0, .int .u8 0, .int .u8 0, .int .u8 2, .int .u8 0] 5)) (some ⟨w3.heap.size, 0, none⟩) tfx := row_arr rfl tfx #[.int .u8 4, .int .u8 0, .int .u8 0, .int .u8 0, .int .u8 1, .int .u8 0, .int .u8 0, .int .u8 0, .int .u8 2, .int .u8 0] (0, 0) rfl
  have CS : Hid (Calls Try.prog 15 #[.slice (some ⟨w3.heap.size, 0, none⟩) 10 10] (w3.alloc (.cells #[.int .u8 4, .int .u8 0, .int .u8 0, .int .u8 0, .int .u8 1, .int .u8 0, .int .u8 0, .int .u8 0, .int .u8 2, .int .u8 0] 5)) fun e w' => BPs (w3.alloc (.cells #[.int .u8 4, .int .u8 0, .int .u8 0, .int .u8 0, .int .u8 1, .int .u8 0, .int .u8 0, .int .u8 0, .int .u8 2, .int .u8 0] 5)) 14 (sealM tfx) e w') := sealed_any (some ⟨w3.heap.size, 0, none⟩) 10 10 tfx _ ⟨rfl, tfx_byte, Nat.le_refl _, by omega, (by intro h; cases h), hrow⟩ (by omega)
  have HS4 : Hid (Sl (w3.alloc (.cells #[.int .u8 4, .int .u8 0, .int .u8 0, .int .u8 0, .int .u8 1, .int .u8 0, .int .u8 0, .int .u8 0, .int .u8 2, .int .u8 0] 5)) 5 (.slice a 14 c) g (vals (sealM tfx))) := HS3.out.same (fun k hk => hA4.block k (HS3.out.lt hk))
  have HB4 : Hid (Below w.heap.size w (w3.alloc (.cells #[.int .u8 4, .int .u8 0, .int .u8 0, .int .u8 0, .int .u8 1, .int .u8 0, .int .u8 0, .int .u8 0, .int .u8 2, .int .u8 0] 5))) := HB3.out.trans (hA4.mono HB3.out.size)
  have hsz := cell_lt z7
  have z7' : (w3.alloc (.cells #[.int .u8 4, .int .u8 0, .int .u8 0, .int .u8 0, .int .u8 1, .int .u8 0, .int .u8 0, .int .u8 0, .int .u8 2, .int .u8 0] 5)).cell? ⟨w2.heap.size, 7, none⟩ = some (.int .i64 2) := (hA4.cell (p := ⟨w2.heap.size, 7, none⟩) hsz).trans z7
  clear hA4 hrow HS3 HB3
  go_wp2_with (first
    | (go_at_call 15; refine Calls.mono CS.out ?_; rintro e w5 ⟨a5, c5, g5, rfl, sl5, l5, by5, fr5, b5⟩; have HS5 : Hid (Sl w5 5 (.slice a 14 c) g (vals (sealM tfx))) := HS4.out.same (fun k hk => b5.block k (HS4.out.lt hk)); have HR5 : Hid (Row w5 a5 (sealM tfx)) := sl5.row rfl; have HB5 : Hid (Below w.heap.size w w5) := HB4.out.trans (b5.mono HB4.out.size); have z7b := (b5.cell (p := ⟨w2.heap.size, 7, none⟩) (cell_lt z7')).trans z7'; clear sl5 l5 by5 fr5 b5)
    | (go_at_call 11; refine (same_any a a5 14 c c5 (sealM tfx) w5 HL.out.1 (HS5.out.row rfl) HR5.out).mono ?_; rintro e x ⟨rfl, hx⟩; have hx2 := hx.symm; clear hx; subst hx2))
  go_ret
  exact ⟨by simp, HB5.out⟩
end Go.Proofs.Ytaibojmaghmfnaa
