/- The reference's chunk: One. -/
import Derived.Test.YtoofpkcgiodfcaaRp3
namespace Go.Proofs.Ytoofpkcgiodfcaa
open Go.RowKit
theorem own_keep {w w' : World} {B : Nat} {v : Value} {n : Nat} {xs : List Value} (h : w.ownsRow B 5 1 v n xs) (hb : Below w.heap.size w w') : w'.ownsRow B 5 1 v n xs := by
  refine ⟨h.1, ?_⟩
  rcases h.2 with hv | ⟨g, cap, cur, hv, h1, hh, h2⟩
  · exact .inl hv
  · exact .inr ⟨g, cap, cur, hv, h1, (hb.block g (lt_of_block hh)).trans hh, h2⟩
set_option maxHeartbeats 3200000 in
set_option maxRecDepth 20000 in
theorem rone_any (kd : ByteArray) (fa : Option Addr) (Z fc : Nat) (z : List Int) (w : World) (hZ : z.length = Z) (hp : PtOk w ⟨fa, fc, z⟩) (hk4 : kd.size = 4) (hZ5 : Z ≤ 5000) :
    Calls Try.prog 28 #[.agg #[.string kd, .slice fa Z fc]] w fun e w' => NewBytes w (chB (kb kd) z) e w' := by
  obtain ⟨w0, hw0⟩ : ∃ w0, w.alloc (.cells #[.string kd, .slice fa Z fc] 40) = w0 := ⟨_, rfl⟩
  have b0 : Below w.heap.size w w0 := by rw [← hw0]; exact (Below.refl _ _).alloc (Nat.le_refl _) _
  have hV0 : w0.heap[w.heap.size]? = some (.cells #[.string kd, .slice fa Z fc] 40 (0, 0)) := by rw [← hw0]; exact heap_alloc_new _ _
  obtain ⟨c0, c1⟩ := two_cellsT hV0
  have hcv := Lib.run_convert_string_bytes (P := Try.prog) w0 9 26 5 kd Try.underlying9 Try.underlying26 Try.underlying5
  obtain ⟨cb0, cb1⟩ := two_cellsT (((below_bytesWorld w0 kd).block _ (lt_of_block hV0)).trans hV0)
  obtain ⟨O4, hO4⟩ : ∃ O4, (octs (Z : Int) 4).reverse = O4 := ⟨_, rfl⟩
  obtain ⟨V8, hV8⟩ : ∃ V8, ((crcM (BitVec.ofNat 32 0) (kb kd ++ z)).toNat : Int) = V8 := ⟨_, rfl⟩
  obtain ⟨O8, hO8⟩ : ∃ O8, (octs V8 4).reverse = O8 := ⟨_, rfl⟩
  have HL4 : Hid (O4.length = 4) := by show _ = _; rw [← hO4, List.length_reverse, octs_len]
  have HL8 : Hid (O8.length = 4) := by show _ = _; rw [← hO8, List.length_reverse, octs_len]
  have hkz : (kb kd ++ z).length = kd.size + Z := by rw [List.length_append, kb_len, hZ]
  have HPB : Hid (O4 ++ (kb kd ++ z) ++ O8 = chB (kb kd) z ∧ (kb kd ++ z).length = kd.size + Z ∧ kd.size + Z ≤ 6000 ∧ (O4 ++ (kb kd ++ z)).length = 4 + (kd.size + Z)) := by
    refine ⟨?_, hkz, by omega, by rw [List.length_append, HL4.out, hkz]⟩
    unfold chB
    rw [hV8, hO8, hZ, hO4]
    simp
  have HP : Hid (PtOk w ⟨fa, fc, z⟩ ∧ z.length = Z ∧ Below w.heap.size w w0 ∧ w0.heap[w.heap.size]? = some (.cells #[.string kd, .slice fa Z fc] 40 (0, 0))) := ⟨hp, hZ, b0, hV0⟩
  have HP4 : Hid (∀ w8, Calls Try.prog 41 #[.int .i64 4, .int .i64 Z] w8 fun e w' => OwnB w8 O4 e w') := by
    intro w8
    have := refPutBigO_any 4 Z w8
    rw [show put8 4 = 4 from rfl, hO4] at this
    exact this
  have HP8 : Hid (∀ w8, Calls Try.prog 41 #[.int .i64 4, .int .i64 V8] w8 fun e w' => OwnB w8 O8 e w') := by
    intro w8
    have := refPutBigO_any 4 V8 w8
    rw [show put8 4 = 4 from rfl, hO8] at this
    exact this
  have HOf : Hid (∀ w8 a c, Row w8 a (kb kd ++ z) → Calls Try.prog 23 #[.slice a (kd.size + Z) c] w8 fun e w' => e = .returned (.int .u32 V8) ∧ w' = w8) := by
    intro w8 a c hr
    rw [← hV8]
    exact rof_any a (kd.size + Z) c (kb kd ++ z) w8 hkz (by omega) ((kb_bytes kd).app hp.1) hr
  have hV8b : 0 ≤ V8 ∧ V8 < 4294967296 := by rw [← hV8]; have := (crcM (BitVec.ofNat 32 0) (kb kd ++ z)).isLt; omega
  have hn0 : fa = none → fc = 0 := hp.2.2.2.1
  clear hp hZ b0 hV0 hO4 hV8 hO8 hk4 hkz
  go_enter Try.func28, Try.ntmps28
  go_wp2_with (first
    | (go_at_call 41; first
      | (refine (HP4.out w1).mono ?_; clear HP4; rintro e w2 ⟨v2, rfl, ho2, hb2⟩)
      | (refine (HP8.out w3).mono ?_; clear HP8; rintro e w4 ⟨v4, rfl, ho4, hb4⟩; obtain ⟨g4, hs4, -⟩ := Sl.of_owns ho4; obtain ⟨a4, c4, hv4, -, -, hn4⟩ := hs4.shape; rw [vals_len, HL8.out] at hv4; subst hv4; have hr4 := hs4.row rfl; clear hs4))
    | (go_at_call 23; refine (HOf.out w3 (some ab) cb hr3).mono ?_; clear HOf; rintro e wo ⟨rfl, hwo⟩; rw [hwo]; clear hwo)
    | (at_builtin; first
      | (refine text_more rfl _ _ rfl kd rfl fa Z fc z rfl hn0 HP.out.2.1 (HP.out.1.2.2.2.2.old HP.out.2.2.1) (by have := HPB.out; omega) ?_; clear cb0 cb1 hcv; intro ab cb w1 hlb hmb hrb hb1; obtain ⟨d0, d1⟩ := two_cellsT ((hb1.block _ (lt_of_block HP.out.2.2.2)).trans HP.out.2.2.2))
      | (refine own_more rfl _ _ rfl w1.heap.size v2 O4 rfl ho2 (some ab) (kd.size + Z) cb (kb kd ++ z) rfl (by intro h; cases h) HPB.out.2.1 (hrb.old hb2) (by rw [HL4.out]; have := HPB.out; omega) hb2.size ?_; intro v3 w3 ho3 hg3; have hb3 : Below w1.heap.size w1 w3 := hb2.grown hg3 hb2.size (own_blk ho2); have hr3 : Row w3 (some ab) (kb kd ++ z) := hrb.old hb3; clear ho2 hg3)
      | (refine own_more rfl _ _ rfl w1.heap.size v3 (O4 ++ (kb kd ++ z)) rfl (own_keep ho3 hb4) a4 4 c4 O8 rfl hn4 HL8.out hr4 (by rw [HPB.out.2.2.2]; have := HPB.out; omega) (Nat.le_trans hb3.size hb4.size) ?_; intro v5 w5 ho5 hg5; have hb5 : Below w1.heap.size w1 w5 := (hb3.trans ⟨hb4.os, hb4.tape, hb4.output, hb4.size, fun k hk => hb4.block k (by have := hb3.size; omega)⟩).grown hg5 (Nat.le_trans hb3.size hb4.size) (own_blk ho3))))
  go_ret
  have hbw : Below w.heap.size w w5 := chainB (chainB HP.out.2.2.1 hb1 HP.out.2.2.1.size) hb5 (Nat.le_trans HP.out.2.2.1.size hb1.size)
  rw [HPB.out.1] at ho5
  exact newBytes_of_owns ho5 hbw
end Go.Proofs.Ytoofpkcgiodfcaa
