/- Chunks, packed. -/
import Derived.Test.YtoofpkcgiodfcaaCp1
namespace Go.Proofs.Ytoofpkcgiodfcaa
open Go.RowKit
def PkPost (w : World) (F : Nat → Ck) (len : Nat) (e : Ending) (w' : World) : Prop :=
  Below w.heap.size w w' ∧
  (okK F len → ∃ a' c', e = .returned (.tuple #[.slice a' (packB F len).length c', .int .i64 0]) ∧ (packB F len).length ≤ c' ∧ c' ≤ 9223372036854775807 ∧ (a' = none → c' = 0) ∧ Row w' a' (packB F len) ∧ (∀ x, a' = some x → w.heap.size ≤ x.block) ∧ (0 < len → ∃ g, Sl w' 5 (.slice a' (packB F len).length c') g (vals (packB F len)) ∧ ∀ k, g = some k → w.heap.size ≤ k)) ∧
  (¬ okK F len → e = .returned (.tuple #[.slice none 0 0, .int .i64 1]))
/-- What has been packed so far. -/
def OutI (w : World) (F : Nat → Ck) (k : Nat) (v : Value) (wr : World) : Prop :=
  (k = 0 ∧ ∃ b, v = .slice (some ⟨b, 0, none⟩) 8 8 ∧ w.heap.size ≤ b ∧ Row wr (some ⟨b, 0, none⟩) first8) ∨ (0 < k ∧ wr.ownsRow w.heap.size 5 1 v (packB F k).length (vals (packB F k)))
theorem OutI.done {w : World} {F : Nat → Ck} {len : Nat} {v : Value} {wr : World} (h : OutI w F len v wr) (hok : okK F len) (hb : Below w.heap.size w wr) : PkPost w F len (.returned (.tuple #[v, .int .i64 0])) wr := by
  refine ⟨hb, fun _ => ?_, fun hn => absurd hok hn⟩
  rcases h with ⟨rfl, b, rfl, h1, h2⟩ | ⟨h0, h1⟩
  · exact ⟨some ⟨b, 0, none⟩, 8, rfl, Nat.le_refl _, by omega, (by intro h; cases h), h2, (by intro x hx; cases hx; exact h1), (by intro h; omega)⟩
  · obtain ⟨g, hs, hg⟩ := Sl.of_owns h1
    obtain ⟨a', c', rfl, hl, hm, hn⟩ := hs.shape
    rw [vals_len] at hl
    refine ⟨a', c', by rw [vals_len], hl, by unfold maxLen at hm; omega, hn, hs.row rfl, ?_, fun _ => ⟨g, by rw [vals_len] at hs; exact hs, hg⟩⟩
    intro x hx
    subst hx
    rcases h1.2 with ⟨hv, _⟩ | ⟨g', cap, cur, hv, hb', _⟩
    · cases hv
    · simp only [Value.slice.injEq, Option.some.injEq] at hv
      rw [hv.1]; exact hb'
theorem row_bytesWorld (w : World) (t : ByteArray) : Row (Lib.bytesWorld w 5 t) (some ⟨w.heap.size, 0, none⟩) (kb t) := by
  refine .inr ⟨_, 0, rfl, fun i hi => ?_⟩
  rw [kb_len] at hi
  rw [Nat.zero_add, Lib.bytesWorld_cell w 5 t i hi, kb_at t i hi]
  have hi2 : i < t.data.toList.length := by rw [Array.length_toList]; exact hi
  have e : t.data.toList.getD i 0 = t[i] := by
    rw [List.getD_eq_getElem?_getD, List.getElem?_eq_getElem hi2]
    rfl
  rw [e]
theorem below_bytesWorld (w : World) (t : ByteArray) : Below w.heap.size w (Lib.bytesWorld w 5 t) :=
  ⟨rfl, rfl, rfl, by rw [Lib.bytesWorld_size]; omega, fun k hk => Lib.bytesWorld_at_old w 5 t k hk⟩
/-- A row of the call's own, the loop's variable beside it. -/
def Stg (w : World) (V : Nat) (cs : Array Value) (v : Value) (zs : List Int) (wr : World) : Prop := wr.ownsRow w.heap.size 5 1 v zs.length (vals zs) ∧ Below w.heap.size w wr ∧ wr.heap[V]? = some (.cells cs 40 (0, 0))
theorem Stg.grow {w : World} {V : Nat} {cs : Array Value} {v v' : Value} {zs ys : List Int} {wr w' : World} (h : Stg w V cs v zs wr) (ho : w'.ownsRow w.heap.size 5 1 v' ys.length (vals ys)) (hg : wr.grownBy w' v.ownBlock) : Stg w V cs v' ys w' := by
  refine ⟨ho, h.2.1.grown hg (by have := h.2.1.size; omega) (own_blk h.1), (hg.block V (lt_of_block h.2.2) fun e => ?_).trans h.2.2⟩
  rcases h.1.2 with ⟨hv, _⟩ | ⟨g, cap, cur, hv, _, hh, _⟩
  · rw [hv] at e; cases e
  · rw [hv] at e
    cases e
    have := hh.symm.trans h.2.2
    simp at this
theorem Stg.below {w : World} {V : Nat} {cs : Array Value} {v : Value} {zs : List Int} {wr w' : World} (h : Stg w V cs v zs wr) (hb : Below wr.heap.size wr w') : Stg w V cs v zs w' := by
  have hs := h.2.1.size
  refine ⟨⟨h.1.1, ?_⟩, h.2.1.trans ⟨hb.os, hb.tape, hb.output, hb.size, fun k hk => hb.block k (by omega)⟩, (hb.block V (lt_of_block h.2.2)).trans h.2.2⟩
  rcases h.1.2 with hv | ⟨g, cap, cur, hv, h1, hh, h2⟩
  · exact .inl hv
  · exact .inr ⟨g, cap, cur, hv, h1, (hb.block g (lt_of_block hh)).trans hh, h2⟩
theorem two_cellsT {w : World} {c : Nat} {v0 v1 : Value} {t : TypeId} (h : w.heap[c]? = some (.cells #[v0, v1] t (0, 0))) : w.cell? ⟨c, 0, none⟩ = some v0 ∧ w.cell? ⟨c, 1, none⟩ = some v1 := by simp [World.cell?, h]
theorem Stg.of {w : World} {V : Nat} {cs : Array Value} {v' : Value} {ys : List Int} {wr w' : World} (hb : Below w.heap.size w wr) (hV : wr.heap[V]? = some (.cells cs 40 (0, 0))) (ho : w'.ownsRow w.heap.size 5 1 v' ys.length (vals ys)) (hg : wr.grownBy w' none) : Stg w V cs v' ys w' :=
  ⟨ho, hb.grown hg (by have := hb.size; omega) (by intro k hk; cases hk), (hg.block V (lt_of_block hV) (by simp)).trans hV⟩
set_option maxHeartbeats 6400000 in
set_option maxRecDepth 20000 in
theorem pack_any (a : Option Addr) (len cap : Nat) (F : Nat → Ck) (w : World) (hl : len ≤ 101) (hs : sumL F len ≤ 5000) (h : CkArg w a len cap F) :
    Calls Try.prog 15 #[.slice a len cap] w fun e w' => PkPost w F len e w' := by
  have HA : Hid (CkArg w a len cap F) := h
  have HS : Hid (sumL F len ≤ 5000 ∧ len ≤ 101) := ⟨hs, hl⟩
  have hkc := fun (w : World) (C : Array Value) (n c : Nat) => Lib.run_convert_bytes_const (P := Try.prog) w 26 5 C n c Try.underlying26 Try.underlying5
  clear h hs
  go_enter Try.func15, Try.ntmps15
  go_wp2
  go_loopw [5, 11] (fun _ t wr => ∃ k : Nat, k ≤ len ∧ t = .int .i64 k ∧ Hid (okK F k ∧ Below w.heap.size w wr)) (fun _ t _ => len - (intOf t).toNat)
  case atStart => exact ⟨0, Nat.zero_le _, rfl, fun i hi => by omega, Below.refl _ _⟩
  case round =>
    obtain ⟨k, hk, rfl, H⟩ := hrel
    obtain ⟨hok, hb⟩ := H.out
    clear H
    have HB : Hid (okK F k ∧ Below w.heap.size w wr) := ⟨hok, hb⟩
    by_cases hlt : k < len
    · obtain ⟨b, off, rfl, hc⟩ := HA.out.2.2 (by omega)
      obtain ⟨h1, h2, h3⟩ := hc k hlt
      have hbl : b < w.heap.size := cell_lt h1
      have k1 : wr.cell? ⟨b, off + k * 2, none⟩ = some (.string (F k).kind) := (World.cell?_of_block (a := ⟨b, off + k * 2, none⟩) (hb.block b hbl)).trans h1
      have k2 : wr.cell? ⟨b, off + k * 2 + 1, none⟩ = some (.slice (F k).a (F k).z.length (F k).c) := (World.cell?_of_block (a := ⟨b, off + k * 2 + 1, none⟩) (hb.block b hbl)).trans h2
      obtain ⟨kd, hkd⟩ : ∃ kd, (F k).kind = kd := ⟨_, rfl⟩
      have HKD : Hid ((F k).kind = kd) := hkd
      rw [hkd] at k1
      have C := fun u => kind_any kd u
      clear h1 h2 h3 hc hb hok hkd hkc
      generalize (F k).z.length = Z at *
      generalize (F k).a = fa at *
      generalize (F k).c = fc at *
      cases hK : isK (kb kd) with
      | true =>
        have HK : Hid (isK (kb kd) = true) := hK
        rw [hK] at C
        clear hK
        go_wp2_with (go_at_call 24; refine (C _).mono ?_; rintro e w1 ⟨rfl, rfl⟩)
        go_roundw
        case rel =>
          refine ⟨k + 1, by omega, by go_num, fun i hi => ?_, HB.out.2.alloc (by have := HB.out.2.size; omega) _⟩
          by_cases hik : i = k
          · rw [hik, HKD.out]; exact HK.out
          · exact HB.out.1 i (by omega)
        case measure => simp [intOf]; omega
      | false =>
        have HK : Hid (isK (kb kd) = false) := hK
        rw [hK] at C
        clear hK
        go_wp2_with (go_at_call 24; refine (C _).mono ?_; rintro e w1 ⟨rfl, rfl⟩)
        go_ret2
        refine ⟨HB.out.2.alloc (by have := HB.out.2.size; omega) _, fun hh => ?_, fun _ => rfl⟩
        have := hh k hlt
        rw [HKD.out, HK.out] at this
        cases this
    · obtain rfl : k = len := by omega
      have C := fits_any a k cap F wr HS.out.2 HS.out.1 (HA.out.old hb)
      clear hb hok
      go_wp2_with (go_at_call 25; refine C.mono ?_; rintro e w1 ⟨rfl, hb1⟩; have hb2 : Below w.heap.size w w1 := HB.out.2.trans ⟨hb1.os, hb1.tape, hb1.output, hb1.size, fun j hj => hb1.block j (by have := HB.out.2.size; omega)⟩; clear hb1)
      have HW1 : Hid (Below w.heap.size w w1) := hb2
      have HOK : Hid (okK F k) := HB.out.1
      clear hb2 HB C
      go_loopw [6, 8, 27] (fun v6 _ t wr => ∃ j : Nat, j ≤ k ∧ t = .int .i64 j ∧ Hid (OutI w F j v6 wr ∧ Below w.heap.size w wr)) (fun _ _ t _ => k - (intOf t).toNat)
      case atStart =>
        refine ⟨0, Nat.zero_le _, rfl, .inl ⟨rfl, w1.heap.size, rfl, HW1.out.size, ?_⟩, HW1.out.alloc HW1.out.size _⟩
        exact row_arr rfl first8 _ _ rfl
      case round =>
        obtain ⟨j, hj, rfl, H⟩ := hrel
        obtain ⟨hout, hb⟩ := H.out
        clear H hkc
        by_cases hlt : j < k
        · obtain ⟨b, off, rfl, hc⟩ := HA.out.2.2 (by omega)
          obtain ⟨h1, h2, h3⟩ := hc j hlt
          have hbl : b < w.heap.size := cell_lt h1
          have k1 : wr.cell? ⟨b, off + j * 2, none⟩ = some (.string (F j).kind) := (World.cell?_of_block (a := ⟨b, off + j * 2, none⟩) (hb.block b hbl)).trans h1
          have k2 : wr.cell? ⟨b, off + j * 2 + 1, none⟩ = some (.slice (F j).a (F j).z.length (F j).c) := (World.cell?_of_block (a := ⟨b, off + j * 2 + 1, none⟩) (hb.block b hbl)).trans h2
          obtain ⟨kd, hkd⟩ : ∃ kd, (F j).kind = kd := ⟨_, rfl⟩
          obtain ⟨z, hz⟩ : ∃ z, (F j).z = z := ⟨_, rfl⟩
          obtain ⟨fa, hfa⟩ : ∃ fa, (F j).a = fa := ⟨_, rfl⟩
          obtain ⟨fc, hfc⟩ : ∃ fc, (F j).c = fc := ⟨_, rfl⟩
          obtain ⟨Z, hZ⟩ : ∃ Z, z.length = Z := ⟨_, rfl⟩
          obtain ⟨e1, e2, ⟨e3, e3'⟩, e4, e5⟩ := h3
          simp only [Ck.pt] at e1 e2 e3 e3' e4 e5
          rw [hkd] at k1
          rw [hfa, hz, hfc, hZ] at k2
          rw [hz] at e1 e2 e3 e5
          rw [hfc] at e2 e3' e4
          rw [hfa] at e4 e5
          rw [hZ] at e2 e3
          have HZ : Hid (z.length = Z ∧ (fa = none → fc = 0) ∧ Bytes z ∧ ∀ w', Below w.heap.size w w' → Row w' fa z) := ⟨hZ, e4, e1, fun w' hb' => e5.old hb'⟩
          have hkj : isK (kb kd) = true := by rw [← hkd]; exact HOK.out j hlt
          have hk4 : kd.size = 4 := by
            rw [← kb_len]
            simp only [isK, Bool.and_eq_true, decide_eq_true_eq] at hkj
            exact hkj.1
          obtain ⟨O4, hO4⟩ : ∃ O4, (octs (Z : Int) 4).reverse = O4 := ⟨_, rfl⟩
          obtain ⟨V8, hV8⟩ : ∃ V8, ((crcM (BitVec.ofNat 32 0) (kb kd ++ z)).toNat : Int) = V8 := ⟨_, rfl⟩
          obtain ⟨O8, hO8⟩ : ∃ O8, (octs V8 4).reverse = O8 := ⟨_, rfl⟩
          have HL4 : Hid (O4.length = 4) := by show _ = _; rw [← hO4, List.length_reverse, octs_len]
          have HL8 : Hid (O8.length = 4) := by show _ = _; rw [← hO8, List.length_reverse, octs_len]
          have hpl : (packB F j).length ≤ 10000 := by
            rw [packB_len F j (fun i hi => HOK.out i (by omega))]
            have := sumL_le F (show j ≤ k by omega)
            have := HS.out
            omega
          have hZ5 : Z ≤ 5000 := by
            have := sumL_at F hlt
            rw [hz, hZ] at this
            have := HS.out
            omega
          have HPL : Hid ((packB F j).length ≤ 10000) := hpl
          have HR1 : Hid ((packB F j ++ O4).length + kd.size ≤ 20000) := by show _ ≤ _; rw [List.length_append, HL4.out, hk4]; omega
          have HR2 : Hid ((packB F j ++ O4 ++ kb kd).length + Z ≤ 20000) := by show _ ≤ _; rw [List.length_append, List.length_append, HL4.out, kb_len, hk4]; omega
          have HR3 : Hid ((packB F j ++ O4 ++ kb kd ++ z).length + 4 ≤ 20000) := by show _ ≤ _; rw [List.length_append, List.length_append, List.length_append, HL4.out, kb_len, hk4, hZ]; omega
          have HPB : Hid (packB F j ++ O4 ++ kb kd ++ z ++ O8 = packB F (j + 1)) := by
            show _ = _
            rw [packB, hkd, hz]
            unfold chB
            rw [hV8, hO8, hZ, hO4]
            simp only [List.append_assoc]
          obtain ⟨wv, hwv⟩ : ∃ wv, wr.alloc (.cells #[.string kd, .slice fa Z fc] 40) = wv := ⟨_, rfl⟩
          have hbv : Below wr.heap.size wr wv := by rw [← hwv]; exact (Below.refl _ _).alloc (Nat.le_refl _) _
          have HB1 : Hid (Below w.heap.size w wv ∧ w.heap.size ≤ wv.heap.size ∧ wv.heap[wr.heap.size]? = some (.cells #[.string kd, .slice fa Z fc] 40 (0, 0)) ∧ wr.heap.size < wv.heap.size) := by
            have hs := hb.size
            refine ⟨hb.trans ⟨hbv.os, hbv.tape, hbv.output, hbv.size, fun q hq => hbv.block q (by omega)⟩, by have := hbv.size; omega, ?_, ?_⟩
            · rw [← hwv]; exact heap_alloc_new _ _
            · rw [← hwv]; simp
          have P1 : Calls Try.prog 26 #[.int .i64 4, .int .i64 Z] wv fun e w' => NewBytes wv O4 e w' := by
            have := putBig_any 4 Z wv
            rw [show put8 4 = 4 from rfl, hO4] at this
            exact this
          have HP8 : Hid (∀ w8, Calls Try.prog 26 #[.int .i64 4, .int .i64 V8] w8 fun e w' => NewBytes w8 O8 e w') := by
            intro w8
            have := putBig_any 4 V8 w8
            rw [show put8 4 = 4 from rfl, hO8] at this
            exact this
          have HOf : Hid (∀ w5, Below w.heap.size w w5 → Calls Try.prog 27 #[.slice (some ⟨(Lib.bytesWorld w5 5 kd).heap.size, 0, none⟩) 2 2] ((Lib.bytesWorld w5 5 kd).alloc (.cells #[.slice (some ⟨w5.heap.size, 0, none⟩) kd.size (grownCap w5 kd.size 0 5), .slice fa Z fc] 26)) fun e w' => e = .returned (.int .u32 V8) ∧ w' = (Lib.bytesWorld w5 5 kd).alloc (.cells #[.slice (some ⟨w5.heap.size, 0, none⟩) kd.size (grownCap w5 kd.size 0 5), .slice fa Z fc] 26)) := by
            intro w5 hb5
            rw [← hV8]
            have hb6 := below_bytesWorld w5 kd
            have hge := grownCap_ge w5 kd.size 0 5
            have hle := grownCap_le_maxLen w5 kd.size 0 5 (by rw [hk4]; unfold maxLen; omega)
            refine of_two (Lib.bytesWorld w5 5 kd) _ rfl (some ⟨w5.heap.size, 0, none⟩) fa kd.size _ Z fc (kb kd) z ⟨kb_len kd, kb_bytes kd, hge, ⟨by omega, by unfold maxLen at hle; omega⟩, (by intro h; cases h), row_bytesWorld w5 kd⟩ ⟨hZ, e1, e2, ⟨by omega, e3'⟩, e4, (e5.old hb5).same fun x hx hzz => hb6.block _ ?_⟩
            exact (e5.old hb5).lt x hx hzz
          have hV8b : 0 ≤ V8 ∧ V8 < 4294967296 := by rw [← hV8]; have := (crcM (BitVec.ofNat 32 0) (kb kd ++ z)).isLt; omega
          obtain ⟨c0, c1⟩ := two_cellsT HB1.out.2.2.1
          clear h1 h2 hc hb hbl hkd hz hfa hfc hZ e1 e2 e3 e3' e4 e5 hkj hO4 hV8 hO8 hpl hbv hk4
          rcases hout with ⟨hj0, b0, rfl, hb0, hr0⟩ | ⟨hj0, hown⟩
          · have HJ0 : Hid (packB F j = first8) := by rw [hj0]; rfl
            have HO1 : Hid (Row wv (some ⟨b0, 0, none⟩) first8 ∧ w.heap.size ≤ b0) := ⟨by rw [← hwv]; exact hr0.alloc _, hb0⟩
            clear hb0 hr0 hj0
            go_wp2_with (first
              | (go_at_call 26; first
                | (refine P1.mono ?_; clear P1; rintro e w2 ⟨a2, c2, rfl, hl2, hm2, hn2, hr2, hb2⟩; rw [HL4.out])
                | (refine (HP8.out _).mono ?_; rintro e w8 ⟨a8, c8, rfl, hl8, hm8, hn8, hr8, hb8⟩; rw [HL8.out]))
              | (go_at_call 27; refine (HOf.out w5 s5.2.1).mono ?_; rintro e wo ⟨rfl, hwo⟩; rw [hwo]; clear hwo HOf)
              | (at_builtin; first
                | (refine own_full rfl _ _ rfl w.heap.size b0 8 first8 rfl rfl (HO1.out.1.old ⟨hb2.os, hb2.tape, hb2.output, hb2.size, fun q hq => hb2.block q hq⟩) a2 4 c2 O4 rfl HL4.out (by omega) hr2 (by show 8 + 4 ≤ _; omega) (by have := hb2.size; have := HB1.out.2.1; omega) ?_; intro v3 w3 ho3 hg3; rw [← HJ0.out] at ho3; have s3 : Stg w wr.heap.size #[.string kd, .slice fa Z fc] v3 (packB F j ++ O4) w3 := Stg.of (HB1.out.1.trans ⟨hb2.os, hb2.tape, hb2.output, hb2.size, fun q hq => hb2.block q (by have := HB1.out.2.1; omega)⟩) ((hb2.block _ HB1.out.2.2.2).trans HB1.out.2.2.1) ho3 hg3; obtain ⟨y0, y1⟩ := two_cellsT s3.2.2; clear hr2 hb2 ho3 hg3 HO1)
                | (refine own_text rfl _ _ rfl w.heap.size v3 (packB F j ++ O4) rfl s3.1 kd rfl (by have := HR1.out; omega) (by have := s3.2.1.size; omega) ?_; intro v4 w4 ho4 hg4; have s4 : Stg w wr.heap.size #[.string kd, .slice fa Z fc] v4 (packB F j ++ O4 ++ kb kd) w4 := s3.grow ho4 hg4; obtain ⟨x0, x1⟩ := two_cellsT s4.2.2; clear s3 ho4 hg4 y0 y1)
                | (refine own_more rfl _ _ rfl w.heap.size v4 (packB F j ++ O4 ++ kb kd) rfl s4.1 fa Z fc z rfl HZ.out.2.1 HZ.out.1 (HZ.out.2.2.2 w4 s4.2.1) (by have := HR2.out; omega) (by have := s4.2.1.size; omega) ?_; intro v5 w5 ho5 hg5; have s5 : Stg w wr.heap.size #[.string kd, .slice fa Z fc] v5 (packB F j ++ O4 ++ kb kd ++ z) w5 := s4.grow ho5 hg5; obtain ⟨z0, z1⟩ := two_cellsT s5.2.2; have hcv := Lib.run_convert_string_bytes (P := Try.prog) w5 9 26 5 kd Try.underlying9 Try.underlying26 Try.underlying5; have s7 : Stg w wr.heap.size #[.string kd, .slice fa Z fc] v5 (packB F j ++ O4 ++ kb kd ++ z) (Lib.bytesWorld w5 5 kd) := s5.below (below_bytesWorld w5 kd); obtain ⟨t0, t1⟩ := two_cellsT s7.2.2; clear s4 ho5 hg5 x0 x1)
                | (refine own_more rfl _ _ rfl w.heap.size v5 (packB F j ++ O4 ++ kb kd ++ z) rfl ((s7.below ((Below.refl _ _).alloc (Nat.le_refl _) _)).below hb8).1 a8 4 c8 O8 rfl hn8 HL8.out hr8 (by have := HR3.out; omega) (by have := ((s7.below ((Below.refl _ _).alloc (Nat.le_refl _) _)).below hb8).2.1.size; omega) ?_; intro v9 w9 ho9 hg9; have s9 : Stg w wr.heap.size #[.string kd, .slice fa Z fc] v9 (packB F j ++ O4 ++ kb kd ++ z ++ O8) w9 := ((s7.below ((Below.refl _ _).alloc (Nat.le_refl _) _)).below hb8).grow ho9 hg9)))
            go_roundw
            case rel => exact ⟨j + 1, by omega, by go_num, .inr ⟨by omega, by rw [← HPB.out]; exact s9.1⟩, s9.2.1⟩
            case measure => simp [intOf]; omega
          · have HO1 : Hid (Stg w wr.heap.size #[.string kd, .slice fa Z fc] u6 (packB F j) wv) := by
              have hbv : Below wr.heap.size wr wv := by rw [← hwv]; exact (Below.refl _ _).alloc (Nat.le_refl _) _
              refine ⟨⟨hown.1, ?_⟩, HB1.out.1, HB1.out.2.2.1⟩
              rcases hown.2 with hv | ⟨g, cap, cur, hv, h1, hh, h2⟩
              · exact .inl hv
              · exact .inr ⟨g, cap, cur, hv, h1, (hbv.block g (lt_of_block hh)).trans hh, h2⟩
            clear hown
            go_wp2_with (first
              | (go_at_call 26; first
                | (refine P1.mono ?_; clear P1; rintro e w2 ⟨a2, c2, rfl, hl2, hm2, hn2, hr2, hb2⟩; rw [HL4.out])
                | (refine (HP8.out _).mono ?_; rintro e w8 ⟨a8, c8, rfl, hl8, hm8, hn8, hr8, hb8⟩; rw [HL8.out]))
              | (go_at_call 27; refine (HOf.out w5 s5.2.1).mono ?_; rintro e wo ⟨rfl, hwo⟩; rw [hwo]; clear hwo HOf)
              | (at_builtin; first
                | (refine own_more rfl _ _ rfl w.heap.size u6 (packB F j) rfl (HO1.out.below hb2).1 a2 4 c2 O4 rfl hn2 HL4.out hr2 (by have := HPL.out; omega) (by have := hb2.size; have := HB1.out.2.1; omega) ?_; intro v3 w3 ho3 hg3; have s3 : Stg w wr.heap.size #[.string kd, .slice fa Z fc] v3 (packB F j ++ O4) w3 := (HO1.out.below hb2).grow ho3 hg3; obtain ⟨y0, y1⟩ := two_cellsT s3.2.2; clear hr2 hb2 ho3 hg3 HO1)
                | (refine own_text rfl _ _ rfl w.heap.size v3 (packB F j ++ O4) rfl s3.1 kd rfl (by have := HR1.out; omega) (by have := s3.2.1.size; omega) ?_; intro v4 w4 ho4 hg4; have s4 : Stg w wr.heap.size #[.string kd, .slice fa Z fc] v4 (packB F j ++ O4 ++ kb kd) w4 := s3.grow ho4 hg4; obtain ⟨x0, x1⟩ := two_cellsT s4.2.2; clear s3 ho4 hg4 y0 y1)
                | (refine own_more rfl _ _ rfl w.heap.size v4 (packB F j ++ O4 ++ kb kd) rfl s4.1 fa Z fc z rfl HZ.out.2.1 HZ.out.1 (HZ.out.2.2.2 w4 s4.2.1) (by have := HR2.out; omega) (by have := s4.2.1.size; omega) ?_; intro v5 w5 ho5 hg5; have s5 : Stg w wr.heap.size #[.string kd, .slice fa Z fc] v5 (packB F j ++ O4 ++ kb kd ++ z) w5 := s4.grow ho5 hg5; obtain ⟨z0, z1⟩ := two_cellsT s5.2.2; have hcv := Lib.run_convert_string_bytes (P := Try.prog) w5 9 26 5 kd Try.underlying9 Try.underlying26 Try.underlying5; have s7 : Stg w wr.heap.size #[.string kd, .slice fa Z fc] v5 (packB F j ++ O4 ++ kb kd ++ z) (Lib.bytesWorld w5 5 kd) := s5.below (below_bytesWorld w5 kd); obtain ⟨t0, t1⟩ := two_cellsT s7.2.2; clear s4 ho5 hg5 x0 x1)
                | (refine own_more rfl _ _ rfl w.heap.size v5 (packB F j ++ O4 ++ kb kd ++ z) rfl ((s7.below ((Below.refl _ _).alloc (Nat.le_refl _) _)).below hb8).1 a8 4 c8 O8 rfl hn8 HL8.out hr8 (by have := HR3.out; omega) (by have := ((s7.below ((Below.refl _ _).alloc (Nat.le_refl _) _)).below hb8).2.1.size; omega) ?_; intro v9 w9 ho9 hg9; have s9 : Stg w wr.heap.size #[.string kd, .slice fa Z fc] v9 (packB F j ++ O4 ++ kb kd ++ z ++ O8) w9 := ((s7.below ((Below.refl _ _).alloc (Nat.le_refl _) _)).below hb8).grow ho9 hg9)))
            go_roundw
            case rel => exact ⟨j + 1, by omega, by go_num, .inr ⟨by omega, by rw [← HPB.out]; exact s9.1⟩, s9.2.1⟩
            case measure => simp [intOf]; omega
        · obtain rfl : j = k := by omega
          have HPF : Hid (PkPost w F j (.returned (.tuple #[u6, .int .i64 0])) wr) := hout.done HOK.out hb
          clear hout hb
          go_wp2
          go_ret2
          exact HPF.out
end Go.Proofs.Ytoofpkcgiodfcaa
