/- The reference's filters, there and back. -/
import Derived.Test.YtchaggngdfioeaaFlD
namespace Go.Proofs.Ytchaggngdfioeaa
open Go.RowKit
theorem row_one (w W : World) (z : Int) (h : W.heap = (w.alloc (.cells #[.int .u8 z] 5)).heap) : Row W (some ⟨w.heap.size, 0, none⟩) [z] := by
  refine .inr ⟨_, 0, rfl, fun i hi => ?_⟩
  obtain rfl : i = 0 := by simpa using hi
  have hh : W.heap[w.heap.size]? = some (.cells #[.int .u8 z] 5 (0, 0)) := by rw [h]; exact heap_alloc_new _ _
  simp [World.cell?, hh]
/-- One byte more at the end of a slice of the call's own: what the loop's relation asks. -/
theorem push_step {w wr W w7 : World} {v7 : Value} {g g7 : Option Nat} {z : Int} {l l' : List Int} {B : Nat} (hB : B = w.heap.size) (hW : W.os = wr.os ∧ W.tape = wr.tape ∧ W.output = wr.output ∧ W.heap = (wr.alloc (.cells #[.int .u8 z] 5)).heap) (hbel : Below B w wr) (hg : ∀ q, g = some q → B ≤ q)
    (hs7 : Sl w7 5 v7 g7 (vals (l ++ [z]))) (hg7 : g7 = g ∨ ∃ k, g7 = some k ∧ wr.heap.size + 1 ≤ k) (hgr7 : W.grownBy w7 g) (hl : l' = l ++ [z]) : Sl w7 5 v7 g7 (vals l') ∧ (∀ q, g7 = some q → B ≤ q) ∧ Below B w w7 := by
  subst hl
  have hWb : Below B w W := ⟨hW.1.trans hbel.os, hW.2.1.trans hbel.tape, hW.2.2.1.trans hbel.output, by rw [hW.2.2.2]; have := hbel.size; simp; omega, fun k hk => by rw [hW.2.2.2]; exact (Below.heap_alloc wr _ k (by have := hbel.size; omega)).trans (hbel.block k hk)⟩
  refine ⟨hs7, ?_, hWb.grown hgr7 (by rw [hB]; exact hWb.size) hg⟩
  intro q hq
  rcases hg7 with e | ⟨k, e, hk⟩
  · exact hg q (by rw [← e, hq])
  · rw [e] at hq; cases hq; have := hbel.size; omega
set_option maxHeartbeats 400000 in
theorem rdo_no (k s : Int) (v u : Value) (w : World) (h : ckN k s ≠ 0) : Calls Try.prog 10 #[.int .i64 k, v, u, .int .i64 s] w fun e w' => e = .returned (.tuple #[.slice none 0 0, .int .i64 (ckN k s)]) ∧ w' = w := by
  have C := rcheck_any k s w
  generalize ckN k s = E at *
  go_enter Try.func10, Try.ntmps10
  go_wp2_with fail
  refine C.mono ?_
  rintro e w1 ⟨rfl, rfl⟩
  go_wp2
  go_ret2
  exact ⟨rfl, rfl⟩
set_option maxHeartbeats 400000 in
theorem rundo_no (k s : Int) (v u : Value) (w : World) (h : ckN k s ≠ 0) : Calls Try.prog 13 #[.int .i64 k, v, u, .int .i64 s] w fun e w' => e = .returned (.tuple #[.slice none 0 0, .int .i64 (ckN k s)]) ∧ w' = w := by
  have C := rcheck_any k s w
  generalize ckN k s = E at *
  go_enter Try.func13, Try.ntmps13
  go_wp2_with fail
  refine C.mono ?_
  rintro e w1 ⟨rfl, rfl⟩
  go_wp2
  go_ret2
  exact ⟨rfl, rfl⟩
set_option maxHeartbeats 1600000 in
theorem rundo_any (k : Int) (a : Option Addr) (n cap : Nat) (a' : Option Addr) (n' cap' : Nat) (s : Int) (x y : List Int) (w : World) (hx : x.length = n) (hy : y.length = n') (bx : Bytes x) (bY : Bytes y) (rx : Row w a x) (ry : Row w a' y)
    (hn : n ≤ 140737488351232) (h : ckN k s = 0) : Calls Try.prog 13 #[.int .i64 k, .slice a n cap, .slice a' n' cap', .int .i64 s] w fun e w' => NewB2 w (unN k x y s) e w' := by
  have C := rcheck_any k s w
  rw [h] at C
  have HS := ckN_ok h
  obtain ⟨B, hB⟩ : ∃ B, B = w.heap.size := ⟨_, rfl⟩
  have HB : Hid (B = w.heap.size) := hB
  have HG : Hid (∀ (wr : World) (v : Option Addr) (c j : Nat), Below B w wr → j < n → Row wr v (unP k x y s j) → Calls Try.prog 20 #[.int .i64 k, .slice v j c, .slice a' n' cap', .int .i64 s, .int .i64 j] wr fun e w' => e = .returned (.int .i64 (gsN k (unP k x y s j) y j s)) ∧ w' = wr) := fun wr v c j hb hj ho =>
    rguess_any k v j c a' n' cap' j s _ y wr (unP_len k x y s j) hy (unP_bytes k x y s j) bY ho (ry.old (hB ▸ hb)) (by omega) (by omega) (by omega) (by omega)
  have HGb : Hid (∀ j : Nat, 0 ≤ gsN k (unP k x y s j) y j s ∧ gsN k (unP k x y s j) y j s < 256) := fun j => gsN_byte k (unP_bytes k x y s j) bY j s
  have HX : Hid (x.length = n ∧ Bytes x ∧ Row w a x) := ⟨hx, bx, rx⟩
  clear hx hy bx bY rx ry hB HS h
  go_enter Try.func13, Try.ntmps13
  go_wp2_with fail
  refine C.mono ?_
  rintro e w1 ⟨rfl, rfl⟩
  clear C
  go_wp2
  go_loopw [11, 12, 13, 22] (fun o _ _ c wr => ∃ (j : Nat) (g : Option Nat), j ≤ n ∧ c = .int .i64 j ∧ Sl wr 5 o g (vals (unP k x y s j)) ∧ (∀ q, g = some q → B ≤ q) ∧ Below B w1 wr) (fun _ _ _ c _ => n - (intOf c).toNat)
  case atStart => exact ⟨0, none, Nat.zero_le _, rfl, Sl.nil _ _, (by intro q hq; cases hq), Below.refl _ _⟩
  case round =>
    obtain ⟨j, g, hj, rfl, hsl, hg, hbel⟩ := hrel
    obtain ⟨ao, co, hv, hl1, hl2, hl3⟩ := hsl.shape
    rw [vals_len, unP_len] at hv hl1
    by_cases hlt : j < n
    · obtain ⟨b, off, rfl, hc⟩ := (HX.out.2.2.old (by rw [← HB.out]; exact hbel)).at j (by rw [HX.out.1]; exact hlt)
      have G := HG.out wr ao co j hbel hlt (hsl.row hv)
      have hGb := HGb.out j
      have hzb := HX.out.2.1.at j
      have HU : Hid (unP k x y s (j + 1) = unP k x y s j ++ [(x[j]?.getD 0 + gsN k (unP k x y s j) y j s) % 256]) := rfl
      have HSl : Hid (Sl wr 5 (.slice ao j co) g (vals (unP k x y s j)) ∧ (∀ q, g = some q → B ≤ q) ∧ Below B w1 wr) := ⟨hv ▸ hsl, hg, hbel⟩
      have HL : Hid ((unP k x y s j).length = j) := unP_len k x y s j
      clear hsl hg hbel hl2 hl3
      subst hv
      generalize gsN k (unP k x y s j) y (j : Int) s = G0 at *
      generalize x[j]?.getD 0 = z at *
      have hmod : (z + G0).tmod 256 = (z + G0) % 256 := Int.tmod_eq_emod_of_nonneg (by omega)
      go_wp2_with fail
      refine G.mono ?_
      rintro e w3 ⟨rfl, rfl⟩
      clear G
      have HS3 : Hid (Sl (w3.alloc (.cells #[.int .u8 ((z + G0) % 256)] 5)) 5 (.slice ao j co) g (vals (unP k x y s j))) := HSl.out.1.same fun q hq => Below.heap_alloc w3 _ q (HSl.out.1.lt hq)
      have HR3 : Hid (Row (w3.alloc (.cells #[.int .u8 ((z + G0) % 256)] 5)) (some ⟨w3.heap.size, 0, none⟩) [(z + G0) % 256]) := row_one w3 _ _ rfl
      go_wp2_with (at_builtin; refine wpList_more rfl _ _ rfl (.slice ao j co) g (unP k x y s j) rfl HS3.out (some ⟨w3.heap.size, 0, none⟩) 1 1 [(z + G0) % 256] rfl (by intro h; cases h) rfl HR3.out (by rw [HL.out]; omega) ?_)
      intro v7 w7 g7 hs7 hg7 hgr7
      have HF : Hid _ := push_step (wr := w3) (W := w3.alloc (.cells #[.int .u8 ((z + G0) % 256)] 5)) HB.out ⟨rfl, rfl, rfl, rfl⟩ HSl.out.2.2 HSl.out.2.1 hs7 hg7 hgr7 HU.out
      clear hs7 hg7 hgr7 HS3 HR3 HSl
      go_wp2
      go_roundw
      case rel => exact ⟨j + 1, g7, by omega, by go_num, HF.out⟩
      case measure => simp [intOf]; omega
    · have : j = n := by omega
      subst this
      subst hv
      go_wp2
      go_ret2
      rw [show unP k x y s j = unN k x y s from by unfold unN; rw [HX.out.1]] at hsl
      exact newB2_of_sl hsl (by rw [← HB.out]; exact hbel)
set_option maxHeartbeats 1600000 in
theorem rdo_any (k : Int) (a : Option Addr) (n cap : Nat) (a' : Option Addr) (n' cap' : Nat) (s : Int) (x y : List Int) (w : World) (hx : x.length = n) (hy : y.length = n') (bx : Bytes x) (bY : Bytes y) (rx : Row w a x) (ry : Row w a' y)
    (hn : n ≤ 140737488351232) (h : ckN k s = 0) : Calls Try.prog 10 #[.int .i64 k, .slice a n cap, .slice a' n' cap', .int .i64 s] w fun e w' => NewB2 w (doN k x y s) e w' := by
  have C := rcheck_any k s w
  rw [h] at C
  have HS := ckN_ok h
  obtain ⟨B, hB⟩ : ∃ B, B = w.heap.size := ⟨_, rfl⟩
  have HB : Hid (B = w.heap.size) := hB
  have HG : Hid (∀ (wr : World) (j : Nat), Below B w wr → j < n → Calls Try.prog 20 #[.int .i64 k, .slice a n cap, .slice a' n' cap', .int .i64 s, .int .i64 j] wr fun e w' => e = .returned (.int .i64 (gsN k x y j s)) ∧ w' = wr) := fun wr j hb hj =>
    rguess_any k a n cap a' n' cap' j s x y wr hx hy bx bY (rx.old (hB ▸ hb)) (ry.old (hB ▸ hb)) (by omega) (by omega) (by omega) (by omega)
  have HGb : Hid (∀ j : Nat, 0 ≤ gsN k x y j s ∧ gsN k x y j s < 256) := fun j => gsN_byte k bx bY j s
  have HX : Hid (x.length = n ∧ Bytes x ∧ Row w a x) := ⟨hx, bx, rx⟩
  clear hx hy bx bY rx ry hB HS h
  go_enter Try.func10, Try.ntmps10
  go_wp2_with fail
  refine C.mono ?_
  rintro e w1 ⟨rfl, rfl⟩
  clear C
  go_wp2
  go_loopw [11, 12, 21] (fun o _ c wr => ∃ (j : Nat) (g : Option Nat), j ≤ n ∧ c = .int .i64 j ∧ Sl wr 5 o g (vals ((doN k x y s).take j)) ∧ (∀ q, g = some q → B ≤ q) ∧ Below B w1 wr) (fun _ _ c _ => n - (intOf c).toNat)
  case atStart => exact ⟨0, none, Nat.zero_le _, rfl, Sl.nil _ _, (by intro q hq; cases hq), Below.refl _ _⟩
  case round =>
    obtain ⟨j, g, hj, rfl, hsl, hg, hbel⟩ := hrel
    have hL : ((doN k x y s).take j).length = j := by rw [List.length_take, doN_len, HX.out.1]; omega
    obtain ⟨ao, co, hv, hl1, hl2, hl3⟩ := hsl.shape
    rw [vals_len, hL] at hv hl1
    have HL : Hid (((doN k x y s).take j).length = j) := hL
    clear hL
    by_cases hlt : j < n
    · obtain ⟨b, off, rfl, hc⟩ := (HX.out.2.2.old (by rw [← HB.out]; exact hbel)).at j (by rw [HX.out.1]; exact hlt)
      have G : Hid (∀ m, Calls Try.prog 20 #[.int .i64 k, .slice (some ⟨b, off, none⟩) n cap, .slice a' n' cap', .int .i64 s, .int .i64 j] (wr.drewN m) fun e w' => e = .returned (.int .i64 (gsN k x y j s)) ∧ w' = wr.drewN m) := fun m => HG.out (wr.drewN m) j ⟨hbel.os, hbel.tape, hbel.output, hbel.size, hbel.block⟩ hlt
      have hGb := HGb.out j
      have hzb := HX.out.2.1.at j
      have HU : Hid ((doN k x y s).take (j + 1) = (doN k x y s).take j ++ [(x[j]?.getD 0 - gsN k x y j s) % 256]) := by
        show _ = _
        rw [take_snoc _ j (by rw [doN_len, HX.out.1]; exact hlt), doN_at _ _ _ _ _ (by rw [HX.out.1]; exact hlt)]; rfl
      have HSl : Hid (Sl wr 5 (.slice ao j co) g (vals ((doN k x y s).take j)) ∧ (∀ q, g = some q → B ≤ q) ∧ Below B w1 wr) := ⟨hv ▸ hsl, hg, hbel⟩
      clear hsl hg hbel hl2 hl3
      subst hv
      generalize gsN k x y (j : Int) s = G0 at *
      generalize x[j]?.getD 0 = z at *
      have hw1 : IntKind.i64.wrap z = z := by rw [IntKind.wrap_i64]; omega
      have hw2 : IntKind.i64.wrap (z - G0) = z - G0 := by rw [IntKind.wrap_i64]; omega
      have hw3 : IntKind.i64.wrap (z - G0 + 256) = z - G0 + 256 := by rw [IntKind.wrap_i64]; omega
      have hmod : (z - G0 + 256).tmod 256 = (z - G0) % 256 := by rw [Int.tmod_eq_emod_of_nonneg (by omega)]; omega
      have hw4 : IntKind.u8.wrap ((z - G0) % 256) = (z - G0) % 256 := by rw [IntKind.wrap_u8]; omega
      generalize (z - G0) % 256 = Y at *
      have HS3 : Hid (∀ W : World, W.heap = (wr.alloc (.cells #[.int .u8 Y] 5)).heap → Sl W 5 (.slice ao j co) g (vals ((doN k x y s).take j))) := fun W hW => HSl.out.1.same fun q hq => by rw [hW]; exact Below.heap_alloc wr _ q (HSl.out.1.lt hq)
      go_wp2
      go_region_law (first
        | (go_simp; go_at_call 20; refine Calls.mono (G.out _) ?_; rintro e w5 ⟨rfl, rfl⟩)
        | (refine step_more rfl _ _ rfl (.slice ao j co) g ((doN k x y s).take j) rfl (HS3.out _ rfl) (some ⟨wr.heap.size, 0, none⟩) 1 1 [Y] rfl (by intro h; cases h) rfl (row_one wr _ _ rfl) (by rw [HL.out]; omega) ?_; intro v7 w7 g7 hs7 hg7 hgr7)
        | fail)
      all_goals
        have HF : Hid _ := push_step (wr := wr) (z := Y) (W := (wr.drewN 1).alloc (.cells #[.int .u8 Y] 5)) HB.out ⟨rfl, rfl, rfl, rfl⟩ HSl.out.2.2 HSl.out.2.1 hs7 (by simpa using hg7) hgr7 HU.out
        clear hs7 hg7 hgr7 HS3 HSl
        go_wp2
        go_roundw
        case rel => exact ⟨j + 1, g7, by omega, by go_num, HF.out⟩
        case measure => simp [intOf]; omega
    · have : j = n := by omega
      subst this
      subst hv
      go_wp2
      go_ret2
      rw [show (doN k x y s).take j = doN k x y s from by rw [List.take_of_length_le (by rw [doN_len, HX.out.1]; exact Nat.le_refl _)]] at hsl
      exact newB2_of_sl hsl (by rw [← HB.out]; exact hbel)
end Go.Proofs.Ytchaggngdfioeaa
