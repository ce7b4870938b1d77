/- Concat with the memory that it tells; PutLittle; what all kinds come to. -/
import Derived.Test.YtaibojmaghmfnaaMgR
namespace Go.Proofs.Ytaibojmaghmfnaa
open Go.RowKit
/-- n new bytes, in memory that nobody else has. -/
def BPs (w : World) (n : Nat) (l : List Int) (e : Ending) (w' : World) : Prop := ∃ a cap g, e = .returned (.slice a n cap) ∧ Sl w' 5 (.slice a n cap) g (vals l) ∧ l.length = n ∧ Bytes l ∧ (∀ k, g = some k → w.heap.size ≤ k) ∧ Below w.heap.size w w'
theorem Sl.bok {w : World} {a : Option Addr} {n cap : Nat} {g : Option Nat} {l : List Int} (h : Sl w 5 (.slice a n cap) g (vals l)) (hl : l.length = n) (hb : Bytes l) (hn : n ≤ 140737488351232) : BOk w a n cap l := by
  obtain ⟨a', c', e, h1, h2, h3⟩ := h.shape
  simp at e
  obtain ⟨rfl, rfl, rfl⟩ := e
  rw [vals_len] at h1
  unfold maxLen at h2
  exact ⟨hl, hb, by rw [← hl]; exact h1, ⟨hn, by omega⟩, h3, h.row rfl⟩
set_option maxHeartbeats 1600000 in
theorem concat_sl (a : Option Addr) (len cap : Nat) (F : Nat → Pt) (w : World) (h : PtArg w a len cap F) (h1 : 1 ≤ (catF F len).length) (h2 : (catF F len).length ≤ 1000000) :
    Calls Try.prog 19 #[.slice a len cap] w fun e w' => ∃ a c g, e = .returned (.slice a (catF F len).length c) ∧ Sl w' 5 (.slice a (catF F len).length c) g (vals (catF F len)) ∧ (∀ k, g = some k → w.heap.size ≤ k) ∧ Below w.heap.size w w' := by
  obtain ⟨hl, hm, hF⟩ := h
  unfold maxLen at hm
  have HF : Hid (0 < len → ∃ b off, a = some ⟨b, off, none⟩ ∧ ∀ i, i < len → w.cell? ⟨b, off + i, none⟩ = some (.slice (F i).a (F i).z.length (F i).c) ∧ PtOk w (F i)) := hF
  have HS : Hid (1 ≤ (catF F len).length ∧ (catF F len).length ≤ 1000000) := ⟨h1, h2⟩
  clear hF h1 h2
  go_enter Try.func19, Try.ntmps19
  go_wp2
  go_loop [3, 5, 11] (fun s _ t => ∃ k : Nat, k ≤ len ∧ t = .int .i64 k ∧ s = .int .i64 ((catF F k).length : Nat)) (fun _ _ t => len - (intOf t).toNat)
  case atStart => exact ⟨0, Nat.zero_le _, rfl, rfl⟩
  case round =>
    obtain ⟨k, hk, rfl, rfl⟩ := hrel
    have hck := cat_mono F hk
    have hS2 := HS.out.2
    obtain ⟨N, hN⟩ : ∃ N, (catF F k).length = N := ⟨_, rfl⟩
    have HN : Hid ((catF F k).length = N) := hN
    rw [hN] at hck ⊢
    clear hN
    by_cases hlt : k < len
    · obtain ⟨b, off, rfl, hc⟩ := HF.out (by omega)
      obtain ⟨hcl, hq1, hq2, hq3, hq4, hq5⟩ := hc k hlt
      have HA : Hid ((catF F (k + 1)).length = N + (F k).z.length) := (by rw [← size_cat, HN.out] : (catF F (k + 1)).length = N + (F k).z.length)
      have hb2 : N + (F k).z.length ≤ 1000000 := by have := cat_mono F (show k + 1 ≤ len by omega); have := HA.out; omega
      clear hc hq1 hq5 hck hS2
      obtain ⟨L, hL⟩ : ∃ L, (F k).z.length = L := ⟨_, rfl⟩
      rw [hL] at hcl hb2
      rw [hL] at HA
      clear hL hq2 hq3 hq4
      go_wp2
      go_round
      case rel => exact ⟨k + 1, by omega, by go_num, by rw [HA.out]; go_num⟩
      case measure => simp [intOf]; omega
    · obtain rfl : k = len := by omega
      have hn1 : 1 ≤ N := by have := HS.out.1; have := HN.out; omega
      have hn2 : N ≤ 1000000 := by have := HS.out.2; have := HN.out; omega
      clear hck hS2
      go_wp2_with fail
      refine (grow_any N w hn1 hn2).mono ?_
      rintro e w1 ⟨v, g, rfl, s1, g1, b1⟩
      have HR : Hid (ConRel w F 0 v w1) := ⟨g, s1, g1, b1⟩
      clear s1 g1 b1
      go_wp2
      go_loopw [6, 8, 27] (fun v _ t wr => ∃ j : Nat, j ≤ k ∧ t = .int .i64 j ∧ ConRel w F j v wr) (fun _ _ t _ => k - (intOf t).toNat)
      case atStart => exact ⟨0, Nat.zero_le _, rfl, HR.out⟩
      case round =>
        clear HR
        obtain ⟨j, hj, rfl, g, s1, g1, b1⟩ := hrel
        by_cases hjl : j < k
        · obtain ⟨b, off, rfl, hc⟩ := HF.out (by omega)
          obtain ⟨hcl, hq⟩ := hc j hjl
          have hcl' := (b1.cell (p := ⟨b, off + j, none⟩) (cell_lt hcl)).trans hcl
          have HQ : Hid (PtOk w (F j)) := hq
          have HG : Hid (∀ i, g = some i → w.heap.size ≤ i) := g1
          have HL : Hid ((catF F j).length + (F j).z.length ≤ 1000000) := (by rw [size_cat]; have := cat_mono F (show j + 1 ≤ k by omega); have := HS.out.2; omega : (catF F j).length + (F j).z.length ≤ 1000000)
          have HC : Hid (catF F (j + 1) = catF F j ++ (F j).z) := rfl
          have HB : Hid (Below w.heap.size w wr) := b1
          clear hc hq g1 b1 hcl
          go_wp2_with (at_builtin; refine wpList_more rfl _ _ rfl _ g (catF F j) rfl s1 (F j).a (F j).z.length (F j).c (F j).z rfl HQ.out.2.2.2.1 rfl (HQ.out.2.2.2.2.old HB.out) (by have := HL.out; omega) ?_; intro v2 w2 g2 s2 hg2 hw2)
          have HR2 : Hid (ConRel w F (j + 1) v2 w2) := ⟨g2, by rw [HC.out]; exact s2, (by
            intro i hi
            rcases hg2 with rfl | ⟨q, rfl, hq⟩
            · exact HG.out i hi
            · cases hi; exact Nat.le_trans HB.out.size hq), HB.out.grown hw2 HB.out.size (fun i hi => HG.out i hi)⟩
          clear s1 s2 hg2 hw2
          go_wp2
          go_roundw
          case rel => exact ⟨j + 1, by omega, by go_num, HR2.out⟩
          case measure => simp [intOf]; omega
        · obtain rfl : j = k := by omega
          obtain ⟨a', c', rfl, q1, q2, q3⟩ := s1.shape
          have HE : Hid (∃ a c g, Ending.returned (.slice a' (vals (catF F j)).length c') = .returned (.slice a (catF F j).length c) ∧ Sl wr 5 (.slice a (catF F j).length c) g (vals (catF F j)) ∧ (∀ k, g = some k → w.heap.size ≤ k) ∧ Below w.heap.size w wr) := ⟨a', c', g, by rw [vals_len], by rw [← vals_len]; exact s1, g1, b1⟩
          clear s1 g1 b1 q1 q2 q3
          go_wp2
          go_ret
          exact HE.out
theorem conc3s (s : Nat) (aa : Option Addr) (nA cA : Nat) (A : List Int) (bb : Option Addr) (nB cB : Nat) (B : List Int) (cc : Option Addr) (nC cC : Nat) (C : List Int) (w : World) (hs : s = w.heap.size) (hA : BOk w aa nA cA A) (hB : BOk w bb nB cB B) (hC : BOk w cc nC cC C) (h1 : 1 ≤ nA + nB + nC) (h2 : nA + nB + nC ≤ 1000000) (N : Nat) (hN : nA + nB + nC = N) :
    Calls Try.prog 19 #[.slice (some ⟨s, 0, none⟩) 3 3] (w.alloc (.cells #[.slice aa nA cA, .slice bb nB cB, .slice cc nC cC] 24)) fun e w' => BPs w N (A ++ B ++ C) e w' := by
  subst hs
  have hl : (A ++ B ++ C).length = N := by simp only [List.length_append, hA.1, hB.1, hC.1]; omega
  have hcat : catF (fun i => if i = 0 then ⟨aa, cA, A⟩ else if i = 1 then ⟨bb, cB, B⟩ else (⟨cc, cC, C⟩ : Pt)) 3 = A ++ B ++ C := by simp [catF]
  have K := concat_sl (some ⟨w.heap.size, 0, none⟩) 3 3 (fun i => if i = 0 then ⟨aa, cA, A⟩ else if i = 1 then ⟨bb, cB, B⟩ else ⟨cc, cC, C⟩) (w.alloc (.cells #[.slice aa nA cA, .slice bb nB cB, .slice cc nC cC] 24)) ⟨Nat.le_refl _, by unfold maxLen; omega, fun _ => ⟨_, 0, rfl, fun i hi => by
    rw [World.cell?_alloc_mark]
    match i, hi with
    | 0, _ => exact ⟨by show some (Value.slice aa nA cA) = some (.slice aa A.length cA); rw [hA.1], (hA.alloc _).pt⟩
    | 1, _ => exact ⟨by show some (Value.slice bb nB cB) = some (.slice bb B.length cB); rw [hB.1], (hB.alloc _).pt⟩
    | 2, _ => exact ⟨by show some (Value.slice cc nC cC) = some (.slice cc C.length cC); rw [hC.1], (hC.alloc _).pt⟩
    ⟩⟩ (by rw [hcat, hl]; omega) (by rw [hcat, hl]; omega)
  rw [hcat, hl] at K
  refine K.mono ?_
  rintro e w' ⟨a, c, g, rfl, q1, q2, q3⟩
  exact ⟨a, c, g, rfl, q1, hl, (hA.2.1.append hB.2.1).append hC.2.1, fun k hk => by have := q2 k hk; simp at this; omega, ((Below.refl _ _).alloc (Nat.le_refl _) _).trans (q3.mono (by simp))⟩
set_option maxHeartbeats 800000 in
theorem putLittle_any (n v : Int) (w : World) : Calls Try.prog 21 #[.int .i64 n, .int .i64 v] w fun e w' => NewBytes w (octs v (put8 n)) e w' := by
  have C := within_any n w
  have hm := put8_le n
  generalize put8 n = m at *
  obtain ⟨B, hB⟩ : ∃ B, B = w.heap.size := ⟨_, rfl⟩
  have HB : Hid (B = w.heap.size) := hB
  clear hB
  obtain ⟨i0, hi, hz0, hz1, hz2⟩ := info_parts Try.info5
  go_enter Try.func21, Try.ntmps21
  go_wp2_with fail
  refine C.mono ?_
  clear C
  rintro e w1 ⟨rfl, rfl⟩
  go_wp2_with (at_make; refine wpList_make_full _ rfl _ _ 24 rfl B 5 i0 (.int .u8 0) 1 Try.underlying24 hi hz0 hz1 .i64 .i64 _ _ m rfl rfl rfl rfl ?b2 ?b3 ?b4 ?_)
  case b2 => rw [hz2]; omega
  case b3 => unfold maxLen; omega
  case b4 => rw [HB.out]; exact Nat.le_refl _
  intro w2 hown hgrow
  rw [made_vals] at hown
  have hbel : Below B w1 w2 := (Below.refl _ _).grown hgrow (by rw [HB.out]; exact Nat.le_refl _) (fun k hk => by cases hk)
  obtain ⟨g, hg⟩ : ∃ g, g = w1.heap.size := ⟨_, rfl⟩
  rw [← hg]
  rw [← hg] at hown
  clear hg hgrow
  go_wp2
  go_loopw [6, 12] (fun _ c wr => ∃ k : Nat, k ≤ m ∧ c = .int .i64 k ∧ wr.ownsRow B 5 1 (.slice (some ⟨g, 0, none⟩) m m) m (vals (litP v m k)) ∧ Below B w1 wr) (fun _ c _ => m - (intOf c).toNat)
  case atStart => exact ⟨0, Nat.zero_le _, rfl, by rw [litP_zero]; exact hown, hbel⟩
  case round =>
    clear hown hbel
    obtain ⟨k, hk, rfl, hown, hbel⟩ := hrel
    by_cases hlt : k < m
    · have hcell := own_cell hown hlt
      have hfz := hown.frozenAt k
      have R := store_step hown hbel (by rw [HB.out]; exact Nat.le_refl _) (litP_step v m k hlt)
      have HR : Hid _ := R
      clear R hown hbel
      go_wp2_with (go_at_call 43; refine (octet_any v k _ (by omega)).mono ?_; rintro e w3 ⟨rfl, rfl⟩)
      go_roundw
      case rel => exact ⟨k + 1, by omega, by go_num, HR.out.1, HR.out.2⟩
      case measure => simp [intOf]; omega
    · have : k = m := by omega
      subst this
      go_wp2
      go_ret
      rw [litP_full] at hown
      rw [HB.out] at hown hbel
      exact newBytes_of_owns hown hbel


/-- The library's table for trailing zeros, where powers of two up to 128 look it up. -/
theorem putl_bp (n : Nat) (hn : n ≤ 8) (v : Int) (w : World) : Calls Try.prog 21 #[.int .i64 n, .int .i64 v] w fun e w' => BP w n (octs v n) e w' := by
  have e8 : put8 (n : Int) = n := by unfold put8; omega
  refine (putLittle_any n v w).mono ?_
  rintro e w' ⟨a, cap, rfl, h1, h2, h3, h4, h5⟩
  rw [e8] at h1 h4 ⊢
  have hl : (octs v n).length = n := by simp [octs]
  rw [hl] at h1 ⊢
  unfold maxLen at h2
  have hb : Bytes (octs v n) := by
    intro z hz
    simp only [octs, List.mem_map] at hz
    obtain ⟨i, _, rfl⟩ := hz
    exact oct_byte v i
  exact ⟨a, cap, rfl, ⟨hl, hb, h1, by omega, h3, h4⟩, h5⟩
/-- Which messages may be. -/
def myM (m : Ms) (G : List (Int × Int)) : Bool := if m.k = 1 then my_ask m G else if m.k = 2 then my_offer m G else if m.k = 3 then my_data m G else if m.k = 4 then my_ack m G else my_no m G
/-- How many bytes a message's kind has; and which. -/
def lnM (m : Ms) : Nat := if m.k = 1 then 9 else if m.k = 2 then 15 else if m.k = 3 then 5 + m.dn else if m.k = 4 then 5 + 8 * m.rn else 2
def bdM (m : Ms) (G : List (Int × Int)) (D : List Int) : List Int := if m.k = 1 then by_ask m else if m.k = 2 then by_offer m else if m.k = 3 then by_data m D else if m.k = 4 then by_ack m G else by_no m
theorem lnM_le (m : Ms) (G : List (Int × Int)) (h : myM m G = true) : lnM m ≤ 1029 := by
  unfold lnM
  unfold myM at h
  by_cases k1 : m.k = 1
  · rw [if_pos k1]; omega
  · by_cases k2 : m.k = 2
    · rw [if_neg k1, if_pos k2]; omega
    · by_cases k3 : m.k = 3
      · rw [if_neg k1, if_neg k2, if_pos k3] at *
        have : wi (m.dn : Int) 1 1024 = true := by
          unfold my_data bn_data at h
          simp only [Bool.and_eq_true] at h
          exact h.2.2
        have := of_decide_eq_true this
        omega
      · by_cases k4 : m.k = 4
        · rw [if_neg k1, if_neg k2, if_neg k3, if_pos k4] at *
          have : decide (m.rn ≤ 4) = true := by
            unfold my_ack bn_ack at h
            simp only [Bool.and_eq_true] at h
            exact h.2.1.2
          have := of_decide_eq_true this
          omega
        · rw [if_neg k1, if_neg k2, if_neg k3, if_neg k4]; omega
theorem callFn {f : FuncId} {fn : Func} (hf : Try.prog.funcs[f]? = some fn) (hn : (fn.name == "runtime.NumGoroutine") = false) (hb : fn.body.isNone = false) (args : Array Value) (w : World) : (callFunc f args).run Try.prog w = .ok (.enter f args) w := by
  have h1 : fn.name ≠ "runtime.NumGoroutine" := by simpa using hn
  have h2 : fn.body ≠ none := by intro e; rw [e] at hb; cases hb
  simp [callFunc, hf, h1, h2]
/-- A kind as four functions, and what the second and the third one of its calls come to. -/
structure KdF (m : Ms) (G : List (Int × Int)) (D : List Int) (w0 : World) (a b c d : Nat) : Prop where
  v : kdV m.k = .agg #[fnv a, fnv b, fnv c, fnv d]
  may : ∀ w, Below w0.heap.size w0 w → Calls Try.prog 18 #[.agg #[fnv a, fnv b, fnv c, fnv d], m.V] w fun e w' => e = .returned (.bool (myM m G)) ∧ Below w.heap.size w w'
  cc : ∀ args w, (callFunc c args).run Try.prog w = .ok (.enter c args) w
  cd : ∀ args w, (callFunc d args).run Try.prog w = .ok (.enter d args) w
  put : myM m G = true → ∀ w, Below w0.heap.size w0 w → Calls Try.prog c #[m.V] w fun e w' => BP w (lnM m) (bdM m G D) e w'
theorem kdF_any (m : Ms) (G : List (Int × Int)) (D : List Int) (w0 : World) (hk : isKd m.k = true) (hm : MsM w0 m G D) : ∃ a b c d, KdF m G D w0 a b c d := by
  have hk' : 1 ≤ m.k ∧ m.k ≤ 5 := of_decide_eq_true hk
  by_cases k1 : m.k = 1
  ·
    have e1 : myM m G = my_ask m G := by unfold myM; rw [if_pos k1]
    have e2 : lnM m = 9 := by unfold lnM; rw [if_pos k1]
    have e3 : bdM m G D = by_ask m := by unfold bdM; rw [if_pos k1]
    have e4 : kdV m.k = kd_ask := by unfold kdV; rw [if_pos k1]
    refine ⟨54, 55, 58, 59, e4, fun w hw => ?_, callFn Try.func58 (by kernel_rfl) (by kernel_rfl), callFn Try.func59 (by kernel_rfl) (by kernel_rfl), fun hy w hw => ?_⟩
    · rw [e1]; exact may_ask m G D w (hm.old hw)
    · rw [e1] at hy
      rw [e2, e3]; exact put_ask m w hm.su
  ·
    by_cases k2 : m.k = 2
    ·
      have e1 : myM m G = my_offer m G := by unfold myM; rw [if_neg k1, if_pos k2]
      have e2 : lnM m = 15 := by unfold lnM; rw [if_neg k1, if_pos k2]
      have e3 : bdM m G D = by_offer m := by unfold bdM; rw [if_neg k1, if_pos k2]
      have e4 : kdV m.k = kd_offer := by unfold kdV; rw [if_neg k1, if_pos k2]
      refine ⟨60, 61, 62, 63, e4, fun w hw => ?_, callFn Try.func62 (by kernel_rfl) (by kernel_rfl), callFn Try.func63 (by kernel_rfl) (by kernel_rfl), fun hy w hw => ?_⟩
      · rw [e1]; exact may_offer m G D w (hm.old hw)
      · rw [e1] at hy
        rw [e2, e3]; exact put_offer m w hm.su
    ·
      by_cases k3 : m.k = 3
      ·
        have e1 : myM m G = my_data m G := by unfold myM; rw [if_neg k1, if_neg k2, if_pos k3]
        have e2 : lnM m = 5 + m.dn := by unfold lnM; rw [if_neg k1, if_neg k2, if_pos k3]
        have e3 : bdM m G D = by_data m D := by unfold bdM; rw [if_neg k1, if_neg k2, if_pos k3]
        have e4 : kdV m.k = kd_data := by unfold kdV; rw [if_neg k1, if_neg k2, if_pos k3]
        refine ⟨64, 65, 67, 68, e4, fun w hw => ?_, callFn Try.func67 (by kernel_rfl) (by kernel_rfl), callFn Try.func68 (by kernel_rfl) (by kernel_rfl), fun hy w hw => ?_⟩
        · rw [e1]; exact may_data m G D w (hm.old hw)
        · rw [e1] at hy
          have hd : wi (m.dn : Int) 1 1024 = true := by
            unfold my_data bn_data at hy
            simp only [Bool.and_eq_true] at hy
            exact hy.2.2
          have hd := of_decide_eq_true hd
          rw [e2, e3]; exact put_data m w D (hm.d.old hw) (by omega)
      ·
        by_cases k4 : m.k = 4
        ·
          have e1 : myM m G = my_ack m G := by unfold myM; rw [if_neg k1, if_neg k2, if_neg k3, if_pos k4]
          have e2 : lnM m = 5 + 8 * m.rn := by unfold lnM; rw [if_neg k1, if_neg k2, if_neg k3, if_pos k4]
          have e3 : bdM m G D = by_ack m G := by unfold bdM; rw [if_neg k1, if_neg k2, if_neg k3, if_pos k4]
          have e4 : kdV m.k = kd_ack := by unfold kdV; rw [if_neg k1, if_neg k2, if_neg k3, if_pos k4]
          refine ⟨70, 71, 73, 74, e4, fun w hw => ?_, callFn Try.func73 (by kernel_rfl) (by kernel_rfl), callFn Try.func74 (by kernel_rfl) (by kernel_rfl), fun hy w hw => ?_⟩
          · rw [e1]; exact may_ack m G D w (hm.old hw)
          · rw [e1] at hy
            have hd : decide (m.rn ≤ 4) = true := by
              unfold my_ack bn_ack at hy
              simp only [Bool.and_eq_true] at hy
              exact hy.2.1.2
            have hd := of_decide_eq_true hd
            rw [e2, e3]; exact put_ack m G w (hm.g.old hw) hm.gn hd
        ·
          have e1 : myM m G = my_no m G := by unfold myM; rw [if_neg k1, if_neg k2, if_neg k3, if_neg k4]
          have e2 : lnM m = 2 := by unfold lnM; rw [if_neg k1, if_neg k2, if_neg k3, if_neg k4]
          have e3 : bdM m G D = by_no m := by unfold bdM; rw [if_neg k1, if_neg k2, if_neg k3, if_neg k4]
          have e4 : kdV m.k = kd_no := by unfold kdV; rw [if_neg k1, if_neg k2, if_neg k3, if_neg k4, if_pos (by omega)]
          refine ⟨75, 76, 77, 78, e4, fun w hw => ?_, callFn Try.func77 (by kernel_rfl) (by kernel_rfl), callFn Try.func78 (by kernel_rfl) (by kernel_rfl), fun hy w hw => ?_⟩
          · rw [e1]; exact may_no m G D w (hm.old hw)
          · rw [e1] at hy
            rw [e2, e3]; exact put_no m w
end Go.Proofs.Ytaibojmaghmfnaa
