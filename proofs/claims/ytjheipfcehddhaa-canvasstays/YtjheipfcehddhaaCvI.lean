/- Where a pixel's colour is looked for: cuts, places. -/
import Derived.Test.YtjheipfcehddhaaCvG
import Derived.Test.YtjheipfcehddhaaStY
namespace Go.Proofs.Ytjheipfcehddhaa
open Go.RowKit
attribute [local go_sem] Oper.semAt_some
/-- How many lowest bits of a place are made 0, one way behind the other. -/
def cuL (b : Bool) : List (Nat × Nat) := if b then [(0, 0), (0, 1), (0, 2), (0, 3)] else [(0, 0), (1, 0), (1, 1), (2, 1), (2, 2), (3, 2), (3, 3)]
def cuA (L : List (Nat × Nat)) : Array Value := (L.flatMap fun q => [Value.int .i64 q.1, .int .i64 q.2]).toArray
def cuX (L : List (Nat × Nat)) (i : Nat) : Nat × Nat := L[i]?.getD (0, 0)
theorem cuA_at (L : List (Nat × Nat)) (i : Nat) (hi : i < L.length) : (cuA L)[i * 2]? = some (.int .i64 (cuX L i).1) ∧ (cuA L)[i * 2 + 1]? = some (.int .i64 (cuX L i).2) := by
  unfold cuA cuX
  rw [List.getElem?_toArray, List.getElem?_toArray]
  induction L generalizing i with
  | nil => simp at hi
  | cons q r ih =>
    rw [List.flatMap_cons]
    cases i with
    | zero => simp
    | succ i =>
      have := ih i (by simpa using hi)
      rw [List.getElem?_append_right (by simp; omega), List.getElem?_append_right (by simp; omega)]
      simp only [List.length_cons, List.length_nil, List.getElem?_cons_succ]
      rw [show (i + 1) * 2 - (0 + 1 + 1) = i * 2 by omega, show (i + 1) * 2 + 1 - (0 + 1 + 1) = i * 2 + 1 by omega]
      exact this
theorem cuL_le (b : Bool) (i : Nat) : (cuX (cuL b) i).1 ≤ 3 ∧ (cuX (cuL b) i).2 ≤ 3 := by
  by_cases h : i < 7
  · cases b
    · match i, h with
      | 0, _ | 1, _ | 2, _ | 3, _ | 4, _ | 5, _ | 6, _ => decide
    · match i, h with
      | 0, _ | 1, _ | 2, _ | 3, _ | 4, _ | 5, _ | 6, _ => decide
  · unfold cuX cuL
    cases b <;> rw [List.getElem?_eq_none (by simp; omega)] <;> simp
set_option maxHeartbeats 400000 in
theorem cuts_any (b : Bool) (w : World) : Calls Try.prog 32 #[.bool b] w fun e w' => e = .returned (.slice (some ⟨w.heap.size, 0, none⟩) (cuL b).length (cuL b).length) ∧ w' = w.alloc (.cells (cuA (cuL b)) 85) := by
  cases b with
  | false =>
    go_enter Try.func32, Try.ntmps32
    go_wp2
    go_ret
    exact ⟨rfl, rfl⟩
  | true =>
    go_enter Try.func32, Try.ntmps32
    go_wp2
    go_ret
    exact ⟨rfl, rfl⟩
/-- The three boxes and the cuts of a closure. -/
structure Bp (w : World) (s : Nat) (x y : Int) (cb : Nat) (L : List (Nat × Nat)) : Prop where
  b0 : w.heap[s]? = some (.cells #[.int .i64 x] 3 (0, 0))
  b1 : w.heap[s + 1]? = some (.cells #[.int .i64 y] 3 (0, 0))
  b2 : w.heap[s + 2]? = some (.cells #[.slice (some ⟨cb, 0, none⟩) L.length L.length] 71 (0, 0))
  ct : w.heap[cb]? = some (.cells (cuA L) 85 (0, 0))
theorem Bp.same {w w' : World} {s : Nat} {x y : Int} {cb : Nat} {L : List (Nat × Nat)} (h : Bp w s x y cb L) (hk : ∀ (k : Nat) (c : Array Value) t f, w.heap[k]? = some (.cells c t f) → (t = 3 ∨ t = 71 ∨ t = 85) → w'.heap[k]? = some (.cells c t f)) : Bp w' s x y cb L :=
  ⟨hk _ _ _ _ h.b0 (.inl rfl), hk _ _ _ _ h.b1 (.inl rfl), hk _ _ _ _ h.b2 (.inr (.inl rfl)), hk _ _ _ _ h.ct (.inr (.inr rfl))⟩
theorem Bp.old {w w' : World} {s : Nat} {x y : Int} {cb : Nat} {L : List (Nat × Nat)} (h : Bp w s x y cb L) (hb : Below w.heap.size w w') : Bp w' s x y cb L :=
  h.same fun k _ _ _ hk _ => (hb.block k (lt_of_block hk)).trans hk
theorem Bp.cells {w : World} {s : Nat} {x y : Int} {cb : Nat} {L : List (Nat × Nat)} (h : Bp w s x y cb L) : w.cell? ⟨s, 0, none⟩ = some (.int .i64 x) ∧ w.cell? ⟨s + 1, 0, none⟩ = some (.int .i64 y) ∧ w.cell? ⟨s + 2, 0, none⟩ = some (.slice (some ⟨cb, 0, none⟩) L.length L.length) := by
  refine ⟨?_, ?_, ?_⟩
  · simp [World.cell?, h.b0]
  · simp [World.cell?, h.b1]
  · simp [World.cell?, h.b2]
theorem Bp.cut {w : World} {s : Nat} {x y : Int} {cb : Nat} {L : List (Nat × Nat)} (h : Bp w s x y cb L) {i : Nat} (hi : i < L.length) : w.cell? ⟨cb, i * 2, none⟩ = some (.int .i64 (cuX L i).1) ∧ w.cell? ⟨cb, i * 2 + 1, none⟩ = some (.int .i64 (cuX L i).2) := by
  obtain ⟨h0, h1⟩ := cuA_at L i hi
  simp [World.cell?, h.ct, h0, h1]
def bpW (w : World) (x y : Int) (v : Value) : World := ((w.alloc (.cells #[.int .i64 x] 3)).alloc (.cells #[.int .i64 y] 3)).alloc (.cells #[v] 71)
def bpF (s : Nat) : Value := .func (.func 41) #[] #[.pointer (some ⟨s + 2, 0, none⟩), .pointer (some ⟨s, 0, none⟩), .pointer (some ⟨s + 1, 0, none⟩)]
set_option maxHeartbeats 400000 in
theorem places_any (x y : Int) (a : Option Addr) (n c : Nat) (w : World) : Calls Try.prog 33 #[.int .i64 x, .int .i64 y, .slice a n c] w fun e w' => e = .returned (bpF w.heap.size) ∧ w' = bpW w x y (.slice a n c) := by
  go_enter Try.func33, Try.ntmps33
  go_wp2
  go_ret
  exact ⟨rfl, rfl⟩
theorem below_bpW (w : World) (x y : Int) (v : Value) : Below w.heap.size w (bpW w x y v) := (((Below.refl _ w).alloc (Nat.le_refl _) _).alloc (by simp) _).alloc (by simp; omega) _
theorem size_bpW (w : World) (x y : Int) (v : Value) : (bpW w x y v).heap.size = w.heap.size + 3 := by simp [bpW]
theorem Bp.new {w : World} {x y : Int} {cb : Nat} {L : List (Nat × Nat)} (h : w.heap[cb]? = some (.cells (cuA L) 85 (0, 0))) : Bp (bpW w x y (.slice (some ⟨cb, 0, none⟩) L.length L.length)) w.heap.size x y cb L := by
  refine ⟨?_, ?_, ?_, ((below_bpW w x y _).block cb (lt_of_block h)).trans h⟩
  · unfold bpW
    rw [Below.heap_alloc _ _ _ (by simp; omega), Below.heap_alloc _ _ _ (by simp)]; exact World.alloc_heap_new w _
  · unfold bpW
    rw [Below.heap_alloc _ _ _ (by simp)]; have := World.alloc_heap_new (w.alloc (.cells #[.int .i64 x] 3)) (.cells #[.int .i64 y] 3); rwa [World.size_alloc] at this
  · unfold bpW
    have := World.alloc_heap_new ((w.alloc (.cells #[.int .i64 x] 3)).alloc (.cells #[.int .i64 y] 3)) (.cells #[.slice (some ⟨cb, 0, none⟩) L.length L.length] 71); rwa [World.size_alloc, World.size_alloc] at this
def lowN (n : Nat) (v : Int) : Int := v / 2 ^ n * 2 ^ n
def plE (L : List (Nat × Nat)) (x y : Int) (i : Nat) : Array Value := #[.int .i64 (lowN (cuX L i).1 x), .int .i64 (lowN (cuX L i).2 y)]
theorem lowN_bd {n : Nat} {v : Int} (h0 : 0 ≤ v) : 0 ≤ lowN n v ∧ lowN n v ≤ v := by
  unfold lowN
  have hp : (0 : Int) < 2 ^ n := Int.pow_pos (by omega)
  have h1 : 0 ≤ v / 2 ^ n := Int.ediv_nonneg h0 (by omega)
  exact ⟨Int.mul_nonneg h1 (by omega), Int.ediv_mul_le _ (by omega)⟩
theorem lowN_wrap {n : Nat} {v : Int} (h0 : 0 ≤ v) (h1 : v ≤ 65536) : IntKind.i64.wrap (v / 2 ^ n * 2 ^ n) = lowN n v := by
  have := lowN_bd (n := n) h0
  unfold lowN at this ⊢
  rw [IntKind.wrap_i64]; omega
set_option maxHeartbeats 1600000 in
set_option maxRecDepth 20000 in
theorem places_iter (s cb : Nat) (x y : Int) (L : List (Nat × Nat)) (hL : ∀ i, (cuX L i).1 ≤ 3 ∧ (cuX L i).2 ≤ 3) (hl : L.length ≤ 7) (hx : 0 ≤ x ∧ x ≤ 65536) (hy : 0 ≤ y ∧ y ≤ 65536) : IxIter Try.prog 41 #[.pointer (some ⟨s + 2, 0, none⟩), .pointer (some ⟨s, 0, none⟩), .pointer (some ⟨s + 1, 0, none⟩)] (plE L x y) (fun w => Bp w s x y cb L) L.length := by
  intro l J Dn W0 hJ hJb h0 hY
  obtain ⟨k0, k1, k2⟩ := (hJ 0 W0 h0).cells
  have HJ : Hid ((∀ k W1, J k W1 → Bp W1 s x y cb L) ∧ (∀ k W1 W2, J k W1 → Below W1.heap.size W1 W2 → J k W2) ∧ ∀ i, (cuX L i).1 ≤ 3 ∧ (cuX L i).2 ≤ 3) := ⟨hJ, hJb, hL⟩
  have H0 : Hid (J 0 W0) := h0
  have HY : Hid (∀ (i : Nat) W1, i < L.length → J i W1 → YieldAt Fence.wide 3 Try.prog l (plE L x y i) W1 fun e W2 => ∃ b : Bool, e = .returned (.bool b) ∧ (b = true → J (i + 1) W2) ∧ (b = false → Dn W2)) := hY
  clear hJ hJb hL h0 hY
  show Calls Try.prog 41 #[.func (.yield l) #[] #[], .pointer (some ⟨s + 2, 0, none⟩), .pointer (some ⟨s, 0, none⟩), .pointer (some ⟨s + 1, 0, none⟩)] W0 _
  go_enter Try.func41, Try.ntmps41
  go_wp2
  go_loopw [6, 9] (fun _ v wr => ∃ i : Nat, i ≤ L.length ∧ v = .int .i64 i ∧ Hid (J i wr)) (fun _ v _ => L.length - (intOf v).toNat)
  case atStart => exact ⟨0, Nat.zero_le _, rfl, H0⟩
  case round =>
    clear H0 k0 k1 k2
    obtain ⟨i, hi, rfl, HJr⟩ := hrel
    by_cases hlt : i < L.length
    · obtain ⟨c0, c1⟩ := (HJ.out.1 _ _ HJr.out).cut hlt
      have hcu := HJ.out.2.2 i
      have HYi : Hid (∀ w1, Below wr.heap.size wr w1 → YieldAt Fence.wide 3 Try.prog l #[.int .i64 (lowN (cuX L i).1 x), .int .i64 (lowN (cuX L i).2 y)] w1 fun e W2 => ∃ b : Bool, e = .returned (.bool b) ∧ (b = true → J (i + 1) W2) ∧ (b = false → Dn W2)) := fun w1 hb => HY.out i w1 hlt (HJ.out.2.1 _ _ _ HJr.out hb)
      generalize (cuX L i).1 = A at *
      generalize (cuX L i).2 = B at *
      go_upto_region 3 with fail
      obtain ⟨m0, m1⟩ := two_new wr (.int .i64 A) (.int .i64 B) 85
      have HB2 : Hid (Below wr.heap.size wr (wr.alloc (.cells #[.int .i64 A, .int .i64 B] 85))) := below_new _ _
      have HJ2 : Hid (J i (wr.alloc (.cells #[.int .i64 A, .int .i64 B] 85))) := HJ.out.2.1 _ _ _ HJr.out HB2.out
      generalize wr.alloc (.cells #[.int .i64 A, .int .i64 B] 85) = w2 at *
      obtain ⟨k0, k1, k2⟩ := (HJ.out.1 _ _ HJ2.out).cells
      clear c0 c1 HJr
      have hA : (0 : Int) ≤ A ∧ (A : Int) ≤ 3 := by omega
      have hB : (0 : Int) ≤ B ∧ (B : Int) ≤ 3 := by omega
      refine wp_region_still_yield 15 (by kernel_rfl) (by kernel_rfl) (by kernel_rfl) ?_
      simp only [List.take_succ_cons, List.take_zero, List.drop_succ_cons, List.drop_zero]
      have hwx := lowN_wrap (n := A) hx.1 hx.2
      have hwy := lowN_wrap (n := B) hy.1 hy.2
      generalize lowN A x = X at *
      generalize lowN B y = Y at *
      repeat still_step
      refine wpStill_nil ?_
      obtain ⟨fn, tmps, assign, body, hyd, hR⟩ := HYi.out w2.drew (HB2.out.trans ⟨rfl, rfl, rfl, Nat.le_refl _, fun _ _ => rfl⟩)
      have HRd : Hid (RoundIn Fence.wide 3 Try.prog l fn tmps assign body w2.drew fun e W2 => ∃ b : Bool, e = .returned (.bool b) ∧ (b = true → J (i + 1) W2) ∧ (b = false → Dn W2)) := hR
      clear hR HYi HJ2 k0 k1 k2 m0 m1
      gi_wp2_with fail
      refine HRd.out.mono ?_
      rintro e w4 ⟨b, rfl, hb1, hb2⟩
      clear HRd hyd
      cases b with
      | false =>
        have HD : Hid (Dn w4) := hb2 rfl
        clear hb1 hb2
        gi_wp2
        go_wp2
        exact bodyPost_ret (results_none rfl _ _ _) rfl ⟨⟨_, rfl⟩, .inr HD.out⟩
      | true =>
        have HJ4 : Hid (J (i + 1) w4) := hb1 rfl
        clear hb1 hb2
        gi_wp2
        go_wp2
        go_roundw
        case rel => exact ⟨i + 1, hlt, by go_num, HJ4⟩
        case measure => simp [intOf]; omega
    · obtain rfl : i = L.length := by omega
      go_wp2
      go_end0
      exact ⟨⟨_, rfl⟩, .inl HJr.out⟩
end Go.Proofs.Ytjheipfcehddhaa
