/- Small blocks, made: the parts that are told. -/
import Derived.Test.YtkfokfjmdkondaaBk4
namespace Go.Proofs.Ytkfokfjmdkondaa
open Go.RowKit
attribute [local go_sem] Oper.semAt_some
/-- Blocks of so many bytes, without the end; the first number: no more blocks than that. -/
def bpkF (n : Nat) : Nat → List Int → List Int
  | 0, _ => []
  | _ + 1, [] => []
  | f + 1, x :: xs => ((min n (x :: xs).length : Nat) : Int) :: ((x :: xs).take n ++ bpkF n f ((x :: xs).drop n))
def bpk (n : Nat) (bs : List Int) : List Int := bpkF n bs.length bs
theorem bpkF_eq {n : Nat} (hn : 1 ≤ n) : ∀ (f g : Nat) (bs : List Int), bs.length ≤ f → bs.length ≤ g → bpkF n f bs = bpkF n g bs
  | 0, g, bs, h1, _ => by
    obtain rfl : bs = [] := List.length_eq_zero_iff.1 (by omega)
    cases g <;> rfl
  | f + 1, 0, bs, _, h2 => by
    obtain rfl : bs = [] := List.length_eq_zero_iff.1 (by omega)
    rfl
  | f + 1, g + 1, [], _, _ => rfl
  | f + 1, g + 1, x :: xs, h1, h2 => by
    simp only [bpkF]
    rw [bpkF_eq hn f g ((x :: xs).drop n) (by simp only [List.length_drop, List.length_cons] at *; omega) (by simp only [List.length_drop, List.length_cons] at *; omega)]
theorem bpk_nil (n : Nat) : bpk n [] = [] := rfl
theorem bpk_step {n : Nat} (hn : 1 ≤ n) {bs : List Int} (h : bs ≠ []) : bpk n bs = ((min n bs.length : Nat) : Int) :: (bs.take n ++ bpk n (bs.drop n)) := by
  cases bs with
  | nil => exact absurd rfl h
  | cons x xs =>
    unfold bpk
    rw [List.length_cons, bpkF]
    rw [bpkF_eq hn xs.length ((x :: xs).drop n).length _ (by simp only [List.length_drop, List.length_cons]; omega) (Nat.le_refl _), List.length_cons]
theorem bpkF_len {n : Nat} (hn : 1 ≤ n) : ∀ (f : Nat) (bs : List Int), (bpkF n f bs).length ≤ 2 * bs.length
  | 0, _ => by simp [bpkF]
  | _ + 1, [] => by simp [bpkF]
  | f + 1, x :: xs => by
    have := bpkF_len hn f ((x :: xs).drop n)
    simp only [bpkF, List.length_cons, List.length_append, List.length_take, List.length_drop] at *
    omega
theorem bpk_len {n : Nat} (hn : 1 ≤ n) (bs : List Int) : (bpk n bs).length ≤ 2 * bs.length := bpkF_len hn _ _
set_option maxHeartbeats 400000 in
theorem cut_any (av : Option Addr) (m c : Nat) (n : Int) (w : World) : Calls Try.prog 18 #[.slice av m c, .int .i64 n] w fun e w' =>
    e = .returned (.func (.func 21) #[] #[.pointer (some ⟨w.heap.size, 0, none⟩), .pointer (some ⟨w.heap.size + 1, 0, none⟩)]) ∧ w' = (w.alloc (.cells #[.slice av m c] 26)).alloc (.cells #[.int .i64 n] 3) := by
  go_enter Try.func18, Try.ntmps18
  go_wp2
  go_ret
  exact ⟨rfl, rfl⟩
structure CtRel (w : World) (n : Nat) (bs : List Int) (vb : Value) (bb bn : Nat) (J : List Int → World → Prop) (t : Nat) (T : List Int) (wr : World) : Prop where
  tle : t ≤ bs.length + 255
  told : T.length + 2 * (bs.length - t) ≤ 2 * bs.length
  j : J T wr
  go : bpk n bs = T ++ bpk n (bs.drop t)
  be : Below w.heap.size w wr
  bb : wr.heap[bb]? = some (.cells #[vb] 26 (0, 0))
  bn : wr.heap[bn]? = some (.cells #[.int .i64 n] 3 (0, 0))
theorem CtRel.part {w : World} {n : Nat} {bs : List Int} {vb : Value} {bb bn : Nat} {J : List Int → World → Prop} {t : Nat} {T : List Int} {wr : World} (h : CtRel w n bs vb bb bn J t T wr) (hn : 1 ≤ n) (hn2 : n ≤ 255) (ht : t < bs.length) {w7 : World} {N : Nat} (hN : min n (bs.length - t) = N)
    (hj : J (T ++ (N : Int) :: (bs.drop t).take N) w7) (hb : Below w.heap.size wr w7) (h1 : w7.heap[bb]? = wr.heap[bb]?) (h2 : w7.heap[bn]? = wr.heap[bn]?) : CtRel w n bs vb bb bn J (t + n) (T ++ (N : Int) :: (bs.drop t).take N) w7 := by
  have htk : (bs.drop t).take N = (bs.drop t).take n := by
    rw [← hN]
    rcases Nat.le_total n (bs.length - t) with h | h
    · rw [Nat.min_eq_left h]
    · rw [Nat.min_eq_right h, List.take_of_length_le (by rw [List.length_drop]; omega), List.take_of_length_le (by rw [List.length_drop]; omega)]
  refine ⟨by omega, ?_, hj, ?_, h.be.trans hb, h1.trans h.bb, h2.trans h.bn⟩
  · have := h.told
    rw [List.length_append, List.length_cons, List.length_take, List.length_drop]; omega
  · have hne : bs.drop t ≠ [] := by intro e; rw [List.drop_eq_nil_iff] at e; omega
    rw [h.go, bpk_step hn hne, List.length_drop, hN, List.drop_drop, htk]
    simp
set_option maxHeartbeats 1600000 in
set_option maxRecDepth 100000 in
theorem cut1_any (w : World) (n : Nat) (bs : List Int) (av : Option Addr) (m c bb bn l : Nat) (W0 : World) (J : List Int → World → Prop)
    (hY : ∀ T W a' k c' part, J T W → Below w.heap.size w W → part.length = k → k ≤ 255 → (a' = none → c' = 0) → Row w a' part → T.length + k + 1 ≤ 2 * bs.length → YieldAt Fence.wide 3 Try.prog l #[.slice a' k c'] W fun e W' => e = .returned (.bool true) ∧ J (T ++ (k : Int) :: part) W' ∧ Below w.heap.size W W' ∧ W'.heap[bb]? = W.heap[bb]? ∧ W'.heap[bn]? = W.heap[bn]?)
    (hbb : W0.heap[bb]? = some (.cells #[.slice av m c] 26 (0, 0))) (hbn : W0.heap[bn]? = some (.cells #[.int .i64 n] 3 (0, 0)))
    (hb0 : Below w.heap.size w W0) (hn : 1 ≤ n) (hn2 : n ≤ 255) (hm : bs.length = m) (hmc : m ≤ c) (hcm : c ≤ 9223372036854775807) (hml : m ≤ 140737488351232) (hrow : Row w av bs) (h0 : J [] W0) :
    Calls Try.prog 21 #[.func (.yield l) #[] #[], .pointer (some ⟨bb, 0, none⟩), .pointer (some ⟨bn, 0, none⟩)] W0 fun e W' => (∃ v, e = .returned v) ∧ J (bpk n bs) W' ∧ Below w.heap.size w W' := by
  have HS : Hid (CtRel w n bs (.slice av m c) bb bn J 0 [] W0) := ⟨by omega, by simp, h0, by simp, hb0, hbb, hbn⟩
  have HY : Hid (∀ T W a' k c' part, J T W → Below w.heap.size w W → part.length = k → k ≤ 255 → (a' = none → c' = 0) → Row w a' part → T.length + k + 1 ≤ 2 * bs.length → YieldAt Fence.wide 3 Try.prog l #[.slice a' k c'] W fun e W' => e = .returned (.bool true) ∧ J (T ++ (k : Int) :: part) W' ∧ Below w.heap.size W W' ∧ W'.heap[bb]? = W.heap[bb]? ∧ W'.heap[bn]? = W.heap[bn]?) := hY
  have HW : Hid (Row w av bs ∧ bs.length = m ∧ m ≤ c) := ⟨hrow, hm, hmc⟩
  clear hY hbb hbn hb0 hrow h0 hm
  go_enter Try.func21, Try.ntmps21
  go_wp2
  go_loopw [4] (fun v wr => ∃ (t : Nat) (T : List Int), v = .int .i64 t ∧ Hid (CtRel w n bs (.slice av m c) bb bn J t T wr)) (fun v _ => bs.length + 255 - (intOf v).toNat)
  case atStart => exact ⟨0, [], rfl, HS.out⟩
  case round =>
    clear HS
    obtain ⟨t, T, rfl, HR⟩ := hrel
    obtain ⟨k1, f1⟩ := one_cell HR.out.bb
    obtain ⟨k2, f2⟩ := one_cell HR.out.bn
    have htl := HR.out.tle
    have hm := HW.out.2.1
    by_cases ht : t < m
    · have hne : bs.drop t ≠ [] := by intro e; rw [List.drop_eq_nil_iff] at e; omega
      obtain ⟨b, off, rfl⟩ : ∃ b off, av = some ⟨b, off, none⟩ := by
        rcases HW.out.1 with h | ⟨b, off, h, _⟩
        · rw [h] at hne; simp at hne
        · exact ⟨b, off, h⟩
      obtain ⟨N, hN⟩ : ∃ N, min n (bs.length - t) = N := ⟨_, rfl⟩
      have hrow2 : Row w (some ⟨b, off + t, none⟩) ((bs.drop t).take N) := by
        have := HW.out.1.cut t c (by omega) (by omega)
        rw [if_neg (by omega), Option.map_some, Addr.add_lit] at this
        exact this.take N
      have hy0 := HY.out T wr (some ⟨b, off + t, none⟩) N (c - t) ((bs.drop t).take N) HR.out.j HR.out.be (by rw [List.length_take, List.length_drop]; omega) (by omega) (by intro h; cases h) hrow2 (by have := HR.out.told; omega)
      have HN : Hid (∀ w7, J (T ++ (N : Int) :: (bs.drop t).take N) w7 → Below w.heap.size wr w7 → w7.heap[bb]? = wr.heap[bb]? → w7.heap[bn]? = wr.heap[bn]? → CtRel w n bs (.slice (some ⟨b, off, none⟩) m c) bb bn J (t + n) (T ++ (N : Int) :: (bs.drop t).take N) w7) :=
        fun w7 h1 h2 h3 h4 => HR.out.part hn hn2 (by omega) hN h1 h2 h3 h4
      obtain ⟨fn, tmps, assign, body, hy, hR⟩ := hy0
      have HRd : Hid (RoundIn Fence.wide 3 Try.prog l fn tmps assign body wr fun e W' => e = .returned (.bool true) ∧ J (T ++ (N : Int) :: (bs.drop t).take N) W' ∧ Below w.heap.size wr W' ∧ W'.heap[bb]? = wr.heap[bb]? ∧ W'.heap[bn]? = wr.heap[bn]?) := hR
      have HMm : Hid (bs.length = m) := hm
      rw [hm] at hN htl
      clear hrow2 hR hne hm
      have htc : t ≤ c := by omega
      have htci : ¬ (c : Int) = t := by omega
      by_cases hle : t + n ≤ m
      · obtain rfl : N = n := by omega
        have i1 : (t : Int) + (N : Int) ≤ (m : Int) := by omega
        have i2 : ¬ (m : Int) < (t : Int) + (N : Int) := by omega
        have i3 : (t : Int) + (N : Int) ≤ (c : Int) := by omega
        have i4 : t + N - t = N := by omega
        clear hN
        go_upto_region 3 with fail
        refine wp_region_yield ?_
        gi_wp2
        refine HRd.out.mono ?_
        rintro e w7 ⟨rfl, h1, h2, h3, h4⟩
        have HN2 : Hid (_) := HN.out w7 h1 h2 h3 h4
        have k2' := (one_cell HN2.out.bn).1
        clear h1 h2 h3 h4 HN HRd hy
        gi_wp2
        go_wp2
        go_roundw
        case rel => exact ⟨t + N, _, by rw [Int.natCast_add], HN2.out⟩
        case measure => simp [intOf]; have := HMm.out; omega
      · obtain rfl : N = m - t := by omega
        have i2 : (m : Int) < (t : Int) + (n : Int) := by omega
        have i3 : (m : Int) ≤ (c : Int) := by omega
        have i4 : (t : Int) ≤ (m : Int) := by omega
        clear hN
        go_upto_region 3 with fail
        refine wp_region_yield ?_
        gi_wp2
        refine HRd.out.mono ?_
        rintro e w7 ⟨rfl, h1, h2, h3, h4⟩
        have HN2 : Hid (_) := HN.out w7 h1 h2 h3 h4
        have k2' := (one_cell HN2.out.bn).1
        clear h1 h2 h3 h4 HN HRd hy
        gi_wp2
        go_wp2
        go_roundw
        case rel => exact ⟨t + n, _, by rw [Int.natCast_add], HN2.out⟩
        case measure => simp [intOf]; have := HMm.out; omega
    · have hd : bs.drop t = [] := by rw [List.drop_eq_nil_iff]; omega
      have HP : Hid (J (bpk n bs) wr ∧ Below w.heap.size w wr) := by
        have h1 := HR.out.go
        rw [hd, bpk_nil, List.append_nil] at h1
        rw [h1]
        exact ⟨HR.out.j, HR.out.be⟩
      clear HR hd
      rw [hm] at htl
      clear hm
      go_wp2
      go_end0
      exact ⟨⟨_, rfl⟩, HP.out⟩
end Go.Proofs.Ytkfokfjmdkondaa
