/- LZW, the document's: the width; the table of texts in memory. -/
import Derived.Test.YtcbmlioeeoghkaaLzOa
import Derived.Test.YtcbmlioeeoghkaaLzBk
import Derived.Test.YtcbmlioeeoghkaaLzY
namespace Go.Proofs.Ytcbmlioeeoghkaa
open Go.RowKit
set_option maxHeartbeats 1600000 in
theorem rwidth_any {L n : Nat} (h : 2 ≤ L ∧ L ≤ 8) (w : World) : Calls Try.prog 27 #[.int .i64 L, .int .i64 n] w fun e w' => e = .returned (.int .i64 (widN L n : Int)) ∧ w' = w := by
  obtain ⟨h1, h2⟩ := h
  have HW : Hid (widG (L + 1) n = widN L n) := rfl
  go_enter Try.func27, Try.ntmps27
  go_wp2
  go_loopw [5, 8, 9, 10, 11, 12, 13, 14, 15, 16, 17, 18] (fun v _ _ _ _ _ _ _ _ _ _ _ wr => ∃ x : Nat, L + 1 ≤ x ∧ x ≤ 12 ∧ v = .int .i64 (x : Int) ∧ Hid (widG x n = widN L n) ∧ wr = w) (fun v _ _ _ _ _ _ _ _ _ _ _ _ => 12 - (intOf v).toNat)
  case atStart => exact ⟨L + 1, Nat.le_refl _, by omega, by go_num, HW, rfl⟩
  case round =>
    clear HW
    obtain ⟨x, hx1, hx2, rfl, HX, rfl⟩ := hrel
    by_cases h12 : x < 12
    · have h12i : (x : Int) < 12 := by omega
      obtain ⟨T, hT⟩ : ∃ T : Nat, 2 ^ x = T := ⟨_, rfl⟩
      have hTb : T ≤ 4096 := by
        have : 2 ^ x ≤ 2 ^ 12 := Nat.pow_le_pow_right (by omega) hx2
        omega
      have hTi : ((2 : Int) ^ x) = (T : Int) := by rw [← hT]; simp
      have hxt : (x : Int).toNat = x := by simp
      by_cases hle : T ≤ n
      · have HX2 : Hid (widG (x + 1) n = widN L n) := by
          have := HX.out; rw [widG_eq, if_pos ⟨h12, by rw [hT]; exact hle⟩] at this; exact this
        have hleI : (T : Int) ≤ (n : Int) := by omega
        have hlen : ¬ (n : Int) < (T : Int) := by omega
        clear HX hT
        go_wp2
        go_roundw
        case rel => exact ⟨x + 1, by omega, by omega, by go_num, HX2, trivial⟩
        case measure => simp [intOf]; omega
      · have HE : Hid (x = widN L n) := by
          have := HX.out; rw [widG_eq, if_neg (fun hh => hle (by rw [← hT]; exact hh.2))] at this; exact this
        have hleI : ¬ (T : Int) ≤ (n : Int) := by omega
        clear HX hT
        go_wp2
        go_ret
        exact ⟨by rw [← HE.out]; rfl, rfl⟩
    · have HE : Hid (x = widN L n) := by
        have := HX.out; rw [widG_eq, if_neg (fun hh => h12 hh.1)] at this; exact this
      obtain rfl : x = 12 := by omega
      go_wp2
      go_ret
      exact ⟨by rw [← HE.out]; rfl, rfl⟩
/-- A table of texts in memory: text c is f c; og: a block that it is not. -/
structure TbM (B : Nat) (w : World) (tv : Value) (tg og : Option Nat) (n : Nat) (f : Nat → List Int) : Prop where
  sl : ∃ vs, Sl w 22 tv tg vs ∧ vs.length = n ∧ ∀ i, i < n → ∃ k off m c, vs[i]? = some (.slice (some ⟨k, off, none⟩) m c) ∧ (f i).length = m ∧ 1 ≤ m ∧ m ≤ c ∧ c ≤ 9223372036854775807 ∧ Row w (some ⟨k, off, none⟩) (f i) ∧ (∃ cur, w.heap[k]? = some (.cells cur 5 (0, 0))) ∧ some k ≠ og ∧ B ≤ k
  tn : ∀ k, tg = some k → B ≤ k
section
variable {B : Nat} {w w' : World} {tv : Value} {tg og : Option Nat} {n : Nat} {f : Nat → List Int}
/-- Its blocks stay. -/
theorem TbM.keep {og' : Option Nat} (h : TbM B w tv tg og n f) (hk : ∀ k, k < w.heap.size → some k ≠ og → w'.heap[k]? = w.heap[k]?) (hg : tg = none ∨ tg ≠ og) (ho : og' = og ∨ ∃ j, og' = some j ∧ w.heap.size ≤ j) : TbM B w' tv tg og' n f := by
  obtain ⟨vs, h1, h2, h3⟩ := h.sl
  refine ⟨⟨vs, h1.same fun k hk' => hk k (h1.lt hk') (fun e => by rcases hg with hg | hg; rw [hg] at hk'; cases hk'; exact hg (by rw [hk', e])), h2, fun i hi => ?_⟩, h.tn⟩
  obtain ⟨k, off, m, c, e1, e2, e3, e4, e5, e6, ⟨cur, e7⟩, e8, e9⟩ := h3 i hi
  have hkk := hk k (lt_of_block e7) e8
  refine ⟨k, off, m, c, e1, e2, e3, e4, e5, e6.same fun x hx _ => ?_, ⟨cur, hkk.trans e7⟩, ?_, e9⟩
  · cases hx; exact hkk
  · rcases ho with rfl | ⟨j, rfl, hj⟩
    · exact e8
    · intro e; cases e; have := lt_of_block e7; omega
theorem TbM.old (h : TbM B w tv tg og n f) (hb : Below w.heap.size w w') : TbM B w' tv tg og n f := by
  obtain ⟨vs, h1, h2, h3⟩ := h.sl
  refine ⟨⟨vs, h1.same fun k hk' => hb.block k (h1.lt hk'), h2, fun i hi => ?_⟩, h.tn⟩
  obtain ⟨k, off, m, c, e1, e2, e3, e4, e5, e6, ⟨cur, e7⟩, e8, e9⟩ := h3 i hi
  exact ⟨k, off, m, c, e1, e2, e3, e4, e5, e6.old hb, ⟨cur, (hb.block k (lt_of_block e7)).trans e7⟩, e8, e9⟩
theorem TbM.take {a : Option Addr} {c : Nat} (h : TbM B w (.slice a n c) tg og n f) (m : Nat) (hm : m ≤ n) (h1 : 1 ≤ n) : TbM B w (.slice a m c) tg og m f := by
  obtain ⟨vs, h2, h3, h4⟩ := h.sl
  have ha : ∃ b off, a = some ⟨b, off, none⟩ := by
    rcases h2 with ⟨e, _, e2⟩ | ⟨b, off, cap, cur, e, _⟩
    · rw [e2] at h3; simp at h3; omega
    · simp at e; exact ⟨b, off, e.1⟩
  obtain ⟨b, off, rfl⟩ := ha
  refine ⟨⟨vs.take m, h2.take m (by omega), by rw [List.length_take]; omega, fun i hi => ?_⟩, h.tn⟩
  obtain ⟨k, off', m', c', e1, e2⟩ := h4 i (by omega)
  exact ⟨k, off', m', c', by rw [List.getElem?_take_of_lt hi]; exact e1, e2⟩
theorem TbM.congr {f' : Nat → List Int} (h : TbM B w tv tg og n f) (he : ∀ i, i < n → f i = f' i) : TbM B w tv tg og n f' := by
  obtain ⟨vs, h2, h3, h4⟩ := h.sl
  exact ⟨⟨vs, h2, h3, fun i hi => by rw [← he i hi]; exact h4 i hi⟩, h.tn⟩
/-- One text of it. -/
theorem TbM.at {a : Option Addr} {cp : Nat} (h : TbM B w (.slice a n cp) tg og n f) (i : Nat) (hi : i < n) : ∃ tb toff k off m c, a = some ⟨tb, toff, none⟩ ∧ w.cell? ⟨tb, toff + i, none⟩ = some (.slice (some ⟨k, off, none⟩) m c) ∧ (f i).length = m ∧ 1 ≤ m ∧ m ≤ c ∧ c ≤ 9223372036854775807 ∧ Row w (some ⟨k, off, none⟩) (f i) ∧ w.cell? ⟨k, off, none⟩ = some (.int .u8 ((f i)[0]?.getD 0)) ∧ (∃ cur, w.heap[k]? = some (.cells cur 5 (0, 0))) := by
  obtain ⟨vs, h2, h3, h4⟩ := h.sl
  obtain ⟨k, off, m, c, e1, e2, e3, e4, e5, e6, e7, e8, e9⟩ := h4 i hi
  have ha : ∃ b off, a = some ⟨b, off, none⟩ := by
    rcases h2 with ⟨e, _, e2⟩ | ⟨b, off, cap, cur, e, _⟩
    · rw [e2] at h3; simp at h3; omega
    · simp at e; exact ⟨b, off, e.1⟩
  obtain ⟨tb, toff, rfl⟩ := ha
  have hc := h2.cell i (by omega)
  rw [e1] at hc
  refine ⟨tb, toff, k, off, m, c, rfl, hc, e2, e3, e4, e5, e6, ?_, e7⟩
  rcases e6 with e | ⟨b', off', e, h9⟩
  · rw [e] at e2; simp at e2; omega
  · cases e
    exact h9 0 (by omega)
/-- A text more. -/
theorem TbM.push {v : Value} {tg' : Option Nat} {vs : List Value} {k off m c : Nat} {t : List Int} {tv' : Value} (h4 : ∀ i, i < n → ∃ k off m c, vs[i]? = some (.slice (some ⟨k, off, none⟩) m c) ∧ (f i).length = m ∧ 1 ≤ m ∧ m ≤ c ∧ c ≤ 9223372036854775807 ∧ Row w (some ⟨k, off, none⟩) (f i) ∧ (∃ cur, w.heap[k]? = some (.cells cur 5 (0, 0))) ∧ some k ≠ og ∧ B ≤ k)
    (h3 : vs.length = n) (hs : Sl w 22 tv' tg' (vs ++ [v])) (hv : v = .slice (some ⟨k, off, none⟩) m c) (e2 : t.length = m) (e3 : 1 ≤ m) (e4 : m ≤ c) (e5 : c ≤ 9223372036854775807) (e6 : Row w (some ⟨k, off, none⟩) t) (e7 : ∃ cur, w.heap[k]? = some (.cells cur 5 (0, 0))) (e8 : some k ≠ og) (e9 : B ≤ k) (hn : ∀ k, tg' = some k → B ≤ k) : TbM B w tv' tg' og (n + 1) (fun i => if i < n then f i else t) := by
  refine ⟨⟨vs ++ [v], hs, by rw [List.length_append, h3]; rfl, fun i hi => ?_⟩, hn⟩
  by_cases hin : i < n
  · obtain ⟨k', off', m', c', q1, q2⟩ := h4 i hin
    exact ⟨k', off', m', c', by rw [List.getElem?_append_left (by omega)]; exact q1, by simp only [if_pos hin]; exact q2⟩
  · obtain rfl : i = n := by omega
    refine ⟨k, off, m, c, by rw [List.getElem?_append_right (by omega), h3, Nat.sub_self, hv]; rfl, ?_⟩
    simp only [Nat.lt_irrefl, if_false]
    exact ⟨e2, e3, e4, e5, e6, e7, e8, e9⟩
end
end Go.Proofs.Ytcbmlioeeoghkaa
