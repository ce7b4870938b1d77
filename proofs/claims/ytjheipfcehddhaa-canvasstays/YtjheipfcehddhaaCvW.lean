/- What is known stays; spots and colours that are copied behind an empty row. -/
import Derived.Test.YtjheipfcehddhaaCvQ
import Derived.Test.YtjheipfcehddhaaCvO
import Derived.Test.YtjheipfcehddhaaStepL
namespace Go.Proofs.Ytjheipfcehddhaa
open Go.RowKit
theorem pxF_stays {W : Int} {F : Nat → Col} {M : Nat → Bool} {S : List (Int × Int)} {C : List Col} {i : Nat} (hM : M i = true) : ∀ j, frB W M S j = true → pxF W F S C j i = F i
  | 0, _ => rfl
  | j + 1, h => by
    unfold frB at h
    simp only [Bool.and_eq_true, Bool.not_eq_true'] at h
    unfold pxF upd
    rw [if_neg (fun e => by have := mkM_mono (W := W) (S := S) hM j; rw [e, h.2] at this; cases this)]
    exact pxF_stays hM j h.1
theorem layE_cond {W H : Int} {M : Nat → Bool} {S : List (Int × Int)} {m : Nat} (he : layE W H M S m = 0) : m = S.length ∧ S.all (onC W H) = true ∧ frB W M S S.length = true := by
  unfold layE at he
  by_cases q : m = S.length ∧ S.all (onC W H) = true
  · rw [if_pos q] at he
    refine ⟨q.1, q.2, ?_⟩
    cases hf : frB W M S S.length with
    | true => rfl
    | false => rw [hf] at he; simp at he
  · rw [if_neg q] at he; exact absurd he (by decide)
/-- What is known stays as it is. -/
theorem lay_stays {W H : Int} {F : Nat → Col} {M : Nat → Bool} {S : List (Int × Int)} {C : List Col} {i : Nat} (hM : M i = true) : layF W H F M S C i = F i := by
  unfold layF
  by_cases he : layE W H M S C.length = 0
  · rw [if_pos he]; exact pxF_stays hM _ (layE_cond he).2.2
  · rw [if_neg he]
/-- A line that is refused changes nothing. -/
theorem lay_no {W H : Int} {F : Nat → Col} {M : Nat → Bool} {S : List (Int × Int)} {C : List Col} {n : Int} (he : layE W H M S C.length ≠ 0) : layF W H F M S C = F ∧ layM W H M S C.length = M ∧ layN W H M S C.length n = n := by
  unfold layF layM layN
  rw [if_neg he, if_neg he, if_neg he]; exact ⟨rfl, rfl, rfl⟩
theorem lay_yes {W H : Int} {M : Nat → Bool} {S : List (Int × Int)} {m : Nat} {n : Int} (he : layE W H M S m = 0) : layN W H M S m n = n + S.length := by
  unfold layN
  rw [if_pos he]
/-- Spots, in a block of their own. -/
def SpM (w : World) (g : Nat) (S : List (Int × Int)) : Prop := ∃ cur : Array Value, w.heap[g]? = some (.cells cur 58 (0, 0)) ∧ ∀ i, i < S.length → cur[i * 2]? = some (.int .i64 (spA S i).1) ∧ cur[i * 2 + 1]? = some (.int .i64 (spA S i).2)
theorem SpM.same {w w' : World} {g : Nat} {S : List (Int × Int)} (h : SpM w g S) (hs : w'.heap[g]? = w.heap[g]?) : SpM w' g S := by obtain ⟨cur, h1, h2⟩ := h; exact ⟨cur, hs.trans h1, h2⟩
theorem SpM.row {w : World} {g : Nat} {S : List (Int × Int)} (h : SpM w g S) : SpRow w (some ⟨g, 0, none⟩) S := by
  obtain ⟨cur, h1, h2⟩ := h
  refine .inr ⟨g, 0, rfl, fun i hi => ?_⟩
  obtain ⟨q0, q1⟩ := h2 i hi
  rw [Nat.zero_add]
  exact ⟨by simp [World.cell?, h1, q0], by simp [World.cell?, h1, q1]⟩
theorem PxM.row {w : World} {g : Nat} {C : List Col} (h : PxM w g C.length (coA C)) : CoRow w (some ⟨g, 0, none⟩) C := by
  refine .inr ⟨g, 0, rfl, fun i hi => ?_⟩
  obtain ⟨q0, q1, q2, q3⟩ := h.cells hi
  rw [Nat.zero_add]
  exact ⟨q0, q1, q2, q3⟩
def k2 (S : List (Int × Int)) (i : Nat) : List Value := [.int .i64 (spA S i).1, .int .i64 (spA S i).2]
def k2L (S : List (Int × Int)) (k : Nat) : List Value := (List.range k).flatMap (k2 S)
theorem k2L_snoc (S : List (Int × Int)) (k : Nat) : k2L S (k + 1) = k2L S k ++ k2 S k := by simp [k2L, List.range_succ]
theorem k2L_len (S : List (Int × Int)) (k : Nat) : (k2L S k).length = k * 2 := by
  induction k with
  | zero => rfl
  | succ k ih => rw [k2L_snoc, List.length_append, ih]; simp [k2]; omega
theorem k2L_at (S : List (Int × Int)) (k i j : Nat) (hi : i < k) (hj : j < 2) : (k2L S k)[i * 2 + j]? = (k2 S i)[j]? := by
  induction k with
  | zero => omega
  | succ k ih =>
    rw [k2L_snoc]
    by_cases h : i < k
    · rw [List.getElem?_append_left (by rw [k2L_len]; omega), ih h]
    · obtain rfl : i = k := by omega
      rw [List.getElem?_append_right (by rw [k2L_len]; omega), k2L_len]
      congr 1; omega
theorem k2L_one (S : List (Int × Int)) (k : Nat) : ∀ u ∈ k2L S k, u.oneCell' = true := by
  intro u hu
  simp only [k2L, List.mem_flatMap, List.mem_range, k2, List.mem_cons, List.not_mem_nil, or_false] at hu
  obtain ⟨i, _, rfl | rfl⟩ := hu <;> rfl
theorem spots_news {w : World} {b off : Nat} {S : List (Int × Int)} (h : ∀ i, i < S.length → w.cell? ⟨b, off + i * 2, none⟩ = some (.int .i64 (spA S i).1) ∧ w.cell? ⟨b, off + i * 2 + 1, none⟩ = some (.int .i64 (spA S i).2)) : ∀ j u, (k2L S S.length)[j]? = some u → w.cell? ((⟨b, off, none⟩ : Addr).add j) = some u := by
  intro j u hj
  have hlt : j < S.length * 2 := by
    by_cases hq : j < S.length * 2
    · exact hq
    · rw [List.getElem?_eq_none (by rw [k2L_len]; omega)] at hj; cases hj
  have e : j = (j / 2) * 2 + j % 2 := by omega
  rw [e, k2L_at S S.length (j / 2) (j % 2) (by omega) (by omega)] at hj
  obtain ⟨c0, c1⟩ := h (j / 2) (by omega)
  have ea : (⟨b, off, none⟩ : Addr).add j = ⟨b, off + j, none⟩ := by rw [Addr.add_lit]
  rw [ea]
  have hm : j % 2 < 2 := Nat.mod_lt _ (by omega)
  generalize hr : j % 2 = r at *
  generalize j / 2 = q at *
  subst e
  match r, hm with
  | 0, _ => simp [k2] at hj; rw [← hj]; exact c0
  | 1, _ => simp [k2] at hj; rw [← hj, ← Nat.add_assoc]; exact c1
theorem cols_news {w : World} {b off : Nat} {C : List Col} (h : ∀ i, i < C.length → w.cell? ⟨b, off + i * 4, none⟩ = some (.int .u16 (coA C i).1) ∧ w.cell? ⟨b, off + i * 4 + 1, none⟩ = some (.int .u16 (coA C i).2.1) ∧ w.cell? ⟨b, off + i * 4 + 2, none⟩ = some (.int .u16 (coA C i).2.2.1) ∧ w.cell? ⟨b, off + i * 4 + 3, none⟩ = some (.int .u16 (coA C i).2.2.2)) : ∀ j u, (k4L (coA C) C.length)[j]? = some u → w.cell? ((⟨b, off, none⟩ : Addr).add j) = some u := by
  intro j u hj
  have hlt : j < C.length * 4 := by
    by_cases hq : j < C.length * 4
    · exact hq
    · rw [List.getElem?_eq_none (by rw [k4L_len]; omega)] at hj; cases hj
  have e : j = (j / 4) * 4 + j % 4 := by omega
  rw [e, k4L_at (coA C) C.length (j / 4) (j % 4) (by omega) (by omega)] at hj
  obtain ⟨c0, c1, c2, c3⟩ := h (j / 4) (by omega)
  have ea : (⟨b, off, none⟩ : Addr).add j = ⟨b, off + j, none⟩ := by rw [Addr.add_lit]
  rw [ea]
  have hm : j % 4 < 4 := Nat.mod_lt _ (by omega)
  generalize hr : j % 4 = r at *
  generalize j / 4 = q at *
  subst e
  match r, hm with
  | 0, _ => simp [k4] at hj; rw [← hj]; exact c0
  | 1, _ => simp [k4] at hj; rw [← hj, ← Nat.add_assoc]; exact c1
  | 2, _ => simp [k4] at hj; rw [← hj, ← Nat.add_assoc]; exact c2
  | 3, _ => simp [k4] at hj; rw [← hj, ← Nat.add_assoc]; exact c3
theorem owns_sp {w : World} {B g c : Nat} {S : List (Int × Int)} (h : w.ownsRow B 58 2 (.slice (some ⟨g, 0, none⟩) S.length c) S.length (k2L S S.length)) : SpM w g S := by
  rcases h.2 with ⟨h, _⟩ | ⟨g', cap, cur, he, hb, hh, h1, h2, h3, h4⟩
  · cases h
  · simp only [Value.slice.injEq, Option.some.injEq, Addr.mk.injEq] at he
    obtain ⟨⟨rfl, -, -⟩, -, rfl⟩ := he
    refine ⟨cur, hh, fun i hi => ?_⟩
    have q : ∀ j, j < 2 → cur[i * 2 + j]? = (k2 S i)[j]? := fun j hj => by
      rw [← k2L_at S S.length i j hi hj, ← h4, List.getElem?_take, if_pos (by omega)]; simp
    exact ⟨q 0 (by omega), q 1 (by omega)⟩
theorem Try.infoSp : (Try.prog.info? 58).map (fun i => (i.zero, i.size, i.bytes)) = some (some (.agg #[.int .i64 0, .int .i64 0]), 2, 16) := by kernel_rfl
end Go.Proofs.Ytjheipfcehddhaa
