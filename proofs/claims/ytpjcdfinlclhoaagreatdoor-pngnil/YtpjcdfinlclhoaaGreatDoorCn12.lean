/- Pieces in memory. -/
import Derived.Test.YtpjcdfinlclhoaaGreatDoorCn11
namespace Go.Proofs.YtpjcdfinlclhoaaGreatDoor
open Go.RowKit
structure Pm where
  q : Pq
  a : Option Addr
  c : Nat
def Pm.enc (x : Pm) : List Value := [.string (strOfNums x.q.kind), .int .i64 x.q.size, .slice x.a x.q.data.length x.c, .bool x.q.bg, .bool x.q.en]
theorem Pm.enc_one (x : Pm) : ∀ u ∈ x.enc, u.oneCell' = true := by
  intro u hu
  simp only [Pm.enc, List.mem_cons, List.not_mem_nil, or_false] at hu
  rcases hu with rfl | rfl | rfl | rfl | rfl <;> rfl
def flatM (T : List Pm) : List Value := T.flatMap Pm.enc
theorem flatM_append (l m : List Pm) : flatM (l ++ m) = flatM l ++ flatM m := by simp [flatM]
theorem flatM_len (T : List Pm) : (flatM T).length = T.length * 5 := by
  induction T with
  | nil => rfl
  | cons x r ih =>
    have e : flatM (x :: r) = x.enc ++ flatM r := by simp [flatM]
    rw [e, List.length_append, ih, List.length_cons]
    show 5 + r.length * 5 = (r.length + 1) * 5
    omega
theorem flatM_at (T : List Pm) (i : Nat) (x : Pm) (hx : T[i]? = some x) (j : Nat) (hj : j < 5) : (flatM T)[i * 5 + j]? = x.enc[j]? := by
  induction T generalizing i with
  | nil => simp at hx
  | cons y r ih =>
    have e : flatM (y :: r) = y.enc ++ flatM r := by simp [flatM]
    have hl : y.enc.length = 5 := rfl
    rw [e]
    cases i with
    | zero =>
      simp at hx
      subst hx
      rw [Nat.zero_mul, Nat.zero_add, List.getElem?_append_left (by omega)]
    | succ i =>
      rw [List.getElem?_append_right (by omega), hl, show (i + 1) * 5 + j - 5 = i * 5 + j by omega]
      exact ih i (by simpa using hx)
theorem Tryz.infoPc : (Tryz.prog.info? 68).map (fun i => (i.zero, i.size, i.bytes)) = some (some (.agg #[.string ⟨#[]⟩, .int .i64 0, .slice none 0 0, .bool false, .bool false]), 5, 56) := by kernel_rfl
def PmRow (w : World) (base : Nat) (v : Value) (T : List Pm) : Prop := w.ownsRow base 68 5 v T.length (flatM T)
theorem PmRow.shape {w : World} {base : Nat} {v : Value} {T : List Pm} (h : PmRow w base v T) : ∃ a c, v = .slice a T.length c ∧ T.length ≤ c ∧ c ≤ maxLen ∧ (a = none → c = 0) := by
  rcases h.2 with ⟨h, h0⟩ | ⟨g, cap, cur, h, hb, hh, h1, h2, h3, h4⟩
  · exact ⟨none, 0, by rw [h, h0], by omega, by unfold maxLen; omega, fun _ => rfl⟩
  · exact ⟨_, cap, h, h1, h2, by intro h; cases h⟩
theorem PmRow.blk {w : World} {base : Nat} {v : Value} {T : List Pm} (h : PmRow w base v T) : ∀ k, v.ownBlock = some k → base ≤ k ∧ k < w.heap.size ∧ ∃ c, w.heap[k]? = some (.cells c 68 (0, 0)) := by
  intro k hk
  rcases h.2 with ⟨h, h0⟩ | ⟨g, cap, cur, h, hb, hh, h1, h2, h3, h4⟩
  · rw [h] at hk; cases hk
  · rw [h] at hk; cases hk; exact ⟨hb, lt_of_block hh, _, hh⟩
theorem PmRow.same {w w' : World} {base : Nat} {v : Value} {T : List Pm} (h : PmRow w base v T) (hs : ∀ k, v.ownBlock = some k → w'.heap[k]? = w.heap[k]?) : PmRow w' base v T := by
  refine ⟨h.1, ?_⟩
  rcases h.2 with h | ⟨g, cap, cur, h, hb, hh, h1, h2, h3, h4⟩
  · exact .inl h
  · exact .inr ⟨g, cap, cur, h, hb, (hs g (by rw [h]; rfl)).trans hh, h1, h2, h3, h4⟩
theorem PmRow.cell {w : World} {base : Nat} {a : Option Addr} {n c : Nat} {T : List Pm} (h : PmRow w base (.slice a n c) T) (i : Nat) (x : Pm) (hx : T[i]? = some x) : ∃ b, a = some ⟨b, 0, none⟩ ∧ base ≤ b ∧ ∀ j, j < 5 → w.cell? ⟨b, i * 5 + j, none⟩ = x.enc[j]? := by
  have hi : i < T.length := by
    by_cases hq : i < T.length
    · exact hq
    · rw [List.getElem?_eq_none (by omega)] at hx; cases hx
  rcases h.2 with ⟨h, h0⟩ | ⟨g, cap, cur, h, hb, hh, h1, h2, h3, h4⟩
  · omega
  · simp only [Value.slice.injEq] at h
    obtain ⟨rfl, _, _⟩ := h
    refine ⟨g, rfl, hb, fun j hj => ?_⟩
    rw [← flatM_at T i x hx j hj, ← h4]
    have hl := flatM_len T
    have : i * 5 + j < T.length * 5 := by omega
    rw [List.getElem?_take, if_pos (by omega)]
    simp [World.cell?, hh]
/-- 'append(v, piece)'. -/
theorem wpList_push_piece {w : World} {ops : Array Oper} {rest : List Oper} {o : Oper} {a : Act} {Q : Exit → Act → World → Prop} (hgd : o.guard = none) (s x : Operand)
    (ho : o.op = .call { callee := .builtin .append, args := #[s, x], argTypes := #[75, 75] })
    (base : Nat) (v : Value) (T : List Pm) (n : Pm) (hs : a.eval s = v) (hp : PmRow w base v T) (ad : Addr) (c : Nat) (hx : a.eval x = .slice (some ad) 1 c) (hr : ∀ j u, n.enc[j]? = some u → w.cell? (ad.add j) = some u)
    (hlen : T.length ≤ 1000000000) (hbase : base ≤ w.heap.size)
    (h : ∀ v' w', PmRow w' base v' (T ++ [n]) → w.grownBy w' v.ownBlock → wpList Tryz.prog ops Q rest (a.put o.dst v') w') : wpList Tryz.prog ops Q (o :: rest) a w := by
  obtain ⟨i0, hi, hz0, hz1, hz2⟩ := info_parts Tryz.infoPc
  refine wpList_append_own w hgd s x 75 ho base 68 i0 _ 5 56 Tryz.underlying75 hi hz0 hz1 hz2 rfl (by decide) v T.length (flatM T) hs hp ad 1 c n.enc hx rfl hr n.enc_one (by unfold maxLen; omega) (by omega) hbase ?_
  intro v' w' hown hg _
  refine h v' w' ?_ hg
  unfold PmRow
  rw [List.length_append, flatM_append]
  have e : flatM [n] = n.enc := by simp [flatM]
  rw [e]
  exact hown
/-- The pieces' data in memory: none in block g. -/
def PmOk (B : Nat) (w : World) (g : Option Nat) (T : List Pm) : Prop := ∀ x ∈ T, ∃ k0, Sl w 5 (.slice x.a x.q.data.length x.c) k0 (vals x.q.data) ∧ ∀ k, k0 = some k → B ≤ k ∧ g ≠ some k
theorem PmOk.same {B : Nat} {w w' : World} {g g' : Option Nat} {T : List Pm} (h : PmOk B w g T) (hs : ∀ k, B ≤ k → k < w.heap.size → g ≠ some k → (∃ c, w.heap[k]? = some (.cells c 5 (0, 0))) → w'.heap[k]? = w.heap[k]? ∧ g' ≠ some k) : PmOk B w' g' T := by
  intro x hx
  obtain ⟨k0, h1, h2⟩ := h x hx
  refine ⟨k0, h1.same fun k hk => (hs k (h2 k hk).1 (h1.lt hk) (h2 k hk).2 (h1.tagB k hk)).1, fun k hk => ⟨(h2 k hk).1, (hs k (h2 k hk).1 (h1.lt hk) (h2 k hk).2 (h1.tagB k hk)).2⟩⟩
end Go.Proofs.YtpjcdfinlclhoaaGreatDoor
