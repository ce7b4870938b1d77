/- Lines in memory. -/
import Derived.Test.YtjkhldnjciakkaaAmK
namespace Go.Proofs.Ytjkhldnjciakkaa
open Go.RowKit
/-- A line in memory. -/
structure Le where
  p : Int
  a : Option Addr
  n : Nat
  c : Nat
  L : List Int
def Le.enc (e : Le) : List Value := [.int .i64 e.p, .slice e.a e.n e.c]
def Le.key (e : Le) : Int × List Int := (e.p, e.L)
def leF (es : List Le) : List Value := es.flatMap Le.enc
theorem leF_append (a b : List Le) : leF (a ++ b) = leF a ++ leF b := by simp [leF]
theorem leF_len (es : List Le) : (leF es).length = es.length * 2 := by
  induction es with
  | nil => rfl
  | cons e r ih => rw [show leF (e :: r) = e.enc ++ leF r from rfl, List.length_append, ih]; simp [Le.enc]; omega
theorem leF_at (es : List Le) (i : Nat) (e : Le) (h : es[i]? = some e) : (leF es)[i * 2]? = some (.int .i64 e.p) ∧ (leF es)[i * 2 + 1]? = some (.slice e.a e.n e.c) := by
  induction es generalizing i with
  | nil => simp at h
  | cons q r ih =>
    rw [show leF (q :: r) = q.enc ++ leF r from rfl]
    have hl : q.enc.length = 2 := rfl
    cases i with
    | zero => simp at h; subst h; exact ⟨rfl, rfl⟩
    | succ i =>
      have := ih i (by simpa using h)
      rw [List.getElem?_append_right (by omega), List.getElem?_append_right (by omega), hl, show (i + 1) * 2 - 2 = i * 2 by omega, show (i + 1) * 2 + 1 - 2 = i * 2 + 1 by omega]
      exact this
/-- A line's places in memory, from block B on. -/
def SpIn (B : Nat) (W : World) (e : Le) : Prop :=
  e.L.length = 2 * e.n ∧ e.n ≤ e.c ∧ e.n ≤ 2048 ∧ (e.L = [] ∨ ∃ g cur, e.a = some ⟨g, 0, none⟩ ∧ B ≤ g ∧ W.heap[g]? = some (.cells cur 45 (0, 0)) ∧ ∀ i, i < e.L.length → cur[i]? = some (.int .i64 (e.L[i]?.getD 0)))
theorem SpIn.same {B : Nat} {W W' : World} {e : Le} (h : SpIn B W e) (hk : ∀ g cur, B ≤ g → W.heap[g]? = some (.cells cur 45 (0, 0)) → W'.heap[g]? = some (.cells cur 45 (0, 0))) : SpIn B W' e := by
  obtain ⟨h1, h2, h3, h4⟩ := h
  refine ⟨h1, h2, h3, h4.imp id ?_⟩
  rintro ⟨g, cur, q1, q2, q3, q4⟩
  exact ⟨g, cur, q1, q2, hk g cur q2 q3, q4⟩
theorem SpIn.irow {B : Nat} {W : World} {e : Le} (h : SpIn B W e) : IRow W e.a e.L := by
  obtain ⟨-, -, -, h | ⟨g, cur, h1, -, h3, h4⟩⟩ := h
  · exact .inl h
  · exact .inr ⟨g, 0, h1, fun i hi => by rw [Nat.zero_add, ← h4 i hi]; simp [World.cell?, h3]⟩
theorem SpIn.mono {B B' : Nat} {W : World} {e : Le} (h : SpIn B W e) (hb : B' ≤ B) : SpIn B' W e := by
  obtain ⟨h1, h2, h3, h4⟩ := h
  refine ⟨h1, h2, h3, h4.imp id ?_⟩
  rintro ⟨g, cur, q1, q2, q3, q4⟩
  exact ⟨g, cur, q1, by omega, q3, q4⟩
structure LsM (B : Nat) (W : World) (v : Value) (es : List Le) : Prop where
  own : W.ownsRow B 43 2 v es.length (leF es)
  sp : ∀ e ∈ es, SpIn B W e
theorem LsM.nil (B : Nat) (W : World) : LsM B W (.slice none 0 0) [] := ⟨World.ownsRow_nil _ _ _ _, fun _ h => by simp at h⟩
theorem LsM.same {B : Nat} {W W' : World} {v : Value} {es : List Le} (h : LsM B W v es) (hk : ∀ (k : Nat) c t f, B ≤ k → W.heap[k]? = some (.cells c t f) → (t = 43 ∨ t = 45) → W'.heap[k]? = some (.cells c t f)) : LsM B W' v es := by
  refine ⟨⟨h.own.1, h.own.2.imp id ?_⟩, fun e he => (h.sp e he).same fun g cur hg hc => hk g _ _ _ hg hc (.inr rfl)⟩
  rintro ⟨g, cap, cur, q1, q2, q3, q4⟩
  exact ⟨g, cap, cur, q1, q2, hk g _ _ _ q2 q3 (.inl rfl), q4⟩
theorem LsM.old {B : Nat} {W W' : World} {v : Value} {es : List Le} (h : LsM B W v es) (hb : Below W.heap.size W W') : LsM B W' v es := h.same fun k _ _ _ _ hk _ => (hb.block k (lt_of_block hk)).trans hk
theorem LsM.bk {B B' : Nat} {W W' : World} {v : Value} {es : List Le} (h : LsM B W v es) (hb : Bk B' W W') : LsM B W' v es := h.same fun _ _ _ _ _ hk _ => hb.cells hk
theorem LsM.shape {B : Nat} {W : World} {v : Value} {es : List Le} (h : LsM B W v es) : ∃ a c, v = .slice a es.length c ∧ es.length ≤ c ∧ c ≤ maxLen ∧ (a = none → c = 0) := by
  rcases h.own.2 with ⟨rfl, hn⟩ | ⟨g, cap, cur, rfl, _, _, h1, h2, _⟩
  · exact ⟨none, 0, by rw [hn], by omega, by unfold maxLen; omega, fun _ => rfl⟩
  · exact ⟨_, cap, rfl, h1, h2, by intro h; cases h⟩
theorem LsM.tag {B : Nat} {W : World} {v : Value} {es : List Le} (h : LsM B W v es) {k : Nat} (hk : v.ownBlock = some k) : B ≤ k ∧ ∃ cur, W.heap[k]? = some (.cells cur 43 (0, 0)) := by
  rcases h.own.2 with ⟨rfl, hn⟩ | ⟨g, cap, cur, rfl, hb, hh, _⟩
  · cases hk
  · cases hk; exact ⟨hb, cur, hh⟩
theorem Try.infoLn : (Try.prog.info? 43).map (fun i => (i.zero, i.size, i.bytes)) = some (some (.agg #[.int .i64 0, .slice none 0 0]), 2, 32) := by kernel_rfl
/-- One line more. -/
theorem LsM.push {B : Nat} {W w' : World} {v v' : Value} {es : List Le} {e : Le} (h : LsM B W v es) (h2 : w'.ownsRow B 43 2 v' (es.length + 1) (leF es ++ e.enc)) (hg : W.grownBy w' v.ownBlock) (he : SpIn B W e) : LsM B w' v' (es ++ [e]) := by
  have hk : ∀ g cur, B ≤ g → W.heap[g]? = some (.cells cur 45 (0, 0)) → w'.heap[g]? = some (.cells cur 45 (0, 0)) := fun g cur _ hc =>
    (hg.block g (lt_of_block hc) (fun hb => by obtain ⟨-, c2, e2⟩ := h.tag hb.symm; rw [hc] at e2; cases e2)).trans hc
  refine ⟨by rw [leF_append]; simpa [leF] using h2, fun x hx => ?_⟩
  rcases List.mem_append.1 hx with q | q
  · exact (h.sp x q).same hk
  · simp at q; subst q; exact he.same hk
/-- Lines that are read. -/
def LsR (W : World) (a : Option Addr) (es : List Le) : Prop :=
  (∀ e ∈ es, e.L.length = 2 * e.n ∧ e.n ≤ 2048 ∧ IRow W e.a e.L) ∧ (es = [] ∨ ∃ b off, a = some ⟨b, off, none⟩ ∧ ∀ i e, es[i]? = some e → W.cell? ⟨b, off + i * 2, none⟩ = some (.int .i64 e.p) ∧ W.cell? ⟨b, off + (i * 2 + 1), none⟩ = some (.slice e.a e.n e.c))
theorem LsM.read {B : Nat} {W : World} {a : Option Addr} {n c : Nat} {es : List Le} (h : LsM B W (.slice a n c) es) : LsR W a es := by
  refine ⟨fun e he => ⟨(h.sp e he).1, (h.sp e he).2.2.1, (h.sp e he).irow⟩, ?_⟩
  rcases h.own.2 with ⟨_, hn⟩ | ⟨g, cap, cur, hv, _, hh, _, _, _, htk⟩
  · exact .inl (List.length_eq_zero_iff.1 hn)
  · simp only [Value.slice.injEq] at hv
    obtain ⟨rfl, -, -⟩ := hv
    refine .inr ⟨g, 0, rfl, fun i e he => ?_⟩
    have hi : i < es.length := by
      by_cases hq : i < es.length
      · exact hq
      · rw [List.getElem?_eq_none (by omega)] at he; cases he
    obtain ⟨k1, k2⟩ := leF_at es i e he
    have cl : ∀ j, j < es.length * 2 → W.cell? ⟨g, 0 + j, none⟩ = (leF es)[j]? := fun j hj => by
      rw [← htk, List.getElem?_take, if_pos hj]
      simp [World.cell?, hh]
    exact ⟨(cl _ (by omega)).trans k1, (cl _ (by omega)).trans k2⟩
/-- The lines of the first passes. -/
def lnsI (L : List Stp) (W H : Int) : Nat → List (Int × List Int)
  | 0 => []
  | i + 1 => lnsI L W H i ++ (List.range (hNt L W H i)).map fun r => (((i : Int) + 1), lnS L W H i r)
def lnsL (L : List Stp) (W H : Int) : List (Int × List Int) := lnsI L W H (psN L W H)
theorem lnsI_len (L : List Stp) (W H : Int) (i : Nat) : (lnsI L W H i).length = bsN (hNt L W H) i := by
  induction i with
  | zero => rfl
  | succ i ih => rw [lnsI, List.length_append, ih, bsN]; simp
theorem lnsL_len (L : List Stp) (W H : Int) : (lnsL L W H).length = lnN L W H := lnsI_len ..
theorem lnsI_at (L : List Stp) (W H : Int) {i r n : Nat} (h : i < n) (hr : r < hNt L W H i) : (lnsI L W H n)[bsN (hNt L W H) i + r]? = some (((i : Int) + 1), lnS L W H i r) := by
  induction n with
  | zero => omega
  | succ n ih =>
    rw [lnsI]
    by_cases e : i = n
    · subst e
      rw [List.getElem?_append_right (by rw [lnsI_len]; omega), lnsI_len, Nat.add_sub_cancel_left]
      simp [hr]
    · rw [List.getElem?_append_left (by rw [lnsI_len]; exact bsN_lt _ (by omega) hr)]
      exact ih (by omega)
theorem take_more {α : Type} {l : List α} {k : Nat} {x : α} (h : l[k]? = some x) : l.take (k + 1) = l.take k ++ [x] := by
  have hk : k < l.length := by
    by_cases hq : k < l.length
    · exact hq
    · rw [List.getElem?_eq_none (by omega)] at h; cases h
  rw [List.take_succ_eq_append_getElem hk]
  rw [List.getElem?_eq_getElem hk] at h
  simp only [Option.some.injEq] at h
  rw [h]
end Go.Proofs.Ytjkhldnjciakkaa
