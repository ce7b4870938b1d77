/- Parcels put together, two by two, and laid in one row: plain lists; and parcels whose symbols lie in memory. -/
import Derived.Test.YtjellgkojmgmjaaHgB
namespace Go.Proofs.Ytjellgkojmgmjaa
open Go.RowKit

/-- Both rows in one, the lightest first; of equal ones the first row's. -/
def mrg {α : Type} (f : α → Int) : List α → List α → List α
  | [], ps => ps
  | s :: ss, ps => ps.takeWhile (fun p => decide (f p < f s)) ++ s :: mrg f ss (ps.dropWhile fun p => decide (f p < f s))
abbrev Pc := Int × List Int
/-- Two by two. -/
def prs : List Pc → List Pc
  | a :: b :: r => (a.1 + b.1, a.2 ++ b.2) :: prs r
  | _ => []
theorem mrg_len {α : Type} (f : α → Int) (l m : List α) : (mrg f l m).length = l.length + m.length := by
  induction l generalizing m with
  | nil => simp [mrg]
  | cons s ss ih =>
    rw [mrg, List.length_append, List.length_cons, ih]
    have := congrArg List.length (List.takeWhile_append_dropWhile (p := fun p => decide (f p < f s)) (l := m))
    rw [List.length_append] at this
    rw [List.length_cons]
    omega
theorem prs_len : ∀ l : List Pc, (prs l).length = l.length / 2
  | [] => rfl
  | [_] => by simp [prs]
  | a :: b :: r => by rw [prs, List.length_cons, prs_len r, List.length_cons, List.length_cons]; omega
theorem while_at {α : Type} [Inhabited α] (p : α → Bool) (l : List α) (i : Nat) (hi : i ≤ l.length) (h1 : ∀ j, j < i → p (l[j]?.getD default) = true) (h2 : i = l.length ∨ p (l[i]?.getD default) = false) : l.takeWhile p = l.take i ∧ l.dropWhile p = l.drop i := by
  induction l generalizing i with
  | nil => obtain rfl : i = 0 := by simpa using hi
           exact ⟨rfl, rfl⟩
  | cons x r ih =>
    cases i with
    | zero =>
      have : p x = false := by
        rcases h2 with h | h
        · simp at h
        · simpa using h
      simp [this]
    | succ i =>
      have hx : p x = true := by simpa using h1 0 (by omega)
      obtain ⟨e1, e2⟩ := ih i (by simpa using hi) (fun j hj => by simpa using h1 (j + 1) (by omega)) (by
        rcases h2 with h | h
        · exact .inl (by simpa using h)
        · exact .inr (by simpa using h))
      simp [hx, e1, e2]

inductive All2 {α β : Type} (R : α → β → Prop) : List α → List β → Prop
  | nil : All2 R [] []
  | cons {x : α} {p : β} {xs : List α} {ps : List β} : R x p → All2 R xs ps → All2 R (x :: xs) (p :: ps)
section
variable {α β : Type} {R : α → β → Prop}
theorem All2.len {xs : List α} {ps : List β} (h : All2 R xs ps) : xs.length = ps.length := by
  induction h with
  | nil => rfl
  | cons _ _ ih => simp [ih]
theorem All2.imp {R' : α → β → Prop} {xs : List α} {ps : List β} (h : All2 R xs ps) (hi : ∀ x p, x ∈ xs → R x p → R' x p) : All2 R' xs ps := by
  induction h with
  | nil => exact .nil
  | cons h1 _ ih => exact .cons (hi _ _ (by simp) h1) (ih fun x p hx => hi x p (by simp [hx]))
theorem All2.append {xs ys : List α} {ps qs : List β} (h : All2 R xs ps) (k : All2 R ys qs) : All2 R (xs ++ ys) (ps ++ qs) := by
  induction h with
  | nil => exact k
  | cons h1 _ ih => exact .cons h1 ih
theorem All2.while {xs : List α} {ps : List β} (h : All2 R xs ps) (p : α → Bool) (q : β → Bool) (hpq : ∀ x y, R x y → p x = q y) : All2 R (xs.takeWhile p) (ps.takeWhile q) ∧ All2 R (xs.dropWhile p) (ps.dropWhile q) := by
  induction h with
  | nil => exact ⟨.nil, .nil⟩
  | @cons x y xs ps h1 h2 ih =>
    have e := hpq _ _ h1
    cases hq : q y with
    | true => rw [hq] at e; simp [e, hq]; exact ⟨.cons h1 ih.1, ih.2⟩
    | false => rw [hq] at e; simp [e, hq]; exact ⟨.nil, .cons h1 h2⟩
theorem All2.mrg {f : α → Int} {g : β → Int} (hfg : ∀ x y, R x y → f x = g y) {xs ys : List α} {ps qs : List β} (h : All2 R xs ps) (k : All2 R ys qs) : All2 R (mrg f xs ys) (mrg g ps qs) := by
  induction h generalizing ys qs with
  | nil => exact k
  | @cons x y xs ps h1 h2 ih =>
    have := k.while (fun a => decide (f a < f x)) (fun b => decide (g b < g y)) (fun a b hab => by rw [hfg _ _ hab, hfg _ _ h1])
    exact this.1.append (.cons h1 (ih this.2))
theorem All2.perm {xs ys : List α} {ps : List β} (h : All2 R xs ps) (hp : ys.Perm xs) : ∃ qs, qs.Perm ps ∧ All2 R ys qs := by
  have key : ∀ {xs ys : List α}, xs.Perm ys → ∀ {ps : List β}, All2 R xs ps → ∃ qs, qs.Perm ps ∧ All2 R ys qs := by
    intro xs ys hp
    induction hp with
    | nil => intro ps h; exact ⟨ps, List.Perm.refl _, h⟩
    | cons x _ ih =>
      intro ps h
      cases h with
      | cons h1 h2 => obtain ⟨qs, q1, q2⟩ := ih h2; exact ⟨_ :: qs, q1.cons _, .cons h1 q2⟩
    | swap x y l =>
      intro ps h
      cases h with
      | cons h1 h2 => cases h2 with
        | cons h3 h4 => exact ⟨_, List.Perm.swap _ _ _, .cons h3 (.cons h1 h4)⟩
    | trans _ _ ih1 ih2 =>
      intro ps h
      obtain ⟨qs, q1, q2⟩ := ih1 h
      obtain ⟨rs, r1, r2⟩ := ih2 q2
      exact ⟨rs, r1.trans q1, r2⟩
  exact key hp.symm h
theorem All2.at [Inhabited α] [Inhabited β] {xs : List α} {ps : List β} (h : All2 R xs ps) (i : Nat) (hi : i < xs.length) : R (xs[i]?.getD default) (ps[i]?.getD default) := by
  induction h generalizing i with
  | nil => simp at hi
  | cons h1 _ ih =>
    cases i with
    | zero => exact h1
    | succ i => simpa using ih i (by simpa using hi)
theorem All2.take {xs : List α} {ps : List β} (h : All2 R xs ps) (n : Nat) : All2 R (xs.take n) (ps.take n) := by
  induction h generalizing n with
  | nil => cases n <;> exact .nil
  | cons h1 _ ih => cases n with
    | zero => exact .nil
    | succ n => exact .cons h1 (ih n)
theorem All2.drop {xs : List α} {ps : List β} (h : All2 R xs ps) (n : Nat) : All2 R (xs.drop n) (ps.drop n) := by
  induction h generalizing n with
  | nil => cases n <;> exact .nil
  | cons h1 h2 ih => cases n with
    | zero => exact .cons h1 h2
    | succ n => exact ih n
end

def ivals (l : List Int) : List Value := l.map (Value.int .i64)
/-- x's symbols in memory are l. -/
def Sy (w : World) (x : Pv) (l : List Int) : Prop :=
  x.n = l.length ∧ 1 ≤ x.n ∧ x.n ≤ x.c ∧ x.c ≤ maxLen ∧ ∃ cur, w.heap[x.b]? = some (.cells cur 3 (0, 0)) ∧ ∀ i, i < l.length → cur[i]? = some (.int .i64 (l[i]?.getD 0))
def Rp (w : World) (x : Pv) (p : Pc) : Prop := x.wt = p.1 ∧ Sy w x p.2
theorem Sy.same {w w' : World} {x : Pv} {l : List Int} (h : Sy w x l) (hs : w'.heap[x.b]? = w.heap[x.b]?) : Sy w' x l := by
  obtain ⟨h1, h2, h3, h4, cur, h5, h6⟩ := h
  exact ⟨h1, h2, h3, h4, cur, hs.trans h5, h6⟩
theorem Sy.lt {w : World} {x : Pv} {l : List Int} (h : Sy w x l) : x.b < w.heap.size := by
  obtain ⟨h1, h2, h3, h4, cur, h5, h6⟩ := h
  exact lt_of_block h5
theorem Sy.old {w w' : World} {x : Pv} {l : List Int} (h : Sy w x l) (hb : Below w.heap.size w w') : Sy w' x l := h.same (hb.block _ h.lt)
theorem Sy.ne {w : World} {x : Pv} {l : List Int} {base : Nat} {v : Value} {xs : List Pv} (h : Sy w x l) (hp : PRow w base v xs) : some x.b ≠ v.ownBlock := by
  obtain ⟨h1, h2, h3, h4, cur, h5, h6⟩ := h
  rcases hp.2 with ⟨rfl, _⟩ | ⟨g, cap, cu, rfl, hb, hh, _⟩
  · simp [Value.ownBlock]
  · intro e
    simp only [Value.ownBlock, Option.some.injEq] at e
    subst e
    rw [h5] at hh
    simp at hh
theorem Sy.kept {w w' : World} {x : Pv} {l : List Int} {base : Nat} {v : Value} {xs : List Pv} (h : Sy w x l) (hp : PRow w base v xs) (hg : w.grownBy w' v.ownBlock) : Sy w' x l :=
  h.same (hg.block _ h.lt (h.ne hp))
theorem Rp.kept {w w' : World} {x : Pv} {p : Pc} {base : Nat} {v : Value} {xs : List Pv} (h : Rp w x p) (hp : PRow w base v xs) (hg : w.grownBy w' v.ownBlock) : Rp w' x p := ⟨h.1, h.2.kept hp hg⟩
theorem Rp.old {w w' : World} {x : Pv} {p : Pc} (h : Rp w x p) (hb : Below w.heap.size w w') : Rp w' x p := ⟨h.1, h.2.old hb⟩
abbrev PS (w : World) (xs : List Pv) (ps : List Pc) : Prop := All2 (Rp w) xs ps
theorem PS.kept {w w' : World} {ys : List Pv} {ps : List Pc} {base : Nat} {v : Value} {xs : List Pv} (h : PS w ys ps) (hp : PRow w base v xs) (hg : w.grownBy w' v.ownBlock) : PS w' ys ps := All2.imp h fun _ _ _ k => k.kept hp hg
theorem PS.old {w w' : World} {ys : List Pv} {ps : List Pc} (h : PS w ys ps) (hb : Below w.heap.size w w') : PS w' ys ps := All2.imp h fun _ _ _ k => k.old hb

/-- Parcels that lie in memory, wherever. -/
def RV (w : World) (a : Option Addr) (xs : List Pv) : Prop :=
  xs = [] ∨ ∃ b off cur, a = some ⟨b, off, none⟩ ∧ w.heap[b]? = some (.cells cur 86 (0, 0)) ∧ ∀ i u, (flat xs)[i]? = some u → cur[off + i]? = some u
theorem RV.same {w w' : World} {a : Option Addr} {xs : List Pv} (h : RV w a xs) (hs : ∀ x, a = some x → xs ≠ [] → w'.heap[x.block]? = w.heap[x.block]?) : RV w' a xs := by
  rcases h with h | ⟨b, off, cur, rfl, hh, hc⟩
  · exact .inl h
  · by_cases hz : xs = []
    · exact .inl hz
    · exact .inr ⟨b, off, cur, rfl, (hs ⟨b, off, none⟩ rfl hz).trans hh, hc⟩
theorem RV.lt {w : World} {a : Option Addr} {xs : List Pv} (h : RV w a xs) : ∀ x, a = some x → xs ≠ [] → x.block < w.heap.size := by
  intro x hx hz
  rcases h with h | ⟨b, off, cur, rfl, hh, hc⟩
  · exact absurd h hz
  · simp at hx; subst hx
    exact lt_of_block hh
theorem RV.old {w w' : World} {a : Option Addr} {xs : List Pv} (h : RV w a xs) (hb : Below w.heap.size w w') : RV w' a xs := h.same fun x hx hz => hb.block _ (h.lt x hx hz)
theorem RV.at {w : World} {a : Option Addr} {xs : List Pv} (h : RV w a xs) (i : Nat) (hi : i < xs.length) : ∃ b off, a = some ⟨b, off, none⟩ ∧ w.cell? ⟨b, off + i * 2, none⟩ = some (.int .i64 (xs[i]?.getD default).wt) ∧ w.cell? ⟨b, off + i * 2 + 1, none⟩ = some (.slice (some ⟨(xs[i]?.getD default).b, 0, none⟩) (xs[i]?.getD default).n (xs[i]?.getD default).c) := by
  rcases h with rfl | ⟨b, off, cur, rfl, hh, hc⟩
  · simp at hi
  · obtain ⟨q0, q1⟩ := flat_at xs i hi
    exact ⟨b, off, rfl, by simp [World.cell?, hh, hc _ _ q0], by rw [Nat.add_assoc]; simp [World.cell?, hh, hc _ _ q1]⟩
theorem RV.news {w : World} {x : Addr} {xs : List Pv} (h : RV w (some x) xs) : ∀ j u, (flat xs)[j]? = some u → w.cell? (x.add j) = some u := by
  intro j u hj
  rcases h with rfl | ⟨b, off, cur, hx, hh, hc⟩
  · simp [flat] at hj
  · simp at hx
    subst hx
    have h1 := hc j u hj
    cases j with
    | zero => simp only [Nat.add_zero] at h1; simp [Addr.add, World.cell?, hh, h1]
    | succ k => simp [Addr.add, World.cell?, hh, h1]
theorem PRow.rv {w : World} {base : Nat} {a : Option Addr} {n cap : Nat} {xs : List Pv} (h : PRow w base (.slice a n cap) xs) : n = xs.length ∧ n ≤ cap ∧ (a = none → cap = 0) ∧ RV w a xs ∧ (∀ x, a = some x → base ≤ x.block) := by
  rcases h.2 with ⟨h, h0⟩ | ⟨g, cap', cur, h, hb, hh, h1, h2, h3, h4⟩
  · simp only [Value.slice.injEq] at h
    obtain ⟨rfl, rfl, rfl⟩ := h
    exact ⟨h0.symm, Nat.le_refl _, fun _ => rfl, .inl (List.length_eq_zero_iff.1 h0), by intro x hx; cases hx⟩
  · simp only [Value.slice.injEq] at h
    obtain ⟨rfl, rfl, rfl⟩ := h
    refine ⟨rfl, h1, (by intro h; cases h), .inr ⟨g, 0, cur, rfl, hh, fun i u hi => ?_⟩, by intro x hx; cases hx; exact hb⟩
    rw [← h4] at hi
    rw [Nat.zero_add]
    rw [List.getElem?_take] at hi
    split at hi
    · simpa using hi
    · cases hi
theorem RV.take {w : World} {a : Option Addr} {xs : List Pv} (h : RV w a xs) (k : Nat) : RV w a (xs.take k) := by
  rcases h with rfl | ⟨b, off, cur, rfl, hh, hc⟩
  · exact .inl (by simp)
  · refine .inr ⟨b, off, cur, rfl, hh, fun i u hi => hc i u ?_⟩
    have e : flat xs = flat (xs.take k) ++ flat (xs.drop k) := by rw [← flat_append, List.take_append_drop]
    rw [e, List.getElem?_append_left]
    · exact hi
    · by_cases hl : i < (flat (xs.take k)).length
      · exact hl
      · rw [List.getElem?_eq_none (by omega)] at hi; cases hi
theorem RV.drop {w : World} {b off : Nat} {xs : List Pv} (h : RV w (some ⟨b, off, none⟩) xs) (k : Nat) (hk : k ≤ xs.length) : RV w (some ⟨b, off + k * 2, none⟩) (xs.drop k) := by
  rcases h with rfl | ⟨b', off', cur, hx, hh, hc⟩
  · exact .inl (by simp)
  · simp at hx
    obtain ⟨rfl, rfl⟩ := hx
    refine .inr ⟨b, off + k * 2, cur, rfl, hh, fun i u hi => ?_⟩
    have e : flat xs = flat (xs.take k) ++ flat (xs.drop k) := by rw [← flat_append, List.take_append_drop]
    have hl : (flat (xs.take k)).length = k * 2 := by rw [flat_len, List.length_take, Nat.min_eq_left hk]
    rw [Nat.add_assoc]
    refine hc (k * 2 + i) u ?_
    rw [e, List.getElem?_append_right (by omega), hl, Nat.add_sub_cancel_left]
    exact hi
end Go.Proofs.Ytjellgkojmgmjaa
