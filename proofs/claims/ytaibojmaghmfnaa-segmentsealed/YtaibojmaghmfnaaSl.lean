/- A slice of one-cell elements in the call's own memory, wherever in its block it begins: what it holds, and what an append to it leaves. -/
import Derived.Test.YtaibojmaghmfnaaRows
import Derived.WalkKit
import Derived.WalkSpells
import Derived.WalkLawsBesides
import Derived.Laws.AppendOwnNone
namespace Go.Proofs.Ytaibojmaghmfnaa
open Go.RowKit

/-- v is a slice that holds xs, in block g (none: nil) of elements of type e. -/
def Sl (w : World) (e : TypeId) (v : Value) (g : Option Nat) (xs : List Value) : Prop :=
  (v = .slice none 0 0 ∧ g = none ∧ xs = []) ∨
  ∃ b off cap cur, v = .slice (some ⟨b, off, none⟩) xs.length cap ∧ g = some b ∧ w.heap[b]? = some (.cells cur e (0, 0)) ∧ off + cap ≤ cur.size ∧ xs.length ≤ cap ∧ cap ≤ maxLen ∧ ∀ i, i < xs.length → cur[off + i]? = xs[i]?

theorem Sl.nil (w : World) (e : TypeId) : Sl w e (.slice none 0 0) none [] := .inl ⟨rfl, rfl, rfl⟩
theorem Sl.shape {w : World} {e : TypeId} {v : Value} {g : Option Nat} {xs : List Value} (h : Sl w e v g xs) : ∃ a cap, v = .slice a xs.length cap ∧ xs.length ≤ cap ∧ cap ≤ maxLen ∧ (a = none → cap = 0) := by
  rcases h with ⟨rfl, _, rfl⟩ | ⟨b, off, cap, cur, rfl, _, _, _, h1, h2, _⟩
  · exact ⟨none, 0, rfl, Nat.le_refl _, by unfold maxLen; omega, fun _ => rfl⟩
  · exact ⟨_, cap, rfl, h1, h2, by intro h; cases h⟩
theorem Sl.lt {w : World} {e : TypeId} {v : Value} {g : Option Nat} {xs : List Value} (h : Sl w e v g xs) {k : Nat} (hk : g = some k) : k < w.heap.size := by
  rcases h with ⟨_, rfl, _⟩ | ⟨b, off, cap, cur, _, rfl, hh, _⟩
  · cases hk
  · cases hk; exact lt_of_block hh
/-- The slice's cells in memory. -/
theorem Sl.cell {w : World} {e : TypeId} {g : Option Nat} {xs : List Value} {b off n cap : Nat} (h : Sl w e (.slice (some ⟨b, off, none⟩) n cap) g xs) (i : Nat) (hi : i < xs.length) : w.cell? ⟨b, off + i, none⟩ = xs[i]? := by
  rcases h with ⟨h, _⟩ | ⟨b', off', cap', cur, h, _, hh, _, _, _, hc⟩
  · cases h
  · simp at h
    obtain ⟨⟨rfl, rfl⟩, _, rfl⟩ := h
    rw [← hc i hi]
    simp [World.cell?, hh]
theorem Sl.frozen {w : World} {e : TypeId} {g : Option Nat} {xs : List Value} {b off n cap : Nat} (h : Sl w e (.slice (some ⟨b, off, none⟩) n cap) g xs) (j : Nat) : w.frozen? ⟨b, j, none⟩ = false := by
  rcases h with ⟨h, _⟩ | ⟨b', off', cap', cur, h, _, hh, _⟩
  · cases h
  · simp at h
    obtain ⟨⟨rfl, rfl⟩, _, rfl⟩ := h
    simp [World.frozen?, hh]
/-- The same block: the same slice. -/
theorem Sl.same {w w' : World} {e : TypeId} {v : Value} {g : Option Nat} {xs : List Value} (h : Sl w e v g xs) (hs : ∀ k, g = some k → w'.heap[k]? = w.heap[k]?) : Sl w' e v g xs := by
  rcases h with h | ⟨b, off, cap, cur, h1, h2, hh, h3⟩
  · exact .inl h
  · exact .inr ⟨b, off, cap, cur, h1, h2, (hs b h2).trans hh, h3⟩
theorem Sl.take {w : World} {e : TypeId} {g : Option Nat} {xs : List Value} {b off n cap : Nat} (h : Sl w e (.slice (some ⟨b, off, none⟩) n cap) g xs) (k : Nat) (hk : k ≤ xs.length) : Sl w e (.slice (some ⟨b, off, none⟩) k cap) g (xs.take k) := by
  rcases h with ⟨h, _⟩ | ⟨b', off', cap', cur, h, hg, hh, h1, h2, h3, hc⟩
  · cases h
  · simp at h
    obtain ⟨⟨rfl, rfl⟩, _, rfl⟩ := h
    have hl : (xs.take k).length = k := by simp; omega
    refine .inr ⟨b, off, cap, cur, by rw [hl], hg, hh, h1, by omega, h3, fun i hi => ?_⟩
    rw [hl] at hi
    rw [hc i (by omega)]
    simp [hi]
theorem Sl.drop {w : World} {e : TypeId} {g : Option Nat} {xs : List Value} {b off n cap : Nat} (h : Sl w e (.slice (some ⟨b, off, none⟩) n cap) g xs) (k : Nat) (hk : k ≤ xs.length) (off' m : Nat) (hm : m = xs.length - k) (ho : (k < cap ∧ off' = off + k) ∨ (k = cap ∧ off' = off)) : Sl w e (.slice (some ⟨b, off', none⟩) m (cap - k)) g (xs.drop k) := by
  rcases h with ⟨h, _⟩ | ⟨b', off2, cap', cur, h, hg, hh, h1, h2, h3, hc⟩
  · cases h
  · simp at h
    obtain ⟨⟨rfl, rfl⟩, _, rfl⟩ := h
    have hl : (xs.drop k).length = xs.length - k := by simp
    refine .inr ⟨b, off', cap - k, cur, by rw [hl, hm], hg, hh, by omega, by omega, by omega, fun i hi => ?_⟩
    rw [hl] at hi
    rcases ho with ⟨_, rfl⟩ | ⟨rfl, rfl⟩
    · rw [Nat.add_assoc, hc (k + i) (by omega)]; simp
    · omega
theorem Sl.of_owns {w : World} {base e : Nat} {v : Value} {n : Nat} {xs : List Value} (h : w.ownsRow base e 1 v n xs) : ∃ g, Sl w e v g xs ∧ (∀ k, g = some k → base ≤ k) := by
  have hl : xs.length = n := by have := h.1; omega
  rcases h.2 with ⟨rfl, rfl⟩ | ⟨b, cap, cur, rfl, hb, hh, h1, h2, h3, h4⟩
  · exact ⟨none, .inl ⟨rfl, rfl, List.length_eq_zero_iff.1 hl⟩, by intro k hk; cases hk⟩
  · subst hl
    refine ⟨some b, .inr ⟨b, 0, cap, cur, rfl, rfl, hh, by omega, h1, h2, fun i hi => ?_⟩, by intro k hk; cases hk; exact hb⟩
    rw [← h4]
    simp [hi]

def setArr (cur : Array Value) : Nat → List Value → Array Value
  | _, [] => cur
  | o, v :: r => setArr (cur.setIfInBounds o v) (o + 1) r
theorem setArr_size : ∀ (vs : List Value) (cur : Array Value) (o : Nat), (setArr cur o vs).size = cur.size
  | [], _, _ => rfl
  | v :: r, cur, o => by rw [setArr, setArr_size r]; simp
theorem setArr_out : ∀ (vs : List Value) (cur : Array Value) (o i : Nat), i < o → (setArr cur o vs)[i]? = cur[i]?
  | [], _, _, _, _ => rfl
  | v :: r, cur, o, i, h => by rw [setArr, setArr_out r _ _ _ (by omega), Array.getElem?_setIfInBounds_ne (by omega)]
theorem setArr_in : ∀ (vs : List Value) (cur : Array Value) (o : Nat), o + vs.length ≤ cur.size → ∀ j, j < vs.length → (setArr cur o vs)[o + j]? = vs[j]?
  | v :: r, cur, o, h, 0, _ => by
    rw [setArr, setArr_out r _ _ _ (by omega), Nat.add_zero, Array.getElem?_setIfInBounds_self_of_lt (by simp at h; omega)]; rfl
  | v :: r, cur, o, h, j + 1, hj => by
    rw [setArr, show o + (j + 1) = o + 1 + j by omega, setArr_in r _ (o + 1) (by simp at h ⊢; omega) j (by simpa using hj)]; simp
theorem heap_setCells {b e : Nat} : ∀ (vs : List Value) (w : World) (o : Nat) (cur : Array Value), w.heap[b]? = some (.cells cur e (0, 0)) → (w.setCells b o vs).heap[b]? = some (.cells (setArr cur o vs) e (0, 0))
  | [], _, _, _, h => h
  | v :: r, w, o, cur, h => by
    rw [World.setCells, setArr]
    exact heap_setCells r _ _ _ (heap_setCell_same w b o cur e v h)
theorem grownBy_setCells (b : Nat) : ∀ (vs : List Value) (o : Nat) (w : World), w.grownBy (w.setCells b o vs) (some b)
  | [], _, w => ⟨rfl, rfl, rfl, Nat.le_refl _, fun _ _ _ => rfl⟩
  | v :: r, o, w => by
    have h1 : w.grownBy (w.setCell ⟨b, o, none⟩ v) (some b) := ⟨rfl, rfl, rfl, by simp [World.setCell], fun k _ hk => Below.heap_setCell w _ v k (fun e => hk (by rw [e]))⟩
    have h2 := grownBy_setCells b r (o + 1) (w.setCell ⟨b, o, none⟩ v)
    exact ⟨h2.os.trans h1.os, h2.tape.trans h1.tape, h2.output.trans h1.output, Nat.le_trans h1.size h2.size, fun k hk hr => (h2.block k (Nat.lt_of_lt_of_le hk h1.size) hr).trans (h1.block k hk hr)⟩

/-- 'append(s, x...)': s in the call's own memory, x one-cell elements that lie in memory (not nil). -/
theorem wpList_append_sl {w : World} {ops : Array Oper} {rest : List Oper} {o : Oper} {a : Act} {Q : Exit → Act → World → Prop} (hgd : o.guard = none) (s x : Operand) (t : TypeId)
    (ho : o.op = .call { callee := .builtin .append, args := #[s, x], argTypes := #[t, t] })
    (e : TypeId) (i : TypeInfo) (z : Value) (bytes : Nat) (ht : Try.prog.underlying t = some (.slice e)) (hi : Try.prog.info? e = some i) (hz : i.zero = some z) (hsize : i.size = 1) (hby : i.bytes = bytes) (hzs : z.cells.size = 1)
    (v : Value) (g : Option Nat) (xs : List Value) (hs : a.eval s = v) (hsl : Sl w e v g xs)
    (ad : Addr) (m c : Nat) (news : List Value) (hx : a.eval x = .slice (some ad) m c) (hm : news.length = m) (hnews : ∀ j u, news[j]? = some u → w.cell? (ad.add j) = some u) (h1 : ∀ u ∈ news, u.oneCell' = true)
    (hsum : (xs.length + m) * bytes ≤ 140737488355328) (hlen : xs.length + m ≤ maxLen)
    (h : ∀ v' w' g', Sl w' e v' g' (xs ++ news) → (g' = g ∨ ∃ k, g' = some k ∧ w.heap.size ≤ k) → w.grownBy w' g → wpList Try.prog ops Q rest (a.put o.dst v') w') : wpList Try.prog ops Q (o :: rest) a w := by
  rcases hsl with ⟨rfl, rfl, rfl⟩ | ⟨b, off, cap, cur, rfl, rfl, hh, h2, h3, h4, hc⟩
  · refine wpList_append_own w hgd s x t ho w.heap.size e i z 1 bytes ht hi hz hsize hby hzs (by decide) _ 0 [] hs (World.ownsRow_nil _ _ _ _) ad m c news hx (by omega) hnews h1 (by simpa using hlen) (by simpa using hsum) (Nat.le_refl _) ?_
    intro v' w' hown hgrow _
    obtain ⟨g', hsl', hg'⟩ := Sl.of_owns hown
    refine h v' w' g' hsl' ?_ hgrow
    cases g' with
    | none => exact .inl rfl
    | some k => exact .inr ⟨k, rfl, hg' k rfl⟩
  · have hcell : ∀ j u, xs[j]? = some u → w.cell? ⟨b, off + j, none⟩ = some u := by
      intro j u hj
      have hj' : j < xs.length := by
        by_cases hq : j < xs.length
        · exact hq
        · rw [List.getElem?_eq_none (by omega)] at hj; cases hj
      rw [← hj, ← hc j hj']
      simp [World.cell?, hh]
    refine wpList_append_arg w hgd s x t ho e i z 1 bytes ht hi hz hsize hby hzs (by decide) b off xs.length cap xs hs (by omega) hcell ad m c news hx (by omega) hnews h1 ?_ hlen hsum ?_ ?_
    · intro hr j hj
      refine ⟨?_, by simp [World.frozen?, hh]⟩
      simp only [World.cell?, hh]
      simp
      omega
    · intro hr
      refine h _ _ (some b) ?_ (.inl rfl) (grownBy_setCells b news _ w)
      refine .inr ⟨b, off, cap, setArr cur (off + xs.length * 1) news, by rw [List.length_append, hm], rfl, heap_setCells _ _ _ _ hh, by rw [setArr_size]; exact h2, by rw [List.length_append]; omega, h4, fun j hj => ?_⟩
      rw [List.length_append] at hj
      by_cases hjx : j < xs.length
      · rw [setArr_out _ _ _ _ (by omega), hc j hjx, List.getElem?_append_left hjx]
      · rw [show off + j = off + xs.length * 1 + (j - xs.length) by omega, setArr_in _ _ _ (by omega) _ (by omega), List.getElem?_append_right (by omega)]
    · intro hr v' w' hown hgrow
      obtain ⟨g', hsl', hg'⟩ := Sl.of_owns hown
      refine h v' w' g' hsl' ?_ ⟨hgrow.os, hgrow.tape, hgrow.output, hgrow.size, fun k hk _ => hgrow.block k hk (by simp)⟩
      rcases hsl' with ⟨_, rfl, hnil⟩ | ⟨b', _, _, _, _, rfl, _⟩
      · simp at hnil
        have l1 : xs.length = 0 := by rw [hnil.1]; rfl
        have l2 : news.length = 0 := by rw [hnil.2]; rfl
        omega
      · exact .inr ⟨b', rfl, hg' b' rfl⟩
end Go.Proofs.Ytaibojmaghmfnaa
