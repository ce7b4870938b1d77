/- Joined: Sl Num Bas ArgB HfM. -/
import Derived.Test.YtloagniacjfkfaaGreatDoorRows
import Derived.WalkKit
import Derived.WalkSpells
import Derived.WalkLawsBesides
import Derived.Laws.AppendOwnNone
import Derived.Deep.QuietTactic
import Derived.BigQuiet
import Derived.Below
import Derived.ProofKit
import Derived.OpenShut
import Derived.ShutString
import Derived.SizedLaws
/- A slice of one-cell elements in the call's own memory, wherever in its block it begins: what it holds, and what an append to it leaves. -/
namespace Go.Proofs.YtloagniacjfkfaaGreatDoor
open Go.RowKit

/-- v is a slice that holds xs, in block g (none: nil) of elements of type e. -/
def Sl (w : World) (e : TypeId) (v : Value) (g : Option Nat) (xs : List Value) : Prop :=
  (v = .slice none 0 0 ∧ g = none ∧ xs = []) ∨
  ∃ b off cap cur, v = .slice (some ⟨b, off, none⟩) xs.length cap ∧ g = some b ∧ w.heap[b]? = some (.cells cur e (0, 0)) ∧ off + cap ≤ cur.size ∧ xs.length ≤ cap ∧ cap ≤ maxLen ∧ ∀ i, i < xs.length → cur[off + i]? = xs[i]?

theorem Sl.nil (w : World) (e : TypeId) : Sl w e (.slice none 0 0) none [] := .inl ⟨rfl, rfl, rfl⟩
theorem Sl.shape {w : World} {e : TypeId} {v : Value} {g : Option Nat} {xs : List Value} (h : Sl w e v g xs) : ∃ a cap, v = .slice a xs.length cap ∧ xs.length ≤ cap ∧ cap ≤ maxLen ∧ (a = none → cap = 0) := by
  rcases h with ⟨rfl, _, rfl⟩ | ⟨b, off, cap, cur, rfl, _, _, _, h1, h2, _⟩
  · exact ⟨none, 0, rfl, Nat.le_refl _, by unfold maxLen; omega, fun _ => rfl⟩
  · exact ⟨_, cap, rfl, h1, h2, by intro h; cases h⟩
theorem Sl.lt {w : World} {e : TypeId} {v : Value} {g : Option Nat} {xs : List Value} (h : Sl w e v g xs) {k : Nat} (hk : g = some k) : k < w.heap.size := by
  rcases h with ⟨_, rfl, _⟩ | ⟨b, off, cap, cur, _, rfl, hh, _⟩
  · cases hk
  · cases hk; exact lt_of_block hh
/-- The slice's cells in memory. -/
theorem Sl.cell {w : World} {e : TypeId} {g : Option Nat} {xs : List Value} {b off n cap : Nat} (h : Sl w e (.slice (some ⟨b, off, none⟩) n cap) g xs) (i : Nat) (hi : i < xs.length) : w.cell? ⟨b, off + i, none⟩ = xs[i]? := by
  rcases h with ⟨h, _⟩ | ⟨b', off', cap', cur, h, _, hh, _, _, _, hc⟩
  · cases h
  · simp at h
    obtain ⟨⟨rfl, rfl⟩, _, rfl⟩ := h
    rw [← hc i hi]
    simp [World.cell?, hh]
theorem Sl.frozen {w : World} {e : TypeId} {g : Option Nat} {xs : List Value} {b off n cap : Nat} (h : Sl w e (.slice (some ⟨b, off, none⟩) n cap) g xs) (j : Nat) : w.frozen? ⟨b, j, none⟩ = false := by
  rcases h with ⟨h, _⟩ | ⟨b', off', cap', cur, h, _, hh, _⟩
  · cases h
  · simp at h
    obtain ⟨⟨rfl, rfl⟩, _, rfl⟩ := h
    simp [World.frozen?, hh]
/-- The same block: the same slice. -/
theorem Sl.same {w w' : World} {e : TypeId} {v : Value} {g : Option Nat} {xs : List Value} (h : Sl w e v g xs) (hs : ∀ k, g = some k → w'.heap[k]? = w.heap[k]?) : Sl w' e v g xs := by
  rcases h with h | ⟨b, off, cap, cur, h1, h2, hh, h3⟩
  · exact .inl h
  · exact .inr ⟨b, off, cap, cur, h1, h2, (hs b h2).trans hh, h3⟩
theorem Sl.take {w : World} {e : TypeId} {g : Option Nat} {xs : List Value} {b off n cap : Nat} (h : Sl w e (.slice (some ⟨b, off, none⟩) n cap) g xs) (k : Nat) (hk : k ≤ xs.length) : Sl w e (.slice (some ⟨b, off, none⟩) k cap) g (xs.take k) := by
  rcases h with ⟨h, _⟩ | ⟨b', off', cap', cur, h, hg, hh, h1, h2, h3, hc⟩
  · cases h
  · simp at h
    obtain ⟨⟨rfl, rfl⟩, _, rfl⟩ := h
    have hl : (xs.take k).length = k := by simp; omega
    refine .inr ⟨b, off, cap, cur, by rw [hl], hg, hh, h1, by omega, h3, fun i hi => ?_⟩
    rw [hl] at hi
    rw [hc i (by omega)]
    simp [hi]
theorem Sl.drop {w : World} {e : TypeId} {g : Option Nat} {xs : List Value} {b off n cap : Nat} (h : Sl w e (.slice (some ⟨b, off, none⟩) n cap) g xs) (k : Nat) (hk : k ≤ xs.length) (off' m : Nat) (hm : m = xs.length - k) (ho : (k < cap ∧ off' = off + k) ∨ (k = cap ∧ off' = off)) : Sl w e (.slice (some ⟨b, off', none⟩) m (cap - k)) g (xs.drop k) := by
  rcases h with ⟨h, _⟩ | ⟨b', off2, cap', cur, h, hg, hh, h1, h2, h3, hc⟩
  · cases h
  · simp at h
    obtain ⟨⟨rfl, rfl⟩, _, rfl⟩ := h
    have hl : (xs.drop k).length = xs.length - k := by simp
    refine .inr ⟨b, off', cap - k, cur, by rw [hl, hm], hg, hh, by omega, by omega, by omega, fun i hi => ?_⟩
    rw [hl] at hi
    rcases ho with ⟨_, rfl⟩ | ⟨rfl, rfl⟩
    · rw [Nat.add_assoc, hc (k + i) (by omega)]; simp
    · omega
theorem Sl.of_owns {w : World} {base e : Nat} {v : Value} {n : Nat} {xs : List Value} (h : w.ownsRow base e 1 v n xs) : ∃ g, Sl w e v g xs ∧ (∀ k, g = some k → base ≤ k) := by
  have hl : xs.length = n := by have := h.1; omega
  rcases h.2 with ⟨rfl, rfl⟩ | ⟨b, cap, cur, rfl, hb, hh, h1, h2, h3, h4⟩
  · exact ⟨none, .inl ⟨rfl, rfl, List.length_eq_zero_iff.1 hl⟩, by intro k hk; cases hk⟩
  · subst hl
    refine ⟨some b, .inr ⟨b, 0, cap, cur, rfl, rfl, hh, by omega, h1, h2, fun i hi => ?_⟩, by intro k hk; cases hk; exact hb⟩
    rw [← h4]
    simp [hi]

def setArr (cur : Array Value) : Nat → List Value → Array Value
  | _, [] => cur
  | o, v :: r => setArr (cur.setIfInBounds o v) (o + 1) r
theorem setArr_size : ∀ (vs : List Value) (cur : Array Value) (o : Nat), (setArr cur o vs).size = cur.size
  | [], _, _ => rfl
  | v :: r, cur, o => by rw [setArr, setArr_size r]; simp
theorem setArr_out : ∀ (vs : List Value) (cur : Array Value) (o i : Nat), i < o → (setArr cur o vs)[i]? = cur[i]?
  | [], _, _, _, _ => rfl
  | v :: r, cur, o, i, h => by rw [setArr, setArr_out r _ _ _ (by omega), Array.getElem?_setIfInBounds_ne (by omega)]
theorem setArr_in : ∀ (vs : List Value) (cur : Array Value) (o : Nat), o + vs.length ≤ cur.size → ∀ j, j < vs.length → (setArr cur o vs)[o + j]? = vs[j]?
  | v :: r, cur, o, h, 0, _ => by
    rw [setArr, setArr_out r _ _ _ (by omega), Nat.add_zero, Array.getElem?_setIfInBounds_self_of_lt (by simp at h; omega)]; rfl
  | v :: r, cur, o, h, j + 1, hj => by
    rw [setArr, show o + (j + 1) = o + 1 + j by omega, setArr_in r _ (o + 1) (by simp at h ⊢; omega) j (by simpa using hj)]; simp
theorem heap_setCells {b e : Nat} : ∀ (vs : List Value) (w : World) (o : Nat) (cur : Array Value), w.heap[b]? = some (.cells cur e (0, 0)) → (w.setCells b o vs).heap[b]? = some (.cells (setArr cur o vs) e (0, 0))
  | [], _, _, _, h => h
  | v :: r, w, o, cur, h => by
    rw [World.setCells, setArr]
    exact heap_setCells r _ _ _ (heap_setCell_same w b o cur e v h)
theorem grownBy_setCells (b : Nat) : ∀ (vs : List Value) (o : Nat) (w : World), w.grownBy (w.setCells b o vs) (some b)
  | [], _, w => ⟨rfl, rfl, rfl, Nat.le_refl _, fun _ _ _ => rfl⟩
  | v :: r, o, w => by
    have h1 : w.grownBy (w.setCell ⟨b, o, none⟩ v) (some b) := ⟨rfl, rfl, rfl, by simp [World.setCell], fun k _ hk => Below.heap_setCell w _ v k (fun e => hk (by rw [e]))⟩
    have h2 := grownBy_setCells b r (o + 1) (w.setCell ⟨b, o, none⟩ v)
    exact ⟨h2.os.trans h1.os, h2.tape.trans h1.tape, h2.output.trans h1.output, Nat.le_trans h1.size h2.size, fun k hk hr => (h2.block k (Nat.lt_of_lt_of_le hk h1.size) hr).trans (h1.block k hk hr)⟩

/-- 'append(s, x...)': s in the call's own memory, x one-cell elements that lie in memory (not nil). -/
theorem wpList_append_sl {w : World} {ops : Array Oper} {rest : List Oper} {o : Oper} {a : Act} {Q : Exit → Act → World → Prop} (hgd : o.guard = none) (s x : Operand) (t : TypeId)
    (ho : o.op = .call { callee := .builtin .append, args := #[s, x], argTypes := #[t, t] })
    (e : TypeId) (i : TypeInfo) (z : Value) (bytes : Nat) (ht : Tryz.prog.underlying t = some (.slice e)) (hi : Tryz.prog.info? e = some i) (hz : i.zero = some z) (hsize : i.size = 1) (hby : i.bytes = bytes) (hzs : z.cells.size = 1)
    (v : Value) (g : Option Nat) (xs : List Value) (hs : a.eval s = v) (hsl : Sl w e v g xs)
    (ad : Addr) (m c : Nat) (news : List Value) (hx : a.eval x = .slice (some ad) m c) (hm : news.length = m) (hnews : ∀ j u, news[j]? = some u → w.cell? (ad.add j) = some u) (h1 : ∀ u ∈ news, u.oneCell' = true)
    (hsum : (xs.length + m) * bytes ≤ 140737488355328) (hlen : xs.length + m ≤ maxLen)
    (h : ∀ v' w' g', Sl w' e v' g' (xs ++ news) → (g' = g ∨ ∃ k, g' = some k ∧ w.heap.size ≤ k) → w.grownBy w' g → wpList Tryz.prog ops Q rest (a.put o.dst v') w') : wpList Tryz.prog ops Q (o :: rest) a w := by
  rcases hsl with ⟨rfl, rfl, rfl⟩ | ⟨b, off, cap, cur, rfl, rfl, hh, h2, h3, h4, hc⟩
  · refine wpList_append_own w hgd s x t ho w.heap.size e i z 1 bytes ht hi hz hsize hby hzs (by decide) _ 0 [] hs (World.ownsRow_nil _ _ _ _) ad m c news hx (by omega) hnews h1 (by simpa using hlen) (by simpa using hsum) (Nat.le_refl _) ?_
    intro v' w' hown hgrow _
    obtain ⟨g', hsl', hg'⟩ := Sl.of_owns hown
    refine h v' w' g' hsl' ?_ hgrow
    cases g' with
    | none => exact .inl rfl
    | some k => exact .inr ⟨k, rfl, hg' k rfl⟩
  · have hcell : ∀ j u, xs[j]? = some u → w.cell? ⟨b, off + j, none⟩ = some u := by
      intro j u hj
      have hj' : j < xs.length := by
        by_cases hq : j < xs.length
        · exact hq
        · rw [List.getElem?_eq_none (by omega)] at hj; cases hj
      rw [← hj, ← hc j hj']
      simp [World.cell?, hh]
    refine wpList_append_arg w hgd s x t ho e i z 1 bytes ht hi hz hsize hby hzs (by decide) b off xs.length cap xs hs (by omega) hcell ad m c news hx (by omega) hnews h1 ?_ hlen hsum ?_ ?_
    · intro hr j hj
      refine ⟨?_, by simp [World.frozen?, hh]⟩
      simp only [World.cell?, hh]
      simp
      omega
    · intro hr
      refine h _ _ (some b) ?_ (.inl rfl) (grownBy_setCells b news _ w)
      refine .inr ⟨b, off, cap, setArr cur (off + xs.length * 1) news, by rw [List.length_append, hm], rfl, heap_setCells _ _ _ _ hh, by rw [setArr_size]; exact h2, by rw [List.length_append]; omega, h4, fun j hj => ?_⟩
      rw [List.length_append] at hj
      by_cases hjx : j < xs.length
      · rw [setArr_out _ _ _ _ (by omega), hc j hjx, List.getElem?_append_left hjx]
      · rw [show off + j = off + xs.length * 1 + (j - xs.length) by omega, setArr_in _ _ _ (by omega) _ (by omega), List.getElem?_append_right (by omega)]
    · intro hr v' w' hown hgrow
      obtain ⟨g', hsl', hg'⟩ := Sl.of_owns hown
      refine h v' w' g' hsl' ?_ ⟨hgrow.os, hgrow.tape, hgrow.output, hgrow.size, fun k hk _ => hgrow.block k hk (by simp)⟩
      rcases hsl' with ⟨_, rfl, hnil⟩ | ⟨b', _, _, _, _, rfl, _⟩
      · simp at hnil
        have l1 : xs.length = 0 := by rw [hnil.1]; rfl
        have l2 : news.length = 0 := by rw [hnil.2]; rfl
        omega
      · exact .inr ⟨b', rfl, hg' b' rfl⟩
end Go.Proofs.YtloagniacjfkfaaGreatDoor
/- Plain facts on numbers made of bytes: the highest first ('bigN'), the lowest first ('litN'); no program in it. -/
namespace Go.Proofs.YtloagniacjfkfaaGreatDoor
open Go.RowKit

def bigN (zs : List Int) : Int := zs.foldl (fun v x => v * 256 + x) 0
def litN : List Int → Int
  | [] => 0
  | x :: r => x + 256 * litN r
def Bytes (zs : List Int) : Prop := ∀ z ∈ zs, 0 ≤ z ∧ z < 256

theorem bigN_nil : bigN [] = 0 := rfl
theorem bigN_snoc (l : List Int) (x : Int) : bigN (l ++ [x]) = bigN l * 256 + x := by simp [bigN, List.foldl_append]
theorem litN_snoc (l : List Int) (x : Int) : litN (l ++ [x]) = litN l + x * 256 ^ l.length := by
  induction l with
  | nil => simp [litN]
  | cons y r ih => simp only [List.cons_append, litN, ih, List.length_cons]; rw [Int.pow_succ]; rw [Int.mul_add, ← Int.add_assoc, Int.mul_comm (256 ^ r.length) 256, ← Int.mul_assoc 256, ← Int.mul_assoc x, Int.mul_comm x 256]
theorem bigN_reverse (l : List Int) : bigN l.reverse = litN l := by
  induction l with
  | nil => rfl
  | cons y r ih => rw [List.reverse_cons, bigN_snoc, ih, litN]; omega
theorem litN_reverse (l : List Int) : litN l.reverse = bigN l := by rw [← bigN_reverse, List.reverse_reverse]

theorem Bytes.nil : Bytes [] := by intro z hz; cases hz
theorem Bytes.take {l : List Int} (h : Bytes l) (k : Nat) : Bytes (l.take k) := fun z hz => h z (List.mem_of_mem_take hz)
theorem Bytes.drop {l : List Int} (h : Bytes l) (k : Nat) : Bytes (l.drop k) := fun z hz => h z (List.mem_of_mem_drop hz)
theorem Bytes.reverse {l : List Int} (h : Bytes l) : Bytes l.reverse := fun z hz => h z (by simpa using hz)
theorem Bytes.append {l m : List Int} (h : Bytes l) (k : Bytes m) : Bytes (l ++ m) := fun z hz => by
  rcases List.mem_append.1 hz with q | q
  · exact h z q
  · exact k z q
theorem Bytes.at {l : List Int} (h : Bytes l) (k : Nat) : 0 ≤ l[k]?.getD 0 ∧ l[k]?.getD 0 < 256 := by
  by_cases hk : k < l.length
  · rw [List.getElem?_eq_getElem hk]; exact h _ (List.getElem_mem hk)
  · rw [List.getElem?_eq_none (by omega)]; simp
theorem take_snoc (l : List Int) (k : Nat) (hk : k < l.length) : l.take (k + 1) = l.take k ++ [l[k]?.getD 0] := by
  rw [List.take_succ_eq_append_getElem hk, List.getElem?_eq_getElem hk]; rfl
theorem pow_256_pos (n : Nat) : (0 : Int) < 256 ^ n := Int.pow_pos (by omega)
theorem litN_bound {l : List Int} (h : Bytes l) : 0 ≤ litN l ∧ litN l < 256 ^ l.length := by
  induction l with
  | nil => simp [litN]
  | cons y r ih =>
    have hy := h y (by simp)
    have hr := ih (fun z hz => h z (by simp [hz]))
    simp only [litN, List.length_cons, Int.pow_succ]
    omega
theorem bigN_bound {l : List Int} (h : Bytes l) : 0 ≤ bigN l ∧ bigN l < 256 ^ l.length := by
  have := litN_bound h.reverse
  rwa [litN_reverse, List.length_reverse] at this
theorem pow_le_4 {n : Nat} (h : n ≤ 4) : (256 : Int) ^ n ≤ 4294967296 := by
  match n, h with
  | 0, _ => decide
  | 1, _ => decide
  | 2, _ => decide
  | 3, _ => decide
  | 4, _ => decide
theorem bigN_le {l : List Int} (h : Bytes l) (h4 : l.length ≤ 4) : 0 ≤ bigN l ∧ bigN l < 4294967296 := by
  have a := bigN_bound h; have b := pow_le_4 h4; omega
theorem litN_le {l : List Int} (h : Bytes l) (h4 : l.length ≤ 4) : 0 ≤ litN l ∧ litN l < 4294967296 := by
  have a := litN_bound h; have b := pow_le_4 h4; omega
theorem big_lt {l : List Int} (h : Bytes l) (h3 : l.length ≤ 3) : bigN l < 16777216 := by
  have a := bigN_bound h
  have : (256 : Int) ^ l.length ≤ 16777216 := by
    match l.length, h3 with
    | 0, _ => decide
    | 1, _ => decide
    | 2, _ => decide
    | 3, _ => decide
  omega

/-- 'v<<8 | x', v of fewer than 56 bits, x a byte. -/
theorem or_step (v x : Int) (h0 : 0 ≤ v) (h1 : v < 72057594037927936) (h2 : 0 ≤ x) (h3 : x < 256) : bits .or .u64 (v * 256) x = v * 256 + x := by
  rw [u64_or _ _ (by omega) (by omega) h2 (by omega)]
  rw [nat_join 8 _ _ (by omega) (by omega)]
  omega

theorem or_gen (L x : Int) (i P : Nat) (hP : P = 2 ^ i) (h0 : 0 ≤ L) (h1 : L < P) (h2 : 0 ≤ x) (h3 : x * P < 18446744073709551616) (h4 : (P : Int) < 18446744073709551616) : bits .or .u64 L (IntKind.u64.wrap (x * P)) = L + x * P := by
  have hx : 0 ≤ x * (P : Int) := Int.mul_nonneg h2 (by omega)
  rw [IntKind.wrap_u64, Int.emod_eq_of_lt hx h3]
  rw [u64_or _ _ h0 (by omega) hx h3, Nat.or_comm]
  have e : (x * (P : Int)).toNat = x.toNat * P := by rw [Int.toNat_mul h2 (by omega)]; simp
  rw [nat_join i _ _ (by rw [e, hP]; exact Nat.mul_mod_left _ _) (by omega)]
  omega
theorem pow_256 (k : Nat) : (256 : Int) ^ k = ((2 ^ (8 * k) : Nat) : Int) := by
  rw [show (256 : Int) = ((2 ^ 8 : Nat) : Int) from rfl, ← Int.natCast_pow, ← Nat.pow_mul]
/-- 'v |= x << (8 * k)', v of fewer than 8 k bits, x a byte, k at most 7. -/
theorem or_at (L x : Int) (k : Nat) (hk : k ≤ 7) (h0 : 0 ≤ L) (h1 : L < 256 ^ k) (h2 : 0 ≤ x) (h3 : x < 256) : bits .or .u64 L (IntKind.u64.wrap (x * 2 ^ (8 * k))) = L + x * 256 ^ k := by
  have hp : (256 : Int) ^ k ≤ 72057594037927936 := by
    match k, hk with
    | 0, _ => decide
    | 1, _ => decide
    | 2, _ => decide
    | 3, _ => decide
    | 4, _ => decide
    | 5, _ => decide
    | 6, _ => decide
    | 7, _ => decide
  have e : (2 : Int) ^ (8 * k) = ((2 ^ (8 * k) : Nat) : Int) := by rw [Int.natCast_pow]; rfl
  have hq := pow_256 k
  have hm : x * 256 ^ k ≤ 255 * 256 ^ k := Int.mul_le_mul_of_nonneg_right (by omega) (by have := pow_256_pos k; omega)
  rw [e, hq]
  exact or_gen L x (8 * k) _ rfl h0 (by rw [← hq]; exact h1) h2 (by rw [← hq]; omega) (by rw [← hq]; omega)
end Go.Proofs.YtloagniacjfkfaaGreatDoor
namespace Go.Proofs.YtloagniacjfkfaaGreatDoor
open Go.RowKit

theorem Tryz.info5 : (Tryz.prog.info? 5).map (fun i => (i.zero, i.size, i.bytes)) = some (some (.int .u8 0), 1, 1) := by kernel_rfl
def vals (zs : List Int) : List Value := zs.map (Value.int .u8)
theorem vals_append (l m : List Int) : vals (l ++ m) = vals l ++ vals m := by simp [vals]
theorem vals_len (l : List Int) : (vals l).length = l.length := by simp [vals]
theorem vals_at (l : List Int) (i : Nat) (hi : i < l.length) : (vals l)[i]? = some (.int .u8 (l[i]?.getD 0)) := by simp [vals, hi]
theorem vals_one (zs : List Int) : ∀ u ∈ vals zs, u.oneCell' = true := by
  intro u hu
  simp only [vals, List.mem_map] at hu
  obtain ⟨z, _, rfl⟩ := hu
  rfl
theorem ret_int {k : IntKind} {a b : Int} (h : a = b) : Ending.returned (.int k a) = .returned (.int k b) := by rw [h]

/-- Bytes that lie in memory. -/
def Row (w : World) (a : Option Addr) (zs : List Int) : Prop :=
  zs = [] ∨ ∃ b off, a = some ⟨b, off, none⟩ ∧ ∀ i, i < zs.length → w.cell? ⟨b, off + i, none⟩ = some (.int .u8 (zs[i]?.getD 0))
theorem cell_lt {w : World} {x : Addr} {v : Value} (h : w.cell? x = some v) : x.block < w.heap.size := by
  unfold World.cell? at h
  by_cases hx : x.block < w.heap.size
  · exact hx
  · rw [Array.getElem?_eq_none (by omega)] at h; simp at h
theorem Row.lt {w : World} {a : Option Addr} {zs : List Int} (h : Row w a zs) : ∀ x, a = some x → zs ≠ [] → x.block < w.heap.size := by
  intro x hx hz
  rcases h with h | ⟨b, off, rfl, hc⟩
  · exact absurd h hz
  · simp at hx; subst hx
    exact cell_lt (hc 0 (List.length_pos_iff.2 hz))
theorem Row.same {w w' : World} {a : Option Addr} {zs : List Int} (h : Row w a zs) (hs : ∀ x, a = some x → zs ≠ [] → w'.heap[x.block]? = w.heap[x.block]?) : Row w' a zs := by
  rcases h with h | ⟨b, off, rfl, hc⟩
  · exact .inl h
  · by_cases hz : zs = []
    · exact .inl hz
    · exact .inr ⟨b, off, rfl, fun i hi => (World.cell?_of_block (a := ⟨b, off + i, none⟩) (hs ⟨b, off, none⟩ rfl hz)).trans (hc i hi)⟩
theorem Row.old {w w' : World} {a : Option Addr} {zs : List Int} (h : Row w a zs) (hb : Below w.heap.size w w') : Row w' a zs := h.same fun x hx hz => hb.block _ (h.lt x hx hz)
theorem news_row {w : World} {x : Addr} {zs : List Int} (h : Row w (some x) zs) : ∀ j u, (vals zs)[j]? = some u → w.cell? (x.add j) = some u := by
  intro j u hj
  rcases h with rfl | ⟨b, off, hx, hc⟩
  · simp [vals] at hj
  · simp at hx
    subst hx
    simp only [vals, List.getElem?_map, Option.map_eq_some_iff] at hj
    obtain ⟨z, hz, rfl⟩ := hj
    have hlt : j < zs.length := by
      by_cases h : j < zs.length
      · exact h
      · rw [List.getElem?_eq_none (by omega)] at hz; cases hz
    have := hc j hlt
    rw [hz] at this
    cases j with
    | zero => simpa [Addr.add] using this
    | succ k => simpa [Addr.add] using this
theorem Sl.row {w : World} {v : Value} {g : Option Nat} {zs : List Int} (h : Sl w 5 v g (vals zs)) {a : Option Addr} {n cap : Nat} (hv : v = .slice a n cap) : Row w a zs := by
  subst hv
  rcases h with ⟨_, _, h⟩ | ⟨b, off, cap', cur, h, _, hh, _, _, _, hc⟩
  · exact .inl (by simpa [vals] using h)
  · simp only [Value.slice.injEq] at h
    obtain ⟨rfl, _, _⟩ := h
    refine .inr ⟨b, off, rfl, fun i hi => ?_⟩
    rw [← vals_at zs i hi, ← hc i (by rw [vals_len]; exact hi)]
    simp [World.cell?, hh]

theorem two_cells {w : World} {c : Nat} {v0 v1 : Value} {t : TypeId} (h : w.heap[c]? = some (.cells #[v0, v1] t (0, 0))) :
    w.cell? ⟨c, 0, none⟩ = some v0 ∧ w.cell? ⟨c, 1, none⟩ = some v1 ∧ w.frozen? ⟨c, 0, none⟩ = false ∧ w.frozen? ⟨c, 1, none⟩ = false := by
  simp [World.cell?, World.frozen?, h]
theorem two_set0 {w : World} {c : Nat} {v0 v1 u : Value} {t : TypeId} (h : w.heap[c]? = some (.cells #[v0, v1] t (0, 0))) : (w.setCell ⟨c, 0, none⟩ u).heap[c]? = some (.cells #[u, v1] t (0, 0)) := by
  simp [World.setCell, Array.getElem?_modify, h]
theorem two_set1 {w : World} {c : Nat} {v0 v1 u : Value} {t : TypeId} (h : w.heap[c]? = some (.cells #[v0, v1] t (0, 0))) : (w.setCell ⟨c, 1, none⟩ u).heap[c]? = some (.cells #[v0, u] t (0, 0)) := by
  simp [World.setCell, Array.getElem?_modify, h]

/-- What a method of a struct at block r, whose slice lies in block g, may change. -/
structure Fr (w w' : World) (r : Nat) (g : Option Nat) : Prop where
  os : w'.os = w.os
  tape : w'.tape = w.tape
  output : w'.output = w.output
  size : w.heap.size ≤ w'.heap.size
  block : ∀ k, k < w.heap.size → k ≠ r → some k ≠ g → w'.heap[k]? = w.heap[k]?
theorem Fr.refl (w : World) (r : Nat) (g : Option Nat) : Fr w w r g := ⟨rfl, rfl, rfl, Nat.le_refl _, fun _ _ _ _ => rfl⟩
theorem Fr.trans {a b c : World} {r : Nat} {g g' : Option Nat} (h : Fr a b r g) (k : Fr b c r g') (hg : g' = g ∨ ∃ k, g' = some k ∧ a.heap.size ≤ k) : Fr a c r g :=
  ⟨k.os.trans h.os, k.tape.trans h.tape, k.output.trans h.output, Nat.le_trans h.size k.size, fun j hj hr hg' => by
    refine (k.block j (Nat.lt_of_lt_of_le hj h.size) hr ?_).trans (h.block j hj hr hg')
    rcases hg with rfl | ⟨q, rfl, hq⟩
    · exact hg'
    · simp; omega⟩
theorem Fr.of_heap {w w' : World} {r : Nat} {g : Option Nat} (h : Below w.heap.size w w') : Fr w w' r g := ⟨h.os, h.tape, h.output, h.size, fun k hk _ _ => h.block k hk⟩
theorem Fr.set {w : World} (r i : Nat) (u : Value) (g : Option Nat) : Fr w (w.setCell ⟨r, i, none⟩ u) r g :=
  ⟨rfl, rfl, rfl, by simp [World.setCell], fun k _ hk _ => Below.heap_setCell w _ u k hk⟩
theorem Fr.grown {w w' : World} {r : Nat} {g : Option Nat} (h : w.grownBy w' g) : Fr w w' r g := ⟨h.os, h.tape, h.output, h.size, fun k hk _ hg => h.block k hk hg⟩
theorem Fr.below {B : Nat} {a w w' : World} {r : Nat} {g : Option Nat} (h : Below B a w) (k : Fr w w' r g) (hr : B ≤ r) (hg : ∀ q, g = some q → B ≤ q) (hs : B ≤ w.heap.size) : Below B a w' :=
  ⟨k.os.trans h.os, k.tape.trans h.tape, k.output.trans h.output, Nat.le_trans h.size k.size, fun j hj => (k.block j (by omega) (by omega) (fun e => by have := hg j e.symm; omega)).trans (h.block j hj)⟩
end Go.Proofs.YtloagniacjfkfaaGreatDoor
namespace Go.Proofs.YtloagniacjfkfaaGreatDoor
open Go.ChangeShapes Go.WideShapes Go.ChangeAt Go.RowKit

theorem row_of_arg {w : World} {k : Nat} {zs : List Int} {x : Addr} (hk : k ≤ zs.length) (h : ∀ i, i < zs.length → w.cell? (x.add i) = some (.int .u8 (zs.getD i 0))) : Row w (some x) (zs.take k) := by
  by_cases h0 : k = 0
  · subst h0; exact .inl rfl
  · obtain ⟨b, off, spot⟩ := x
    have hc := h 0 (by omega)
    have hspot : spot = none := by simpa [Addr.add] using World.cell?_spot hc
    subst hspot
    refine .inr ⟨b, off, rfl, fun i hi => ?_⟩
    rw [List.length_take] at hi
    have h1 : i < k := by omega
    have hq := h i (by omega)
    simp only [List.getElem?_take, h1, if_true]
    cases i with
    | zero => simpa [Addr.add] using hq
    | succ j => simpa [Addr.add] using hq
theorem bytes_of_wf {zs : List Int} (h : ∀ n ∈ zs, (Lit.int .u8 n).wf = true) : Bytes zs := by
  intro z hz
  have := bounds_u8 (h z hz)
  omega

theorem Tryz.bytes5 : Tryz.prog.bytesOf 5 = 1 := by kernel_rfl
theorem Tryz.cells5 : Tryz.prog.cellsOf 5 = 1 := by kernel_rfl
theorem Tryz.own : ownKnob Tryz.prog.godebug = none := by kernel_rfl
theorem Tryz.laidOut : laidOutB Tryz.prog = true := by kernel_rfl

/-- What is known of bytes that came in: they lie in memory, within the form's reach. -/
def BArg (W : World) (a : Option Addr) (len cap : Nat) : Prop :=
  ∃ zs : List Int, Bytes zs ∧ zs.length = len ∧ len ≤ cap ∧ cap ≤ 140737488351232 ∧ (a = none → cap = 0) ∧ Row W a zs

theorem open_bytes {H : Type} {enc : TypeId × Value → H} {W : World} {a : Option Addr} {len cap j : Nat} {d : DataW H} {p : List MemPlace} {ts : List TypeId} {ds : List (DataW H)}
    (h0 : DataW.Trod enc Tryz.prog W 0 (fun _ => true) true 22 (.slice a len cap) d p) (hsz : (DataW.weightsEach Tryz.prog ts ds).all (· ≤ reachBytes) = true) (ht : ts[j]? = some 22) (hd : ds[j]? = some d) : BArg W a len cap := by
  obtain ⟨fuel, hf⟩ := h0
  rcases open_ints Tryz.underlying22 Tryz.underlying5 Tryz.cells5 hf with ⟨hcs, _⟩ | ⟨x, l, c, zs, hcs, _, hl, hm, hz, hx, hcell, hwz⟩
  · simp [Value.cells] at hcs
    obtain ⟨rfl, rfl, rfl⟩ := hcs
    exact ⟨[], Bytes.nil, rfl, Nat.le_refl _, by omega, fun _ => rfl, .inl rfl⟩
  · simp [Value.cells] at hcs
    obtain ⟨rfl, rfl, rfl⟩ := hcs
    simp only [Prod.mk.injEq] at hx
    obtain ⟨rfl, rfl⟩ := hx
    simp only [if_true] at hz
    have hr := sized_slice hsz (j := j) (t := 22) (e := 5) ht hd Tryz.underlying22
    rw [Tryz.bytes5] at hr
    simp only [lits, List.length_map, List.length_take, List.length_drop, reachBytes] at hr
    refine ⟨zs.take len, (bytes_of_wf hwz).take _, by rw [List.length_take]; omega, hl, by omega, (by intro h; cases h), row_of_arg (by omega) hcell⟩
end Go.Proofs.YtloagniacjfkfaaGreatDoor
/- Canonical codes by their words' lengths: plain numbers; no program in it. -/
namespace Go.Proofs.YtloagniacjfkfaaGreatDoor
open Go.RowKit

/-- What a word of n bits takes of 2^15. -/
def hshr (n : Nat) : Nat := if n = 0 then 0 else 2 ^ (15 - n)
def kraft (ns : List Nat) : Nat := (ns.map hshr).sum
/-- What the shorter words take. -/
def hlow (n : Nat) (ns : List Nat) : Nat := (ns.map fun k => if 0 < k ∧ k < n then 2 ^ (15 - k) else 0).sum
/-- What the words of n bits take. -/
def heqs (n : Nat) (ns : List Nat) : Nat := (ns.map fun k => if k = n then 2 ^ (15 - n) else 0).sum
/-- What is taken ahead of symbol i's word, if it is one of n bits. -/
def hst (ns : List Nat) (n i : Nat) : Nat := hlow n ns + heqs n (ns.take i)

theorem hlow_one (ns : List Nat) : hlow 1 ns = 0 := by
  induction ns with
  | nil => rfl
  | cons k r ih =>
    unfold hlow at ih ⊢
    rw [List.map_cons, List.sum_cons, ih, if_neg (by omega)]
theorem hlow_succ (n : Nat) (h : 1 ≤ n) (ns : List Nat) : hlow (n + 1) ns = hlow n ns + heqs n ns := by
  induction ns with
  | nil => rfl
  | cons k r ih =>
    unfold hlow heqs at ih ⊢
    simp only [List.map_cons, List.sum_cons, ih]
    by_cases h1 : k = n
    · subst h1
      rw [if_pos (by omega), if_neg (by omega), if_pos rfl]; omega
    · rw [if_neg h1]
      by_cases h2 : 0 < k ∧ k < n
      · rw [if_pos h2, if_pos (by omega)]; omega
      · rw [if_neg h2, if_neg (by omega)]; omega
theorem hlow_mono {n m : Nat} (h : n ≤ m) (ns : List Nat) : hlow n ns ≤ hlow m ns := by
  induction ns with
  | nil => exact Nat.le_refl _
  | cons k r ih =>
    unfold hlow at ih ⊢
    simp only [List.map_cons, List.sum_cons]
    by_cases h2 : 0 < k ∧ k < n
    · rw [if_pos h2, if_pos (by omega)]; omega
    · rw [if_neg h2]; omega
theorem hlow_kraft (n : Nat) (ns : List Nat) : hlow n ns ≤ kraft ns := by
  induction ns with
  | nil => exact Nat.le_refl _
  | cons k r ih =>
    unfold hlow kraft hshr at ih ⊢
    simp only [List.map_cons, List.sum_cons]
    by_cases h2 : 0 < k ∧ k < n
    · rw [if_pos h2, if_neg (by omega)]; omega
    · rw [if_neg h2]; omega
theorem heqs_snoc (n : Nat) (l : List Nat) (k : Nat) : heqs n (l ++ [k]) = heqs n l + if k = n then 2 ^ (15 - n) else 0 := by
  simp [heqs]
theorem heqs_take_le (n : Nat) (ns : List Nat) (i : Nat) : heqs n (ns.take i) ≤ heqs n ns := by
  conv => rhs; rw [← List.take_append_drop i ns]
  unfold heqs
  rw [List.map_append, List.sum_append]; omega
theorem hst_start (ns : List Nat) : hst ns 1 0 = 0 := by simp [hst, hlow_one, heqs]
theorem hst_end (ns : List Nat) (n : Nat) (h : 1 ≤ n) : hst ns n ns.length = hst ns (n + 1) 0 := by
  simp [hst, hlow_succ n h, heqs]
theorem hst_succ (ns : List Nat) (n i : Nat) (hi : i < ns.length) : hst ns n (i + 1) = hst ns n i + if ns[i]?.getD 0 = n then 2 ^ (15 - n) else 0 := by
  unfold hst
  rw [List.take_succ_eq_append_getElem hi, heqs_snoc, List.getElem?_eq_getElem hi]
  simp [Nat.add_assoc]
theorem hst_mono (ns : List Nat) (n : Nat) {i j : Nat} (h : i ≤ j) : hst ns n i ≤ hst ns n j := by
  unfold hst
  have := heqs_take_le n (ns.take j) i
  rw [List.take_take, Nat.min_eq_left h] at this
  omega
theorem hst_le (ns : List Nat) (n i : Nat) (h : 1 ≤ n) : hst ns n i ≤ kraft ns := by
  have h1 := heqs_take_le n ns i
  have h2 := hlow_succ n h ns
  have h3 := hlow_kraft (n + 1) ns
  unfold hst; omega
theorem hst_later (ns : List Nat) {n m : Nat} (h : n < m) (h1 : 1 ≤ n) (i j : Nat) : hst ns n i ≤ hst ns m j := by
  have e1 := heqs_take_le n ns i
  have e2 := hlow_succ n h1 ns
  have e3 := hlow_mono (show n + 1 ≤ m from h) ns
  unfold hst; omega
theorem hlow_dvd (n : Nat) (hn : n ≤ 15) (ns : List Nat) : 2 ^ (15 - n) ∣ hlow n ns := by
  induction ns with
  | nil => exact ⟨0, rfl⟩
  | cons k r ih =>
    unfold hlow at ih ⊢
    simp only [List.map_cons, List.sum_cons]
    refine Nat.dvd_add ?_ ih
    by_cases h2 : 0 < k ∧ k < n
    · rw [if_pos h2]; exact Nat.pow_dvd_pow 2 (by omega)
    · rw [if_neg h2]; exact ⟨0, by simp⟩
theorem heqs_dvd (n : Nat) (ns : List Nat) : 2 ^ (15 - n) ∣ heqs n ns := by
  induction ns with
  | nil => exact ⟨0, rfl⟩
  | cons k r ih =>
    unfold heqs at ih ⊢
    simp only [List.map_cons, List.sum_cons]
    refine Nat.dvd_add ?_ ih
    by_cases h2 : k = n
    · rw [if_pos h2]; exact Nat.dvd_refl _
    · rw [if_neg h2]; exact ⟨0, by simp⟩
theorem hst_dvd (ns : List Nat) (n i : Nat) (hn : n ≤ 15) : 2 ^ (15 - n) ∣ hst ns n i := Nat.dvd_add (hlow_dvd n hn ns) (heqs_dvd n _)

/-- The number of the next free word of n bits, when the symbols below i are done. -/
def hfree (ns : List Nat) (n i : Nat) : Nat := hst ns n i / 2 ^ (15 - n)
theorem hfree_mul (ns : List Nat) (n i : Nat) (hn : n ≤ 15) : hfree ns n i * 2 ^ (15 - n) = hst ns n i := Nat.div_mul_cancel (hst_dvd ns n i hn)
theorem pow_split (a b : Nat) (h : a ≤ b) : 2 ^ b = 2 ^ (b - a) * 2 ^ a := by rw [← Nat.pow_add, Nat.sub_add_cancel h]
theorem hfree_le (ns : List Nat) (n i : Nat) (h1 : 1 ≤ n) (hn : n ≤ 15) (hk : kraft ns ≤ 32768) : hfree ns n i ≤ 2 ^ n := by
  have h := hst_le ns n i h1
  rw [← hfree_mul ns n i hn] at h
  have e : 32768 = 2 ^ n * 2 ^ (15 - n) := by rw [← Nat.pow_add, show n + (15 - n) = 15 by omega]
  exact Nat.le_of_mul_le_mul_right (by omega : hfree ns n i * 2 ^ (15 - n) ≤ 2 ^ n * 2 ^ (15 - n)) (Nat.two_pow_pos _)
theorem hfree_start (ns : List Nat) : hfree ns 1 0 = 0 := by simp [hfree, hst_start]
theorem hfree_end (ns : List Nat) (n : Nat) (h1 : 1 ≤ n) (hn : n + 1 ≤ 15) : hfree ns (n + 1) 0 = hfree ns n ns.length * 2 := by
  have e1 := hfree_mul ns (n + 1) 0 hn
  have e2 := hfree_mul ns n ns.length (by omega)
  rw [hst_end ns n h1, ← e1, show 15 - n = (15 - (n + 1)) + 1 by omega, Nat.pow_succ, Nat.mul_comm (2 ^ _) 2, ← Nat.mul_assoc] at e2
  exact (Nat.eq_of_mul_eq_mul_right (Nat.two_pow_pos _) e2).symm
theorem hfree_succ (ns : List Nat) (n i : Nat) (hn : n ≤ 15) (hi : i < ns.length) : hfree ns n (i + 1) = hfree ns n i + if ns[i]?.getD 0 = n then 1 else 0 := by
  have e1 := hfree_mul ns n (i + 1) hn
  have e2 := hfree_mul ns n i hn
  rw [hst_succ ns n i hi, ← e2] at e1
  by_cases h : ns[i]?.getD 0 = n
  · rw [if_pos h] at e1 ⊢
    rw [← Nat.succ_mul] at e1
    exact Nat.eq_of_mul_eq_mul_right (Nat.two_pow_pos _) e1
  · rw [if_neg h] at e1 ⊢
    exact Nat.eq_of_mul_eq_mul_right (Nat.two_pow_pos _) e1

/-- A symbol's length. -/
def hn (ns : List Nat) (s : Nat) : Nat := ns[s]?.getD 0
/-- A symbol's word, as a number whose highest bit is the first. -/
def hv (ns : List Nat) (s : Nat) : Nat := if hn ns s = 0 then 0 else hfree ns (hn ns s) s
theorem hn_lt {ns : List Nat} {s : Nat} (h : hn ns s ≠ 0) : s < ns.length := by
  by_cases hs : s < ns.length
  · exact hs
  · exact absurd (by unfold hn; rw [List.getElem?_eq_none (by omega)]; rfl) h
/-- Lengths of a code. -/
structure Cd (ns : List Nat) : Prop where
  few : ns.length ≤ 288
  le : ∀ s, hn ns s ≤ 15
  sum : kraft ns ≤ 32768
theorem Cd.mul {ns : List Nat} (h : Cd ns) {s : Nat} (hs : hn ns s ≠ 0) : hv ns s * 2 ^ (15 - hn ns s) = hst ns (hn ns s) s := by
  unfold hv; rw [if_neg hs]; exact hfree_mul _ _ _ (h.le s)
theorem hst_own {ns : List Nat} {s : Nat} (hs : hn ns s ≠ 0) : hst ns (hn ns s) (s + 1) = hst ns (hn ns s) s + 2 ^ (15 - hn ns s) := by
  rw [hst_succ ns _ s (hn_lt hs)]
  unfold hn; simp
theorem Cd.lt {ns : List Nat} (h : Cd ns) (s : Nat) : hv ns s < 2 ^ hn ns s := by
  by_cases hs : hn ns s = 0
  · unfold hv; rw [if_pos hs]; exact Nat.two_pow_pos _
  have h1 := hst_le ns (hn ns s) (s + 1) (by omega)
  rw [hst_own hs, ← h.mul hs] at h1
  have e : 32768 = 2 ^ hn ns s * 2 ^ (15 - hn ns s) := by rw [← Nat.pow_add, show hn ns s + (15 - hn ns s) = 15 by have := h.le s; omega]
  have h2 := h.sum
  rw [← Nat.succ_mul] at h1
  have h3 : (hv ns s + 1) * 2 ^ (15 - hn ns s) ≤ 32768 := Nat.le_trans h1 h2
  rw [e] at h3
  exact Nat.le_of_mul_le_mul_right h3 (Nat.two_pow_pos _)
/-- No word is the beginning of another one. -/
theorem Cd.apart {ns : List Nat} (h : Cd ns) {s t : Nat} (hs : hn ns s ≠ 0) (ht : hn ns t ≠ 0) (hne : s ≠ t) (hle : hn ns s ≤ hn ns t) : hv ns t / 2 ^ (hn ns t - hn ns s) ≠ hv ns s := by
  intro e
  have p1 := Nat.two_pow_pos (hn ns t - hn ns s)
  have q1 : hv ns s * 2 ^ (hn ns t - hn ns s) ≤ hv ns t := by rw [← e]; exact Nat.div_mul_le_self _ _
  have q2 : hv ns t < (hv ns s + 1) * 2 ^ (hn ns t - hn ns s) := by
    rw [← e, Nat.mul_comm]; exact Nat.lt_mul_div_succ _ p1
  have ep : 2 ^ (15 - hn ns s) = 2 ^ (hn ns t - hn ns s) * 2 ^ (15 - hn ns t) := by
    rw [← Nat.pow_add]; congr 1; have := h.le t; omega
  have r1 : hst ns (hn ns s) s ≤ hst ns (hn ns t) t := by
    rw [← h.mul hs, ← h.mul ht, ep, ← Nat.mul_assoc]
    exact Nat.mul_le_mul_right _ q1
  have r2 : hst ns (hn ns t) t < hst ns (hn ns s) (s + 1) := by
    rw [hst_own hs, ← h.mul hs, ← h.mul ht, ← Nat.succ_mul, ep, ← Nat.mul_assoc]
    exact Nat.mul_lt_mul_of_pos_right q2 (Nat.two_pow_pos _)
  by_cases hlt : hn ns s < hn ns t
  · have := hst_later ns hlt (by omega) (s + 1) t; omega
  · have he : hn ns s = hn ns t := by omega
    rw [he] at r1 r2
    rcases Nat.lt_or_gt_of_ne hne with h3 | h3
    · have := hst_mono ns (hn ns t) (show s + 1 ≤ t from h3); omega
    · have h4 := hst_mono ns (hn ns t) (show t + 1 ≤ s from h3)
      rw [hst_own ht] at h4
      have := Nat.two_pow_pos (15 - hn ns t)
      omega
theorem Cd.inj {ns : List Nat} (h : Cd ns) {s t : Nat} (hs : hn ns s ≠ 0) (ht : hn ns t ≠ 0) (e1 : hn ns s = hn ns t) (e2 : hv ns s = hv ns t) : s = t := by
  by_cases hne : s = t
  · exact hne
  · exact absurd (by rw [e1, Nat.sub_self, Nat.pow_zero, Nat.div_one]; exact e2.symm) (h.apart hs ht hne (by omega))
/-- How many words are still to be told, when those of fewer than n bits are, and those of n bits of symbols below i. -/
def hleft (ns : List Nat) (n i : Nat) : Nat := (ns.countP fun k => decide (n < k)) + ((ns.drop i).countP fun k => decide (k = n))
theorem hleft_start (ns : List Nat) : hleft ns 1 0 = ns.countP fun k => decide (0 < k) := by
  unfold hleft
  rw [List.drop_zero]
  induction ns with
  | nil => rfl
  | cons k r ih =>
    simp only [List.countP_cons]
    by_cases h1 : k = 1
    · subst h1; simp; omega
    · by_cases h2 : 0 < k
      · simp [h1, h2, show 1 < k by omega]; omega
      · simp [h1, h2, show ¬ 1 < k by omega]; omega
theorem hleft_end (ns : List Nat) (n : Nat) : hleft ns (n + 1) 0 = hleft ns n ns.length := by
  unfold hleft
  rw [List.drop_zero, List.drop_length]
  induction ns with
  | nil => rfl
  | cons k r ih =>
    simp only [List.countP_cons] at ih ⊢
    by_cases h1 : k = n + 1
    · subst h1; simp at ih ⊢; omega
    · by_cases h2 : n < k
      · simp [h1, h2, show n + 1 < k by omega] at ih ⊢; omega
      · simp [h1, h2, show ¬ n + 1 < k by omega] at ih ⊢; omega
theorem hleft_succ (ns : List Nat) (n i : Nat) (hi : i < ns.length) : hleft ns n i = hleft ns n (i + 1) + if ns[i]?.getD 0 = n then 1 else 0 := by
  unfold hleft
  rw [List.drop_eq_getElem_cons hi, List.countP_cons, List.getElem?_eq_getElem hi]
  by_cases h : ns[i] = n <;> simp [h] <;> omega
theorem hleft_none {ns : List Nat} {n i : Nat} (h : hleft ns n i = 0) (s : Nat) (hs : hn ns s ≠ 0) : hn ns s < n ∨ hn ns s = n ∧ s < i := by
  have hsl := hn_lt hs
  unfold hleft at h
  have h1 : (ns.countP fun k => decide (n < k)) = 0 := by omega
  have h2 : ((ns.drop i).countP fun k => decide (k = n)) = 0 := by omega
  rw [List.countP_eq_zero] at h1 h2
  have e : hn ns s = ns[s] := by unfold hn; rw [List.getElem?_eq_getElem hsl]; rfl
  have h3 := h1 _ (List.getElem_mem hsl)
  simp at h3
  by_cases h4 : hn ns s = n
  · right
    refine ⟨h4, ?_⟩
    by_cases h5 : s < i
    · exact h5
    · have := h2 ns[s] (by rw [List.mem_iff_getElem]; exact ⟨s - i, by simp; omega, by simp [show i + (s - i) = s by omega]⟩)
      simp at this; omega
  · left; omega
/-- What stands at symbol s meanwhile. -/
def hmid (ns : List Nat) (n i s : Nat) : Nat × Nat := if (0 < hn ns s ∧ hn ns s < n) ∨ (hn ns s = n ∧ s < i) then (hn ns s, hv ns s) else (0, 0)
theorem hmid_done {ns : List Nat} {n i : Nat} (h1 : 1 ≤ n) (h : hleft ns n i = 0) (s : Nat) : hmid ns n i s = (hn ns s, hv ns s) := by
  unfold hmid
  by_cases hs : hn ns s = 0
  · rw [if_neg (by omega), hs]; unfold hv; rw [if_pos hs]
  · rw [if_pos (by rcases hleft_none h s hs with q | q <;> omega)]
theorem hmid_start (ns : List Nat) (s : Nat) : hmid ns 1 0 s = (0, 0) := by unfold hmid; rw [if_neg (by omega)]
theorem hmid_end (ns : List Nat) (n s : Nat) (h1 : 1 ≤ n) : hmid ns (n + 1) 0 s = hmid ns n ns.length s := by
  unfold hmid
  by_cases hs : hn ns s = 0
  · rw [if_neg (by omega), if_neg (by omega)]
  have := hn_lt hs
  by_cases h : hn ns s < n + 1
  · rw [if_pos (by omega), if_pos (by omega)]
  · rw [if_neg (by omega), if_neg (by omega)]
theorem hmid_succ (ns : List Nat) (n i s : Nat) (h1 : 1 ≤ n) : hmid ns n (i + 1) s = if s = i ∧ hn ns i = n then (n, hfree ns n i) else hmid ns n i s := by
  by_cases h : s = i ∧ hn ns i = n
  · obtain ⟨rfl, h⟩ := h
    rw [if_pos ⟨rfl, h⟩]
    unfold hmid hv
    rw [if_pos (by omega), if_neg (by omega), h]
  · rw [if_neg h]
    unfold hmid
    by_cases h2 : (0 < hn ns s ∧ hn ns s < n) ∨ (hn ns s = n ∧ s < i)
    · rw [if_pos h2, if_pos (by omega)]
    · rw [if_neg h2, if_neg]
      intro h3
      rcases h3 with h3 | h3
      · exact h2 (.inl h3)
      · refine h ⟨by omega, ?_⟩
        rw [← h3.1]; congr 1; omega
end Go.Proofs.YtloagniacjfkfaaGreatDoor
