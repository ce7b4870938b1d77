/- Joined: HjAI HjBI. -/
import Derived.Test.YtloagniacjfkfaaGreatDoorTA
import Derived.Test.YtloagniacjfkfaaGreatDoorQP
/- The reference's list of words: plain lists; rows of words in memory. -/
namespace Go.Proofs.YtloagniacjfkfaaGreatDoor
open Go.RowKit

/-- The first j bits of an n-bit word, the highest first. -/
def mbT (v n : Nat) : Nat → List Int
  | 0 => []
  | j + 1 => mbT v n j ++ [((v / 2 ^ (n - 1 - j) % 2 : Nat) : Int)]
def mb (v n : Nat) : List Int := mbT v n n
theorem mbT_len (v n : Nat) : ∀ j, (mbT v n j).length = j
  | 0 => rfl
  | j + 1 => by rw [mbT, List.length_append, mbT_len v n j]; rfl
theorem mb_len (v n : Nat) : (mb v n).length = n := mbT_len v n n
theorem mbT_bit (v n : Nat) : ∀ j, Bit (mbT v n j)
  | 0 => Bit.nil
  | j + 1 => (mbT_bit v n j).append (by intro z hz; simp at hz; omega)
theorem mb_bit (v n : Nat) : Bit (mb v n) := mbT_bit v n n
theorem binN_mbT (v n : Nat) : ∀ j, j ≤ n → binN (mbT v n j) = (turn (v / 2 ^ (n - j)) j : Int)
  | 0, _ => rfl
  | j + 1, h => by
    have e := turn_split (v / 2 ^ (n - (j + 1))) 1 j
    rw [Nat.add_comm 1 j, Nat.div_div_eq_div_mul, ← Nat.pow_add, show n - (j + 1) + 1 = n - j by omega] at e
    rw [mbT, binN_append, mbT_len, binN_mbT v n j (by omega), e, show n - 1 - j = n - (j + 1) by omega]
    simp only [binN, turn, Nat.pow_zero, Nat.div_one, Nat.zero_mul, Nat.zero_add, Int.mul_zero, Int.add_zero]
    generalize v / 2 ^ (n - (j + 1)) % 2 = x
    generalize turn (v / 2 ^ (n - j)) j = y
    rw [Int.natCast_add, Int.natCast_mul, Int.natCast_pow, Int.mul_comm (x : Int), Int.add_comm]
    rfl
theorem binN_mb (v n : Nat) : binN (mb v n) = (turn v n : Int) := by
  have := binN_mbT v n n (Nat.le_refl _)
  rw [Nat.sub_self, Nat.pow_zero, Nat.div_one] at this
  exact this

/-- The words of n bits of the symbols below i. -/
def lvl (ns : List Nat) (n : Nat) : Nat → List Pc
  | 0 => []
  | i + 1 => lvl ns n i ++ if hn ns i = n then [((i : Int), mb (hv ns i) n)] else []
/-- The words of at most n bits. -/
def lvs (ns : List Nat) : Nat → List Pc
  | 0 => []
  | n + 1 => lvs ns n ++ lvl ns (n + 1) ns.length
def isW (ns : List Nat) (p : Pc) (s : Nat) : Prop := hn ns s ≠ 0 ∧ p = ((s : Int), mb (hv ns s) (hn ns s))
theorem lvl_mem {ns : List Nat} {n : Nat} (h : n ≠ 0) {p : Pc} : ∀ {i : Nat}, p ∈ lvl ns n i ↔ ∃ s, s < i ∧ hn ns s = n ∧ isW ns p s
  | 0 => by simp [lvl]
  | i + 1 => by
    rw [lvl, List.mem_append, lvl_mem h]
    constructor
    · rintro (⟨s, h1, h2, h3⟩ | hm)
      · exact ⟨s, by omega, h2, h3⟩
      · by_cases e : hn ns i = n
        · rw [if_pos e, List.mem_singleton] at hm
          exact ⟨i, by omega, e, by rw [e]; exact h, by rw [hm, e]⟩
        · rw [if_neg e] at hm; cases hm
    · rintro ⟨s, h1, h2, h3⟩
      by_cases hs : s < i
      · exact .inl ⟨s, hs, h2, h3⟩
      · obtain rfl : s = i := by omega
        right
        rw [if_pos h2, List.mem_singleton, h3.2, h2]
theorem lvs_mem {ns : List Nat} {p : Pc} : ∀ {n : Nat}, p ∈ lvs ns n ↔ ∃ s, hn ns s ≤ n ∧ isW ns p s
  | 0 => by
    simp only [lvs, List.not_mem_nil, false_iff]
    rintro ⟨s, h1, h2, _⟩
    omega
  | n + 1 => by
    rw [lvs, List.mem_append, lvs_mem, lvl_mem (by omega)]
    constructor
    · rintro (⟨s, h1, h2⟩ | ⟨s, h1, h2, h3⟩)
      · exact ⟨s, by omega, h2⟩
      · exact ⟨s, by omega, h3⟩
    · rintro ⟨s, h1, h2⟩
      by_cases hs : hn ns s = n + 1
      · exact .inr ⟨s, hn_lt h2.1, hs, h2⟩
      · exact .inl ⟨s, by omega, h2⟩
def wds (ns : List Nat) : List Pc := lvs ns 15
theorem Cd.wds {ns : List Nat} (h : Cd ns) {p : Pc} : p ∈ wds ns ↔ ∃ s, isW ns p s := by
  unfold Proofs.YtloagniacjfkfaaGreatDoor.wds
  rw [lvs_mem]
  exact ⟨fun ⟨s, _, h⟩ => ⟨s, h⟩, fun ⟨s, q⟩ => ⟨s, h.le s, q⟩⟩
theorem lvl_len (ns : List Nat) (n : Nat) : ∀ i, i ≤ ns.length → (lvl ns n i).length = (ns.take i).countP fun k => decide (k = n)
  | 0, _ => by simp [lvl]
  | i + 1, h => by
    rw [lvl, List.length_append, lvl_len ns n i (by omega), List.take_succ_eq_append_getElem (by omega), List.countP_append]
    unfold hn
    rw [List.getElem?_eq_getElem (by omega : i < ns.length)]
    by_cases e : ns[i] = n <;> simp [e]
theorem countP_step (ns : List Nat) (n : Nat) : (ns.countP fun k => decide (0 < k ∧ k ≤ n)) + (ns.countP fun k => decide (k = n + 1)) = ns.countP fun k => decide (0 < k ∧ k ≤ n + 1) := by
  induction ns with
  | nil => rfl
  | cons k r ih =>
    rw [List.countP_cons, List.countP_cons, List.countP_cons, ← ih]
    have e : (if decide (0 < k ∧ k ≤ n) = true then 1 else 0) + (if decide (k = n + 1) = true then 1 else 0) = if decide (0 < k ∧ k ≤ n + 1) = true then 1 else 0 := by
      by_cases h1 : k = n + 1
      · rw [if_neg (by simp; omega), if_pos (by simpa using h1), if_pos (by simp; omega)]
      · rw [if_neg (c := decide (k = n + 1) = true) (by simpa using h1)]
        by_cases h2 : 0 < k ∧ k ≤ n
        · rw [if_pos (by simpa using h2), if_pos (by simp; omega)]
        · rw [if_neg (by simpa using h2), if_neg (by simp; omega)]
    omega
theorem lvs_len (ns : List Nat) : ∀ n, (lvs ns n).length = ns.countP fun k => decide (0 < k ∧ k ≤ n)
  | 0 => by
    rw [eq_comm]
    simp only [lvs, List.length_nil, List.countP_eq_zero]
    intro a _; simp; omega
  | n + 1 => by
    rw [lvs, List.length_append, lvs_len ns n, lvl_len ns (n + 1) _ (Nat.le_refl _), List.take_length]
    exact countP_step ns n
theorem Cd.wds_len {ns : List Nat} (h : Cd ns) : (Proofs.YtloagniacjfkfaaGreatDoor.wds ns).length = ns.countP fun k => decide (0 < k) := by
  unfold Proofs.YtloagniacjfkfaaGreatDoor.wds
  rw [lvs_len]
  apply List.countP_congr
  intro k hk
  obtain ⟨i, hi, rfl⟩ := List.mem_iff_getElem.1 hk
  have := h.le i
  unfold hn at this
  rw [List.getElem?_eq_getElem hi] at this
  simp at this ⊢
  omega
/-- What is told when symbol i's turn comes at n bits. -/
def told (ns : List Nat) (n i : Nat) : List Pc := lvs ns (n - 1) ++ lvl ns n i
theorem told_end (ns : List Nat) (n : Nat) (h : 1 ≤ n) : told ns n ns.length = told ns (n + 1) 0 := by
  unfold told
  rw [Nat.add_sub_cancel, lvl, List.append_nil]
  conv => rhs; rw [show n = (n - 1) + 1 by omega, lvs, show n - 1 + 1 = n by omega]
theorem told_fin (ns : List Nat) : told ns 16 0 = wds ns := by simp [told, lvl, wds]
theorem told_start (ns : List Nat) : told ns 1 0 = [] := rfl
theorem told_yes (ns : List Nat) {n i : Nat} (h : hn ns i = n) : told ns n (i + 1) = told ns n i ++ [((i : Int), mb (hv ns i) n)] := by
  unfold told; rw [lvl, if_pos h, List.append_assoc]
theorem told_no (ns : List Nat) {n i : Nat} (h : hn ns i ≠ n) : told ns n (i + 1) = told ns n i := by
  unfold told; rw [lvl, if_neg h, List.append_nil]
theorem told_len {ns : List Nat} (n i : Nat) (hi : i ≤ ns.length) : (told ns n i).length ≤ 2 * ns.length := by
  unfold told
  rw [List.length_append, lvs_len, lvl_len _ _ _ hi]
  have h1 : (ns.countP fun k => decide (0 < k ∧ k ≤ n - 1)) ≤ ns.length := List.countP_le_length
  have h2 : ((ns.take i).countP fun k => decide (k = n)) ≤ (ns.take i).length := List.countP_le_length
  rw [List.length_take] at h2
  omega
/-- The last word's number, and its length. -/
def VA (ns : List Nat) (n i v ah : Nat) : Prop :=
  (told ns n i = [] ∧ v = 0 ∧ hst ns n i = 0) ∨ (told ns n i ≠ [] ∧ 1 ≤ ah ∧ ah ≤ n ∧ (v + 1) * 2 ^ (15 - ah) = hst ns n i)
theorem VA.start (ns : List Nat) (ah : Nat) : VA ns 1 0 0 ah := .inl ⟨rfl, rfl, hst_start ns⟩
theorem VA.no {ns : List Nat} {n i v ah : Nat} (h : VA ns n i v ah) (hi : i < ns.length) (hne : hn ns i ≠ n) : VA ns n (i + 1) v ah := by
  unfold VA
  rw [told_no ns hne, hst_succ ns n i hi, if_neg (by unfold hn at hne; exact hne), Nat.add_zero]
  exact h
theorem VA.end {ns : List Nat} {n v ah : Nat} (h : VA ns n ns.length v ah) (h1 : 1 ≤ n) : VA ns (n + 1) 0 v ah := by
  unfold VA
  rw [← told_end ns n h1, ← hst_end ns n h1]
  rcases h with h | ⟨q1, q2, q3, q4⟩
  · exact .inl h
  · exact .inr ⟨q1, q2, by omega, q4⟩
theorem VA.bound {ns : List Nat} {n i v ah : Nat} (h : VA ns n i v ah) (hc : Cd ns) (h1 : 1 ≤ n) : v < 32768 := by
  rcases h with ⟨_, rfl, _⟩ | ⟨_, _, _, q4⟩
  · omega
  · have h2 := hst_le ns n i h1
    have h3 := hc.sum
    have h4 := Nat.le_mul_of_pos_right (v + 1) (Nat.two_pow_pos (15 - ah))
    omega
theorem VA.yes {ns : List Nat} {n i v ah : Nat} (h : VA ns n i v ah) (hc : Cd ns) (hi : hn ns i = n) (h1 : 1 ≤ n) (h15 : n ≤ 15) : (told ns n i = [] ∧ v = hv ns i ∨ told ns n i ≠ [] ∧ 1 ≤ ah ∧ ah ≤ n ∧ (v + 1) * 2 ^ (n - ah) = hv ns i) ∧ VA ns n (i + 1) (hv ns i) n := by
  have hm := hc.mul (s := i) (by omega)
  rw [hi] at hm
  refine ⟨?_, .inr ⟨?_, h1, Nat.le_refl _, ?_⟩⟩
  · rcases h with ⟨q1, rfl, q2⟩ | ⟨q1, q2, q3, q4⟩
    · refine .inl ⟨q1, ?_⟩
      rw [q2] at hm
      rcases Nat.mul_eq_zero.1 hm with h | h
      · exact h.symm
      · exact absurd h (Nat.ne_of_gt (Nat.two_pow_pos _))
    · refine .inr ⟨q1, q2, q3, ?_⟩
      rw [← q4, show 15 - ah = (n - ah) + (15 - n) by omega, Nat.pow_add, ← Nat.mul_assoc] at hm
      exact (Nat.eq_of_mul_eq_mul_right (Nat.two_pow_pos _) hm).symm
  · rw [told_yes ns hi]; simp
  · have := hst_own (ns := ns) (s := i) (by omega)
    rw [hi, ← hm] at this
    rw [this, Nat.succ_mul]

theorem Tryz.infoW : (Tryz.prog.info? 152).map (fun i => (i.zero, i.size, i.bytes)) = some (some (.agg #[.int .i64 0, .slice none 0 0]), 2, 32) := by kernel_rfl
/-- v is a slice of words in the call's own memory. -/
def QRow (w : World) (base : Nat) (v : Value) (xs : List Pv) : Prop := w.ownsRow base 152 2 v xs.length (flat xs)
theorem QRow.shape {w : World} {base : Nat} {v : Value} {xs : List Pv} (h : QRow w base v xs) : ∃ ad cap, v = .slice ad xs.length cap := by
  rcases h.2 with ⟨h, h0⟩ | ⟨g, cap, cur, h, _⟩
  · exact ⟨none, 0, by rw [h, h0]⟩
  · exact ⟨_, _, h⟩
theorem QRow.kept {w w' : World} {base : Nat} {v : Value} {xs : List Pv} (h : QRow w base v xs) (hb : Below w.heap.size w w') : QRow w' base v xs := by
  obtain ⟨h1, h⟩ := h
  refine ⟨h1, ?_⟩
  rcases h with h | ⟨g, cap, cur, h, hb', hh, r⟩
  · exact .inl h
  · exact .inr ⟨g, cap, cur, h, hb', (hb.block _ (lt_of_block hh)).trans hh, r⟩
theorem QRow.blk {w : World} {base : Nat} {v : Value} {xs : List Pv} (h : QRow w base v xs) : ∀ k, v.ownBlock = some k → base ≤ k := by
  intro k hk
  rcases h.2 with ⟨rfl, _⟩ | ⟨g, cap, cur, rfl, hb, _⟩
  · cases hk
  · cases hk; exact hb
theorem Sy.neQ {w : World} {x : Pv} {l : List Int} {base : Nat} {v : Value} {xs : List Pv} (h : Sy w x l) (hp : QRow w base v xs) : some x.b ≠ v.ownBlock := by
  obtain ⟨h1, h2, h3, h4, cur, h5, h6⟩ := h
  rcases hp.2 with ⟨rfl, _⟩ | ⟨g, cap, cu, rfl, hb, hh, _⟩
  · simp [Value.ownBlock]
  · intro e
    simp only [Value.ownBlock, Option.some.injEq] at e
    subst e
    rw [h5] at hh
    simp at hh
theorem PS.keptQ {w w' : World} {ys : List Pv} {ps : List Pc} {base : Nat} {v : Value} {xs : List Pv} (h : PS w ys ps) (hp : QRow w base v xs) (hg : w.grownBy w' v.ownBlock) : PS w' ys ps := All2.imp h fun _ _ _ k => ⟨k.1, k.2.same (hg.block _ k.2.lt (k.2.neQ hp))⟩
theorem QRow.at {w : World} {base : Nat} {a : Option Addr} {n cap : Nat} {xs : List Pv} (h : QRow w base (.slice a n cap) xs) (i : Nat) (hi : i < xs.length) : ∃ b, a = some ⟨b, 0, none⟩ ∧ b < w.heap.size ∧ w.cell? ⟨b, i * 2, none⟩ = some (.int .i64 (xs[i]?.getD default).wt) ∧ w.cell? ⟨b, i * 2 + 1, none⟩ = some (.slice (some ⟨(xs[i]?.getD default).b, 0, none⟩) (xs[i]?.getD default).n (xs[i]?.getD default).c) := by
  rcases h.2 with ⟨h, h0⟩ | ⟨g, cap', cur, h, hb, hh, h1, h2, h3, h4⟩
  · omega
  · simp only [Value.slice.injEq] at h
    obtain ⟨rfl, _, _⟩ := h
    obtain ⟨q0, q1⟩ := flat_at xs i hi
    rw [← h4, List.getElem?_take] at q0 q1
    rw [if_pos (by omega), Array.getElem?_toList] at q0 q1
    exact ⟨g, rfl, lt_of_block hh, by simp [World.cell?, hh, q0], by simp [World.cell?, hh, q1]⟩
/-- One word more. -/
theorem wpList_push_word {w : World} {ops : Array Oper} {rest : List Oper} {o : Oper} {a : Act} {Q : Exit → Act → World → Prop} (hgd : o.guard = none) (s x : Operand)
    (ho : o.op = .call { callee := .builtin .append, args := #[s, x], argTypes := #[126, 126] })
    (base : Nat) (v : Value) (xs : List Pv) (hs : a.eval s = v) (hp : QRow w base v xs) (y : Pv) (b : Nat) (hx : a.eval x = .slice (some ⟨b, 0, none⟩) 1 1) (hb : w.heap[b]? = some (.cells y.enc.toArray 152 (0, 0)))
    (hlen : xs.length ≤ 1000000) (hbase : base ≤ w.heap.size)
    (h : ∀ v' w', QRow w' base v' (xs ++ [y]) → w.grownBy w' v.ownBlock → wpList Tryz.prog ops Q rest (a.put o.dst v') w') : wpList Tryz.prog ops Q (o :: rest) a w := by
  obtain ⟨i0, hi, hz0, hz1, hz2⟩ := info_parts Tryz.infoW
  refine wpList_append_own w hgd s x 126 ho base 152 i0 _ 2 32 Tryz.underlying126 hi hz0 hz1 hz2 rfl (by decide) v xs.length (flat xs) hs hp ⟨b, 0, none⟩ 1 1 (flat [y]) hx rfl ?_ (flat_one [y]) (by unfold maxLen; omega) (by omega) hbase ?_
  · intro j u hj
    rw [flat_cons, flat_nil, List.append_nil] at hj
    rw [Addr.add_lit, Nat.zero_add]
    simp [World.cell?, hb, hj]
  · intro v' w' hown hg _
    refine h v' w' ?_ hg
    unfold QRow
    rw [List.length_append, flat_append]
    exact hown
/-- One bit more, of a row in new memory. -/
theorem wpList_push_bit {w : World} {ops : Array Oper} {rest : List Oper} {o : Oper} {a : Act} {Q : Exit → Act → World → Prop} (hgd : o.guard = none) (s x : Operand)
    (ho : o.op = .call { callee := .builtin .append, args := #[s, x], argTypes := #[57, 57] })
    (base : Nat) (v : Value) (l : List Int) (hs : a.eval s = v) (hp : w.ownsRow base 3 1 v l.length (ivals l)) (z : Int) (b : Nat) (hx : a.eval x = .slice (some ⟨b, 0, none⟩) 1 1) (hb : w.heap[b]? = some (.cells #[.int .i64 z] 3 (0, 0)))
    (hlen : l.length ≤ 1000000) (hbase : base ≤ w.heap.size)
    (h : ∀ v' w', w'.ownsRow base 3 1 v' (l ++ [z]).length (ivals (l ++ [z])) → w.grownBy w' v.ownBlock → wpList Tryz.prog ops Q rest (a.put o.dst v') w') : wpList Tryz.prog ops Q (o :: rest) a w := by
  obtain ⟨i0, hi, hz0, hz1, hz2⟩ := info_parts Tryz.info3
  refine wpList_append_own w hgd s x 57 ho base 3 i0 _ 1 8 Tryz.underlying57 hi hz0 hz1 hz2 rfl (by decide) v l.length (ivals l) hs hp ⟨b, 0, none⟩ 1 1 (ivals [z]) hx rfl ?_ (by intro u hu; simp [ivals] at hu; subst hu; rfl) (by unfold maxLen; omega) (by omega) hbase ?_
  · intro j u hj
    rw [Addr.add_lit, Nat.zero_add]
    simp [World.cell?, hb]
    simpa [ivals] using hj
  · intro v' w' hown hg _
    refine h v' w' ?_ hg
    rw [List.length_append, ivals_append]
    exact hown
theorem own_sy {w : World} {base : Nat} {v : Value} {l : List Int} (h : w.ownsRow base 3 1 v l.length (ivals l)) (hl : l ≠ []) (s : Int) : ∃ x : Pv, v = .slice (some ⟨x.b, 0, none⟩) x.n x.c ∧ x.wt = s ∧ Sy w x l := by
  rcases h.2 with ⟨h, h0⟩ | ⟨g, cap, cur, h, hb, hh, h1, h2, h3, h4⟩
  · exact absurd (List.length_eq_zero_iff.1 h0) hl
  · refine ⟨⟨s, g, l.length, cap⟩, h, rfl, rfl, ?_, h1, h2, cur, hh, fun i hi => ?_⟩
    · exact Nat.pos_of_ne_zero fun e => hl (List.length_eq_zero_iff.1 e)
    · rw [← ivals_at l i hi, ← h4, List.getElem?_take, if_pos (by omega), Array.getElem?_toList]
theorem own_kept {w w' : World} {base : Nat} {v : Value} {l : List Int} (h : w.ownsRow base 3 1 v l.length (ivals l)) (hs : ∀ k, base ≤ k → k < w.heap.size → w'.heap[k]? = w.heap[k]?) : w'.ownsRow base 3 1 v l.length (ivals l) := by
  obtain ⟨h1, h⟩ := h
  refine ⟨h1, ?_⟩
  rcases h with h | ⟨g, cap, cur, h, hb', hh, r⟩
  · exact .inl h
  · exact .inr ⟨g, cap, cur, h, hb', (hs g hb' (lt_of_block hh)).trans hh, r⟩
theorem own_blk {w : World} {base : Nat} {v : Value} {l : List Int} (h : w.ownsRow base 3 1 v l.length (ivals l)) : ∀ k, v.ownBlock = some k → base ≤ k := by
  intro k hk
  rcases h.2 with ⟨rfl, _⟩ | ⟨g, cap, cur, rfl, hb, _⟩
  · cases hk
  · cases hk; exact hb
end Go.Proofs.YtloagniacjfkfaaGreatDoor
/- The reference's Words, and Put. -/
namespace Go.Proofs.YtloagniacjfkfaaGreatDoor
open Go.RowKit

def WdRel (w : World) (ns : List Nat) (n i : Nat) (o : Value) (wr : World) : Prop :=
  ∃ xs, QRow wr w.heap.size o xs ∧ PS wr xs (told ns n i) ∧ Below w.heap.size w wr
def WordsPost (w : World) (ns : List Nat) (e : Ending) (w' : World) : Prop :=
  ∃ v xs, e = .returned v ∧ QRow w' w.heap.size v xs ∧ PS w' xs (wds ns) ∧ Below w.heap.size w w'
/-- A word under way: in block p, its bits so far. -/
def BtRel (wr : World) (p : Nat) (s : Int) (l : List Int) (wq : World) : Prop :=
  ∃ vb, wq.heap[p]? = some (.cells #[.int .i64 s, vb] 152 (0, 0)) ∧ wq.ownsRow (p + 1) 3 1 vb l.length (ivals l) ∧ Below p wr wq ∧ p < wq.heap.size
set_option maxHeartbeats 1600000 in
set_option maxRecDepth 20000 in
theorem words_any (a : Option Addr) (len cap : Nat) (ns : List Nat) (w : World) (hn0 : ns.length = len) (hc : Cd ns) (hr : IRow w a (ints ns)) :
    Calls Tryz.prog 72 #[.slice a len cap] w fun e w' => WordsPost w ns e w' := by
  have HN : Hid (ns.length = len) := hn0
  have HR : Hid (IRow w a (ints ns)) := hr
  have HC : Hid (Cd ns) := hc
  have hl : len ≤ 288 := by rw [← hn0]; exact hc.few
  clear hn0 hr hc
  go_enter Tryz.func72, Tryz.ntmps72
  go_wp2
  go_loopw [3, 4, 5, 6] (fun o v ah n wr => ∃ V A N : Nat, v = .int .i64 V ∧ ah = .int .i64 A ∧ n = .int .i64 N ∧ 1 ≤ N ∧ N ≤ 16 ∧ VA ns N 0 V A ∧ WdRel w ns N 0 o wr) (fun _ _ _ n _ => 16 - (intOf n).toNat)
  case atStart => exact ⟨0, 0, 1, rfl, rfl, rfl, by omega, by omega, VA.start ns 0, [], World.ownsRow_nil _ _ _ _, .nil, Below.refl _ _⟩
  case round =>
    obtain ⟨V, A, N, rfl, rfl, rfl, h1, h16, hva, hrel⟩ := hrel
    have HVA : Hid (VA ns N 0 V A ∧ WdRel w ns N 0 u3 wr) := ⟨hva, hrel⟩
    clear hva hrel
    by_cases h15 : N ≤ 15
    · have hN15 : decide ((N : Int) ≤ 15) = true := by simp; omega
      go_wp2
      go_loopw [3, 4, 5, 17] (fun o v ah i wr => ∃ V A I : Nat, v = .int .i64 V ∧ ah = .int .i64 A ∧ i = .int .i64 I ∧ I ≤ len ∧ VA ns N I V A ∧ WdRel w ns N I o wr) (fun _ _ _ i _ => len - (intOf i).toNat)
      case atStart => exact ⟨V, A, 0, rfl, rfl, rfl, by omega, HVA.out.1, HVA.out.2⟩
      case round =>
        clear HVA
        obtain ⟨V, A, I, rfl, rfl, rfl, hI, hva, hrel⟩ := hrel
        have HVA : Hid (VA ns N I V A ∧ WdRel w ns N I _ wr) := ⟨hva, hrel⟩
        have hV : V < 32768 := hva.bound HC.out h1
        have HBW : Hid (Below w.heap.size w wr) := by obtain ⟨xs, _, _, h⟩ := hrel; exact h
        clear hva hrel
        by_cases hlt : I < len
        · obtain ⟨b, off, rfl, hck0⟩ := HR.out.at I (by rw [ints_len]; have := HN.out; omega)
          rw [ints_at] at hck0
          have hck := (HBW.out.cell (p := ⟨b, off + I, none⟩) (cell_lt hck0)).trans hck0
          clear hck0
          by_cases hI2 : hn ns I = N
          · obtain ⟨hva, xs, q1, q2, q3⟩ := HVA.out
            obtain ⟨ad, cp, ho⟩ := q1.shape
            subst ho
            have hxl : xs.length = (told ns N I).length := All2.len q2
            have hxs : xs.length ≤ 576 := by
              have := told_len (ns := ns) N I (by rw [HN.out]; exact hI)
              have := HN.out
              omega
            obtain ⟨hcase, hva2⟩ := hva.yes HC.out hI2 h1 h15
            have HTO : Hid (told ns N (I + 1) = told ns N I ++ [((I : Int), mb (hv ns I) N)]) := told_yes ns hI2
            have hvl : hv ns I < 32768 := by
              have := HC.out.lt I
              rw [hI2] at this
              have e : 2 ^ N ≤ 2 ^ 15 := Nat.pow_le_pow_right (by omega) h15
              omega
            have HV2 : Hid (VA ns N (I + 1) (hv ns I) N) := hva2
            have HQ : Hid (QRow wr w.heap.size (.slice ad xs.length cp) xs ∧ PS wr xs (told ns N I) ∧ Below w.heap.size w wr) := ⟨q1, q2, q3⟩
            have HXS : Hid (xs.length ≤ 576) := hxs
            have HSZ : Hid (w.heap.size ≤ wr.heap.size) := q3.size
            obtain ⟨v, hvv⟩ : ∃ v, hv ns I = v := ⟨_, rfl⟩
            rw [hvv] at hvl HTO HV2 hcase
            obtain ⟨L, hL⟩ : ∃ L, xs.length = L := ⟨_, rfl⟩
            rw [hL] at hxl hxs HQ ⊢
            rw [hI2] at hck
            clear HVA hva hva2 q1 q2 q3 hvv hL HBW
            rcases hcase with ⟨ht, hVv⟩ | ⟨ht, hA1, hA2, hVv⟩
            · rw [ht] at hxl
              obtain rfl : L = 0 := hxl
              have hq := hVv.symm
              subst hq
              clear ht
              clear hI2
              obtain ⟨w5, rfl⟩ : ∃ w5, w5 = wr := ⟨_, rfl⟩
              have HB0 : Hid (BtRel w5 w5.heap.size I (mbT v N 0) (w5.alloc (.cells #[.int .i64 I, .slice none 0 0] 152))) := ⟨.slice none 0 0, heap_alloc_new _ _, World.ownsRow_nil _ _ _ _, (Below.refl _ _).alloc (Nat.le_refl _) _, by simp⟩
              go_wp2
              go_loopw [10] (fun i wq => ∃ m j : Nat, j + m = N ∧ i = .int .i64 ((m : Int) - 1) ∧ BtRel w5 w5.heap.size I (mbT v N j) wq) (fun i _ => (intOf i + 1).toNat)
              case atStart => exact ⟨N, 0, by omega, by go_num, HB0.out⟩
              case round =>
                clear HB0 hck
                obtain ⟨m, j, hj, rfl, vb, b1, b2, b3, b4⟩ := hrel
                have HP : ∃ p, w5.heap.size = p := ⟨_, rfl⟩
                obtain ⟨p, hp⟩ := HP
                rw [hp] at b1 b2 b3 b4 HSZ ⊢
                have HP : Hid (w5.heap.size = p) := hp
                clear hp
                obtain ⟨c0, c1, c2⟩ := two_cells b1
                have HB : Hid (wr.heap[p]? = some (.cells #[.int .i64 I, vb] 152 (0, 0)) ∧ wr.ownsRow (p + 1) 3 1 vb (mbT v N j).length (ivals (mbT v N j)) ∧ Below p w5 wr ∧ p < wr.heap.size) := ⟨b1, b2, b3, b4⟩
                clear b1 b2 b3 b4
                cases m with
                | zero =>
                  obtain rfl : j = N := by omega
                  obtain ⟨⟨xw, xb, xn, xc⟩, hvx, hxw, hsy⟩ := own_sy HB.out.2.1 (by intro e; have := mbT_len v j j; rw [e] at this; simp at this; omega) (I : Int)
                  simp only at hvx hxw
                  subst hvx hxw
                  have HK : Hid (QRow (wr.alloc (.cells #[.int .i64 I, .slice (some ⟨xb, 0, none⟩) xn xc] 152)) w.heap.size (.slice ad 0 cp) xs ∧ PS (wr.alloc (.cells #[.int .i64 I, .slice (some ⟨xb, 0, none⟩) xn xc] 152)) xs (told ns j I) ∧ Below w.heap.size w (wr.alloc (.cells #[.int .i64 I, .slice (some ⟨xb, 0, none⟩) xn xc] 152)) ∧ Sy (wr.alloc (.cells #[.int .i64 I, .slice (some ⟨xb, 0, none⟩) xn xc] 152)) ⟨I, xb, xn, xc⟩ (mb v j)) := by
                    obtain ⟨k1, k2, k3⟩ := HQ.out
                    have hb : Below w5.heap.size w5 (wr.alloc (.cells #[.int .i64 I, .slice (some ⟨xb, 0, none⟩) xn xc] 152)) := by rw [HP.out]; exact HB.out.2.2.1.alloc (Nat.le_of_lt HB.out.2.2.2) _
                    exact ⟨k1.kept hb, PS.old k2 hb, k3.trans (hb.mono k3.size), hsy.same (Below.heap_alloc _ _ _ hsy.lt)⟩
                  clear HB hsy
                  go_wp2_with (at_builtin; refine wpList_push_word rfl _ _ rfl w.heap.size _ xs rfl HK.out.1 ⟨I, xb, xn, xc⟩ wr.heap.size rfl (heap_alloc_new _ _) (Nat.le_trans HXS.out (by omega)) HK.out.2.2.1.size ?_)
                  intro v' w' hp' hg'
                  have R : Hid (WdRel w ns j (I + 1) v' w') := by
                    obtain ⟨k1, k2, k3, k4⟩ := HK.out
                    refine ⟨_, hp', ?_, Fr.below k3 (Fr.grown (r := w.heap.size) hg') (Nat.le_refl _) (QRow.blk k1) k3.size⟩
                    rw [HTO.out]
                    exact (PS.keptQ k2 k1 hg').append (.cons ⟨rfl, k4.same (hg'.block _ k4.lt (k4.neQ k1))⟩ .nil)
                  clear HK hp' hg'
                  go_wp2
                  go_roundw
                  case rel => exact ⟨v, j, I + 1, rfl, rfl, by go_num, by omega, HV2.out, R.out⟩
                  case measure => simp [intOf]; omega
                | succ m =>
                  rw [show ((m + 1 : Nat) : Int) - 1 = (m : Int) from by omega]
                  have hwm : IntKind.u64.wrap (m : Int) = (m : Int) := by rw [IntKind.wrap_u64]; omega
                  have hz : bits .and .i64 ((v : Int) / 2 ^ m) 1 = ((v / 2 ^ m % 2 : Nat) : Int) := by rw [i64_maskI _ 1 1 (by omega) (by decide)]; norm_cast
                  have HM : Hid (mbT v N j ++ [((v / 2 ^ m % 2 : Nat) : Int)] = mbT v N (j + 1)) := by show _ = _; rw [mbT, show N - 1 - j = m by omega]
                  generalize v / 2 ^ m % 2 = z at *
                  go_wp2_with (at_builtin; refine wpList_push_bit rfl _ _ rfl (p + 1) _ (mbT v N j) rfl (own_kept HB.out.2.1 fun k _ hk => Below.heap_alloc _ _ _ hk) (z : Int) wr.heap.size rfl (heap_alloc_new _ _) (by rw [mbT_len]; omega) (by have := HB.out.2.2.2; simp; omega) ?_)
                  intro v' w' hown hg
                  have HW : Hid (w'.heap[p]? = some (.cells #[.int .i64 I, vb] 152 (0, 0)) ∧ w'.ownsRow (p + 1) 3 1 v' (mbT v N (j + 1)).length (ivals (mbT v N (j + 1))) ∧ Below p w5 w' ∧ p < w'.heap.size) := by
                    obtain ⟨b1, b2, b3, b4⟩ := HB.out
                    have hne : ∀ k, vb.ownBlock = some k → p + 1 ≤ k := own_blk b2
                    have hs := hg.size
                    simp at hs
                    refine ⟨(hg.block p (by simp; omega) (fun e => by have := hne p e.symm; omega)).trans ((Below.heap_alloc _ _ _ b4).trans b1), by rw [← HM.out, List.length_append]; exact hown, ?_, by omega⟩
                    exact Fr.below (b3.alloc (Nat.le_of_lt b4) _) (Fr.grown (r := p) hg) (Nat.le_refl _) (fun k hk => by have := hne k hk; omega) (by simp; omega)
                  have hsh : ∃ g' n' c', v' = .slice (some ⟨g', 0, none⟩) n' c' := by
                    rcases hown.2 with ⟨_, h0⟩ | ⟨g', cap', cur, h, _⟩
                    · simp at h0
                    · exact ⟨_, _, _, h⟩
                  obtain ⟨g', n', c', hsh⟩ := hsh
                  subst hsh
                  clear hown hg HB HM c0 c1 c2
                  obtain ⟨c0, c1, c2⟩ := two_cells HW.out.1
                  have HX : Hid (BtRel w5 p I (mbT v N (j + 1)) (w'.setCell ⟨p, 1, none⟩ (.slice (some ⟨g', 0, none⟩) n' c'))) := by
                    obtain ⟨b1, b2, b3, b4⟩ := HW.out
                    refine ⟨_, two_set1 b1, own_kept b2 (fun k h1 _ => Below.heap_setCell _ _ _ _ (by simp; omega)), b3.setCell (Nat.le_refl _) _, by simpa [World.setCell] using b4⟩
                  clear HW
                  go_wp2
                  go_roundw
                  case rel => exact ⟨m, j + 1, by omega, by go_num, HX.out⟩
                  case measure => simp [intOf]
            · have hLp : (0 : Int) < (L : Int) := by
                have : (told ns N I).length ≠ 0 := fun e => ht (List.length_eq_zero_iff.1 e)
                omega
              have hL1 : decide ((0 : Int) < (L : Int)) = true := by simp; omega
              have hL2 : decide (0 < L) = true := by simp; omega
              have hwn : IntKind.u64.wrap ((N : Int) - (A : Int)) = (N : Int) - (A : Int) := by rw [IntKind.wrap_u64]; omega
              have hpw : wrap64 (((V : Int) + 1) * 2 ^ (N - A)) = (v : Int) := by
                rw [show ((V : Int) + 1) * 2 ^ (N - A) = (v : Int) by rw [← hVv]; norm_cast]
                unfold wrap64; omega
              clear ht hxl hVv
              clear hI2
              obtain ⟨w5, rfl⟩ : ∃ w5, w5 = wr := ⟨_, rfl⟩
              have HB0 : Hid (BtRel w5 w5.heap.size I (mbT v N 0) (w5.alloc (.cells #[.int .i64 I, .slice none 0 0] 152))) := ⟨.slice none 0 0, heap_alloc_new _ _, World.ownsRow_nil _ _ _ _, (Below.refl _ _).alloc (Nat.le_refl _) _, by simp⟩
              go_wp2
              rw [hpw]
              clear hpw
              go_loopw [10] (fun i wq => ∃ m j : Nat, j + m = N ∧ i = .int .i64 ((m : Int) - 1) ∧ BtRel w5 w5.heap.size I (mbT v N j) wq) (fun i _ => (intOf i + 1).toNat)
              case atStart => exact ⟨N, 0, by omega, by go_num, HB0.out⟩
              case round =>
                clear HB0 hck
                obtain ⟨m, j, hj, rfl, vb, b1, b2, b3, b4⟩ := hrel
                have HP : ∃ p, w5.heap.size = p := ⟨_, rfl⟩
                obtain ⟨p, hp⟩ := HP
                rw [hp] at b1 b2 b3 b4 HSZ ⊢
                have HP : Hid (w5.heap.size = p) := hp
                clear hp
                obtain ⟨c0, c1, c2⟩ := two_cells b1
                have HB : Hid (wr.heap[p]? = some (.cells #[.int .i64 I, vb] 152 (0, 0)) ∧ wr.ownsRow (p + 1) 3 1 vb (mbT v N j).length (ivals (mbT v N j)) ∧ Below p w5 wr ∧ p < wr.heap.size) := ⟨b1, b2, b3, b4⟩
                clear b1 b2 b3 b4
                cases m with
                | zero =>
                  obtain rfl : j = N := by omega
                  obtain ⟨⟨xw, xb, xn, xc⟩, hvx, hxw, hsy⟩ := own_sy HB.out.2.1 (by intro e; have := mbT_len v j j; rw [e] at this; simp at this; omega) (I : Int)
                  simp only at hvx hxw
                  subst hvx hxw
                  have HK : Hid (QRow (wr.alloc (.cells #[.int .i64 I, .slice (some ⟨xb, 0, none⟩) xn xc] 152)) w.heap.size (.slice ad L cp) xs ∧ PS (wr.alloc (.cells #[.int .i64 I, .slice (some ⟨xb, 0, none⟩) xn xc] 152)) xs (told ns j I) ∧ Below w.heap.size w (wr.alloc (.cells #[.int .i64 I, .slice (some ⟨xb, 0, none⟩) xn xc] 152)) ∧ Sy (wr.alloc (.cells #[.int .i64 I, .slice (some ⟨xb, 0, none⟩) xn xc] 152)) ⟨I, xb, xn, xc⟩ (mb v j)) := by
                    obtain ⟨k1, k2, k3⟩ := HQ.out
                    have hb : Below w5.heap.size w5 (wr.alloc (.cells #[.int .i64 I, .slice (some ⟨xb, 0, none⟩) xn xc] 152)) := by rw [HP.out]; exact HB.out.2.2.1.alloc (Nat.le_of_lt HB.out.2.2.2) _
                    exact ⟨k1.kept hb, PS.old k2 hb, k3.trans (hb.mono k3.size), hsy.same (Below.heap_alloc _ _ _ hsy.lt)⟩
                  clear HB hsy
                  go_wp2_with (at_builtin; refine wpList_push_word rfl _ _ rfl w.heap.size _ xs rfl HK.out.1 ⟨I, xb, xn, xc⟩ wr.heap.size rfl (heap_alloc_new _ _) (Nat.le_trans HXS.out (by omega)) HK.out.2.2.1.size ?_)
                  intro v' w' hp' hg'
                  have R : Hid (WdRel w ns j (I + 1) v' w') := by
                    obtain ⟨k1, k2, k3, k4⟩ := HK.out
                    refine ⟨_, hp', ?_, Fr.below k3 (Fr.grown (r := w.heap.size) hg') (Nat.le_refl _) (QRow.blk k1) k3.size⟩
                    rw [HTO.out]
                    exact (PS.keptQ k2 k1 hg').append (.cons ⟨rfl, k4.same (hg'.block _ k4.lt (k4.neQ k1))⟩ .nil)
                  clear HK hp' hg'
                  go_wp2
                  go_roundw
                  case rel => exact ⟨v, j, I + 1, rfl, rfl, by go_num, by omega, HV2.out, R.out⟩
                  case measure => simp [intOf]; omega
                | succ m =>
                  rw [show ((m + 1 : Nat) : Int) - 1 = (m : Int) from by omega]
                  have hwm : IntKind.u64.wrap (m : Int) = (m : Int) := by rw [IntKind.wrap_u64]; omega
                  have hz : bits .and .i64 ((v : Int) / 2 ^ m) 1 = ((v / 2 ^ m % 2 : Nat) : Int) := by rw [i64_maskI _ 1 1 (by omega) (by decide)]; norm_cast
                  have HM : Hid (mbT v N j ++ [((v / 2 ^ m % 2 : Nat) : Int)] = mbT v N (j + 1)) := by show _ = _; rw [mbT, show N - 1 - j = m by omega]
                  generalize v / 2 ^ m % 2 = z at *
                  go_wp2_with (at_builtin; refine wpList_push_bit rfl _ _ rfl (p + 1) _ (mbT v N j) rfl (own_kept HB.out.2.1 fun k _ hk => Below.heap_alloc _ _ _ hk) (z : Int) wr.heap.size rfl (heap_alloc_new _ _) (by rw [mbT_len]; omega) (by have := HB.out.2.2.2; simp; omega) ?_)
                  intro v' w' hown hg
                  have HW : Hid (w'.heap[p]? = some (.cells #[.int .i64 I, vb] 152 (0, 0)) ∧ w'.ownsRow (p + 1) 3 1 v' (mbT v N (j + 1)).length (ivals (mbT v N (j + 1))) ∧ Below p w5 w' ∧ p < w'.heap.size) := by
                    obtain ⟨b1, b2, b3, b4⟩ := HB.out
                    have hne : ∀ k, vb.ownBlock = some k → p + 1 ≤ k := own_blk b2
                    have hs := hg.size
                    simp at hs
                    refine ⟨(hg.block p (by simp; omega) (fun e => by have := hne p e.symm; omega)).trans ((Below.heap_alloc _ _ _ b4).trans b1), by rw [← HM.out, List.length_append]; exact hown, ?_, by omega⟩
                    exact Fr.below (b3.alloc (Nat.le_of_lt b4) _) (Fr.grown (r := p) hg) (Nat.le_refl _) (fun k hk => by have := hne k hk; omega) (by simp; omega)
                  have hsh : ∃ g' n' c', v' = .slice (some ⟨g', 0, none⟩) n' c' := by
                    rcases hown.2 with ⟨_, h0⟩ | ⟨g', cap', cur, h, _⟩
                    · simp at h0
                    · exact ⟨_, _, _, h⟩
                  obtain ⟨g', n', c', hsh⟩ := hsh
                  subst hsh
                  clear hown hg HB HM c0 c1 c2
                  obtain ⟨c0, c1, c2⟩ := two_cells HW.out.1
                  have HX : Hid (BtRel w5 p I (mbT v N (j + 1)) (w'.setCell ⟨p, 1, none⟩ (.slice (some ⟨g', 0, none⟩) n' c'))) := by
                    obtain ⟨b1, b2, b3, b4⟩ := HW.out
                    refine ⟨_, two_set1 b1, own_kept b2 (fun k h1 _ => Below.heap_setCell _ _ _ _ (by simp; omega)), b3.setCell (Nat.le_refl _) _, by simpa [World.setCell] using b4⟩
                  clear HW
                  go_wp2
                  go_roundw
                  case rel => exact ⟨m, j + 1, by omega, by go_num, HX.out⟩
                  case measure => simp [intOf]
          · have hneb : ((hn ns I : Int) == (N : Int)) = false := by simp; omega
            have HV2 : Hid (VA ns N (I + 1) V A ∧ WdRel w ns N (I + 1) u3 wr) := by
              refine ⟨HVA.out.1.no (by rw [HN.out]; exact hlt) hI2, ?_⟩
              obtain ⟨xs, q1, q2, q3⟩ := HVA.out.2
              exact ⟨xs, q1, by rw [told_no ns hI2]; exact q2, q3⟩
            clear HVA
            go_wp2
            go_roundw
            case rel => exact ⟨V, A, I + 1, rfl, rfl, by go_num, by omega, HV2.out.1, HV2.out.2⟩
            case measure => simp [intOf]; omega
        · obtain rfl : I = len := by omega
          have HV2 : Hid (VA ns (N + 1) 0 V A ∧ WdRel w ns (N + 1) 0 u3 wr) := by
            obtain ⟨q0, xs, q1, q2, q3⟩ := HVA.out
            rw [← HN.out] at q0 q2
            exact ⟨q0.end h1, xs, q1, by rw [← told_end ns N h1]; exact q2, q3⟩
          clear HVA
          go_wp2
          go_roundw
          case rel => exact ⟨V, A, N + 1, rfl, rfl, by go_num, by omega, by omega, HV2.out.1, HV2.out.2⟩
          case measure => simp [intOf]; omega
    · obtain rfl : N = 16 := by omega
      have R : Hid (WordsPost w ns (.returned u3) wr) := by
        obtain ⟨_, xs, q1, q2, q3⟩ := HVA.out
        rw [told_fin] at q2
        exact ⟨u3, xs, rfl, q1, q2, q3⟩
      clear HVA
      go_wp2
      go_ret
      exact R.out
end Go.Proofs.YtloagniacjfkfaaGreatDoor
