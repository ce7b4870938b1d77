/- The next symbol, as the document reads it, is the program's: plain lists. -/
import Derived.Test.YtjellgkojmgmjaaHjA
import Derived.Test.YtjellgkojmgmjaaHfH
namespace Go.Proofs.Ytjellgkojmgmjaa
open Go.RowKit

/-- Is a the beginning of b? -/
def bgB (a b : List Int) : Bool := decide (a = b.take a.length)
theorem bgB_iff (a b : List Int) : bgB a b = true ↔ a = b.take a.length := by simp [bgB]
theorem bgB_len {a b : List Int} (h : bgB a b = true) : a.length ≤ b.length := by
  have := congrArg List.length ((bgB_iff a b).1 h)
  rw [List.length_take] at this; omega
/-- The symbol, how many bits, the error. -/
def refN (ps : List Pc) (l : List Int) : Int × Nat × Int :=
  match ps.find? fun p => bgB p.2 l with
  | some p => (p.1, p.2.length, 0)
  | none => if l = [] then (0, 0, 2) else if ps.any fun p => bgB l p.2 then (0, 0, 2) else (0, 0, 6)
theorem mbT_snoc (v n b : Nat) (hb : b < 2) : ∀ j, j ≤ n → mbT (v * 2 + b) (n + 1) j = mbT v n j
  | 0, _ => rfl
  | j + 1, h => by
    rw [mbT, mbT, mbT_snoc v n b hb j (by omega)]
    have : (v * 2 + b) / 2 ^ (n + 1 - 1 - j) = v / 2 ^ (n - 1 - j) := by
      rw [show n + 1 - 1 - j = 1 + (n - 1 - j) by omega, Nat.pow_add, ← Nat.div_div_eq_div_mul]
      congr 1
      omega
    rw [this]
theorem mb_snoc (v n b : Nat) (hb : b < 2) : mb (v * 2 + b) (n + 1) = mb v n ++ [(b : Int)] := by
  unfold mb
  rw [mbT, mbT_snoc v n b hb n (Nat.le_refl _), show n + 1 - 1 - n = 0 by omega, Nat.pow_zero, Nat.div_one, show (v * 2 + b) % 2 = b by omega]
theorem mb_pv {nb : Nat → Nat} (h2 : ∀ i, nb i < 2) {L : List Int} (h : ∀ i, i < L.length → L[i]?.getD 0 = (nb i : Int)) : ∀ k, k ≤ L.length → mb (pv nb k) k = L.take k
  | 0, _ => by simp [mb, mbT]
  | k + 1, hk => by
    rw [pv, mb_snoc _ _ _ (h2 k), mb_pv h2 h k (by omega), List.take_succ_eq_append_getElem (by omega)]
    have := h k (by omega)
    rw [List.getElem?_eq_getElem (by omega)] at this
    rw [← this]; rfl
theorem mb_inj {v u n : Nat} (hv : v < 2 ^ n) (hu : u < 2 ^ n) (h : mb v n = mb u n) : v = u := by
  have := congrArg binN h
  rw [binN_mb, binN_mb] at this
  exact turn_inj hv hu (by exact_mod_cast this)
theorem mbT_take (v n : Nat) : ∀ j k, k ≤ j → (mbT v n j).take k = mbT v n k
  | 0, k, h => by obtain rfl : k = 0 := by omega
                  rfl
  | j + 1, k, h => by
    by_cases e : k = j + 1
    · subst e; exact List.take_of_length_le (by rw [mbT_len]; exact Nat.le_refl _)
    · rw [mbT, List.take_append_of_le_length (by rw [mbT_len]; omega)]
      exact mbT_take v n j k (by omega)
theorem mbT_div (v n : Nat) : ∀ k, k ≤ n → mbT v n k = mb (v / 2 ^ (n - k)) k := by
  have key : ∀ m j, j ≤ m → m ≤ n → mbT v n j = mbT (v / 2 ^ (n - m)) m j := by
    intro m j
    induction j with
    | zero => intros; rfl
    | succ j ih =>
      intro h1 h2
      rw [mbT, mbT, ih (by omega) h2, div_div_pow, show n - m + (m - 1 - j) = n - 1 - j by omega]
  intro k hk
  exact key k k (Nat.le_refl _) hk
theorem mb_take (v n k : Nat) (h : k ≤ n) : (mb v n).take k = mb (v / 2 ^ (n - k)) k := by
  unfold mb
  rw [mbT_take v n n k h, mbT_div v n k h]
  rfl
theorem pv_div {nb : Nat → Nat} (h2 : ∀ i, nb i < 2) (k : Nat) : ∀ d, pv nb (k + d) / 2 ^ d = pv nb k
  | 0 => by simp
  | d + 1 => by
    rw [← Nat.add_assoc, pv, Nat.pow_succ, Nat.mul_comm (2 ^ d) 2, ← Nat.div_div_eq_div_mul, show (pv nb (k + d) * 2 + nb (k + d)) / 2 = pv nb (k + d) by have := h2 (k + d); omega, pv_div h2 k d]
theorem wdF_some {ns : List Nat} {t l b : Nat} {s : Int} (h : wdF ns t l b = some s) : ∃ u : Nat, s = u ∧ u < t ∧ hn ns u ≠ 0 ∧ hn ns u = l ∧ hv ns u = b := by
  unfold wdF at h
  cases hx : (List.range t).find? (wdP ns l b) with
  | none => rw [hx] at h; cases h
  | some u =>
    rw [hx] at h
    have h := Option.some.inj h
    have h1 := List.find?_some hx
    have h2 := List.mem_of_find?_eq_some hx
    simp only [wdP, decide_eq_true_eq] at h1
    exact ⟨u, h.symm, by simpa using h2, h1.2.1, h1.1, h1.2.2⟩
section
variable {ns : List Nat} (hc : Cd ns) {nb : Nat → Nat} (h2 : ∀ i, nb i < 2) {L : List Int} (hL : ∀ i, i < L.length → L[i]?.getD 0 = (nb i : Int))
include hc h2 hL
/-- A word begins what is left. -/
theorem word_begins {p : Pc} {s : Nat} (hp : isW ns p s) : bgB p.2 L = true ↔ hn ns s ≤ L.length ∧ pv nb (hn ns s) = hv ns s := by
  rw [bgB_iff, hp.2, mb_len]
  constructor
  · intro h
    have hl := congrArg List.length h
    rw [mb_len, List.length_take] at hl
    have hle : hn ns s ≤ L.length := by omega
    refine ⟨hle, ?_⟩
    rw [← mb_pv h2 hL _ hle] at h
    exact (mb_inj (hc.lt s) (pv_lt h2 _) h).symm
  · rintro ⟨h1, h3⟩
    rw [← mb_pv h2 hL _ h1, h3]
/-- What is left begins a word. -/
theorem begins_word {p : Pc} {s : Nat} (hp : isW ns p s) : bgB L p.2 = true ↔ L.length ≤ hn ns s ∧ hv ns s / 2 ^ (hn ns s - L.length) = pv nb L.length := by
  constructor
  · intro h
    have hl := bgB_len h
    rw [hp.2, mb_len] at hl
    refine ⟨hl, ?_⟩
    rw [bgB_iff, hp.2, mb_take _ _ _ hl] at h
    have e := mb_pv h2 hL L.length (Nat.le_refl _)
    rw [List.take_length] at e
    refine mb_inj ?_ (pv_lt h2 _) (by rw [← h, e])
    rw [Nat.div_lt_iff_lt_mul (Nat.two_pow_pos _), ← Nat.pow_add, show L.length + (hn ns s - L.length) = hn ns s by omega]
    exact hc.lt s
  · rintro ⟨h1, h3⟩
    have e := mb_pv h2 hL L.length (Nat.le_refl _)
    rw [List.take_length] at e
    rw [bgB_iff, hp.2]
    simp only
    rw [mb_take _ _ _ h1, h3, e]
theorem find_none (h : ∀ s, hn ns s ≠ 0 → hn ns s ≤ L.length → pv nb (hn ns s) ≠ hv ns s) : (wds ns).find? (fun p => bgB p.2 L) = none := by
  rw [List.find?_eq_none]
  intro p hp hb
  obtain ⟨s, hs⟩ := hc.wds.1 hp
  obtain ⟨q1, q2⟩ := (word_begins hc h2 hL hs).1 hb
  exact h s hs.1 q1 q2
theorem nxt_ref : ∀ f k, k + f = 15 → k ≤ L.length → (∀ s, hn ns s ≠ 0 → hn ns s ≤ k → pv nb (hn ns s) ≠ hv ns s) → (k = 0 ∨ stB (fin ns) ns.length k (pv nb k) = true) →
    nxt ns nb L.length f k = ((refN (wds ns) L).1, (refN (wds ns) L).2.2, (refN (wds ns) L).2.1)
  | 0, k, hk, _, _, h4 => by
    rcases h4 with h | h
    · omega
    · have := stB_small hc h; omega
  | f + 1, k, hk, hkl, h3, h4 => by
    rw [nxt]
    by_cases hN : L.length ≤ k
    · rw [if_pos hN]
      obtain rfl : k = L.length := by omega
      unfold refN
      rw [find_none hc h2 hL (fun s h h' => h3 s h h')]
      simp only
      by_cases hl : L = []
      · rw [if_pos hl]
      · rw [if_neg hl]
        have hst : stB (fin ns) ns.length L.length (pv nb L.length) = true := by
          rcases h4 with h | h
          · exact absurd (List.length_eq_zero_iff.1 h) hl
          · exact h
        obtain ⟨s, q1, q2, q3, q4⟩ := (stB_iff _ _ _ _).1 hst
        simp only [fin] at q3 q4
        have hany : ((wds ns).any fun p => bgB L p.2) = true := by
          rw [List.any_eq_true]
          have hw : isW ns ((s : Int), mb (hv ns s) (hn ns s)) s := ⟨by omega, rfl⟩
          exact ⟨_, hc.wds.2 ⟨s, hw⟩, (begins_word hc h2 hL hw).2 ⟨by omega, q4⟩⟩
        rw [if_pos hany]
    · rw [if_neg hN]
      by_cases hst : stB (fin ns) ns.length (k + 1) (pv nb (k + 1)) = true
      · rw [if_pos hst]
        refine nxt_ref f (k + 1) (by omega) (by omega) (fun t ht htk => ?_) (.inr hst)
        by_cases e : hn ns t ≤ k
        · exact h3 t ht e
        · intro he
          have e1 : hn ns t = k + 1 := by omega
          obtain ⟨s, q1, q2, q3, q4⟩ := (stB_iff _ _ _ _).1 hst
          simp only [fin] at q3 q4
          refine hc.apart ht (t := s) (by omega) (by intro e2; rw [e2] at e1; omega) (by omega) ?_
          rw [e1, q4, ← e1, he]
      · rw [if_neg hst]
        have hno : ∀ s, hn ns s ≠ 0 → k + 1 < hn ns s → hv ns s / 2 ^ (hn ns s - (k + 1)) ≠ pv nb (k + 1) := fun s hs hlt he => hst ((stB_iff _ _ _ _).2 ⟨s, hn_lt hs, by omega, hlt, he⟩)
        have hno2 : ∀ s, hn ns s ≠ 0 → k + 1 < hn ns s → pv nb (hn ns s) ≠ hv ns s := fun s hs hlt he => by
          refine hno s hs hlt ?_
          have := pv_div h2 (k + 1) (hn ns s - (k + 1))
          rw [show k + 1 + (hn ns s - (k + 1)) = hn ns s by omega, he] at this
          exact this
        cases hw : wdF ns ns.length (k + 1) (pv nb (k + 1)) with
        | some z =>
          simp only
          obtain ⟨u, rfl, _, hu0, hu1, hu2⟩ := wdF_some hw
          have huw : isW ns ((u : Int), mb (hv ns u) (hn ns u)) u := ⟨hu0, rfl⟩
          unfold refN
          cases hf : (wds ns).find? (fun p => bgB p.2 L) with
          | none =>
            have := List.find?_eq_none.1 hf _ (hc.wds.2 ⟨u, huw⟩)
            exact absurd ((word_begins hc h2 hL huw).2 ⟨by omega, by rw [hu1]; exact hu2.symm⟩) this
          | some p =>
            have hb := List.find?_some hf
            obtain ⟨s, hs⟩ := hc.wds.1 (List.mem_of_find?_eq_some hf)
            obtain ⟨q1, q2⟩ := (word_begins hc h2 hL hs).1 hb
            have hsl : hn ns s = k + 1 := by
              by_cases e1 : hn ns s ≤ k
              · exact absurd q2 (h3 s hs.1 e1)
              · by_cases e2 : k + 1 < hn ns s
                · exact absurd q2 (hno2 s hs.1 e2)
                · omega
            obtain rfl : s = u := hc.inj hs.1 hu0 (by omega) (by rw [← q2, hsl, hu2])
            simp only
            rw [hs.2]
            simp only [mb_len, hsl]
        | none =>
          simp only
          have hno3 : ∀ s, hn ns s ≠ 0 → hn ns s = k + 1 → hv ns s ≠ pv nb (k + 1) := fun s hs h1 h5 => by
            have := wdF_at hc (hn_lt hs) hs
            rw [h1, h5, hw] at this
            cases this
          unfold refN
          rw [find_none hc h2 hL (fun s hs hsl he => by
            by_cases e1 : hn ns s ≤ k
            · exact h3 s hs e1 he
            · by_cases e2 : k + 1 < hn ns s
              · exact hno2 s hs e2 he
              · have e3 : hn ns s = k + 1 := by omega
                exact hno3 s hs e3 (by rw [← he, e3]))]
          simp only
          rw [if_neg (by intro e; rw [e] at hN; simp at hN)]
          have hany : ((wds ns).any fun p => bgB L p.2) = false := by
            rw [List.any_eq_false]
            intro p hp hb
            obtain ⟨s, hs⟩ := hc.wds.1 hp
            obtain ⟨q1, q2⟩ := (begins_word hc h2 hL hs).1 hb
            have e4 : hv ns s / 2 ^ (hn ns s - (k + 1)) = pv nb (k + 1) := by
              have e5 := pv_div h2 (k + 1) (L.length - (k + 1))
              rw [show k + 1 + (L.length - (k + 1)) = L.length by omega, ← q2, div_div_pow, show hn ns s - L.length + (L.length - (k + 1)) = hn ns s - (k + 1) by omega] at e5
              exact e5
            by_cases e2 : k + 1 < hn ns s
            · exact hno s hs.1 e2 e4
            · have e3 : hn ns s = k + 1 := by omega
              rw [e3, Nat.sub_self, Nat.pow_zero, Nat.div_one] at e4
              exact hno3 s hs.1 e3 e4
          rw [hany]
          rfl
end
end Go.Proofs.Ytjellgkojmgmjaa
