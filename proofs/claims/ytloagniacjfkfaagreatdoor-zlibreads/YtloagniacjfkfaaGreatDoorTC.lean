/- Joined: HkAI HkBI. -/
import Derived.Test.YtloagniacjfkfaaGreatDoorTB
import Derived.Test.YtloagniacjfkfaaGreatDoorQD
import Derived.OwnWalk
/- The next symbol, as the document reads it, is the program's: plain lists. -/
namespace Go.Proofs.YtloagniacjfkfaaGreatDoor
open Go.RowKit

/-- Is a the beginning of b? -/
def bgB (a b : List Int) : Bool := decide (a = b.take a.length)
theorem bgB_iff (a b : List Int) : bgB a b = true ↔ a = b.take a.length := by simp [bgB]
theorem bgB_len {a b : List Int} (h : bgB a b = true) : a.length ≤ b.length := by
  have := congrArg List.length ((bgB_iff a b).1 h)
  rw [List.length_take] at this; omega
/-- The symbol, how many bits, the error. -/
def refN (ps : List Pc) (l : List Int) : Int × Nat × Int :=
  match ps.find? fun p => bgB p.2 l with
  | some p => (p.1, p.2.length, 0)
  | none => if l = [] then (0, 0, 2) else if ps.any fun p => bgB l p.2 then (0, 0, 2) else (0, 0, 6)
theorem mbT_snoc (v n b : Nat) (hb : b < 2) : ∀ j, j ≤ n → mbT (v * 2 + b) (n + 1) j = mbT v n j
  | 0, _ => rfl
  | j + 1, h => by
    rw [mbT, mbT, mbT_snoc v n b hb j (by omega)]
    have : (v * 2 + b) / 2 ^ (n + 1 - 1 - j) = v / 2 ^ (n - 1 - j) := by
      rw [show n + 1 - 1 - j = 1 + (n - 1 - j) by omega, Nat.pow_add, ← Nat.div_div_eq_div_mul]
      congr 1
      omega
    rw [this]
theorem mb_snoc (v n b : Nat) (hb : b < 2) : mb (v * 2 + b) (n + 1) = mb v n ++ [(b : Int)] := by
  unfold mb
  rw [mbT, mbT_snoc v n b hb n (Nat.le_refl _), show n + 1 - 1 - n = 0 by omega, Nat.pow_zero, Nat.div_one, show (v * 2 + b) % 2 = b by omega]
theorem mb_pv {nb : Nat → Nat} (h2 : ∀ i, nb i < 2) {L : List Int} (h : ∀ i, i < L.length → L[i]?.getD 0 = (nb i : Int)) : ∀ k, k ≤ L.length → mb (pv nb k) k = L.take k
  | 0, _ => by simp [mb, mbT]
  | k + 1, hk => by
    rw [pv, mb_snoc _ _ _ (h2 k), mb_pv h2 h k (by omega), List.take_succ_eq_append_getElem (by omega)]
    have := h k (by omega)
    rw [List.getElem?_eq_getElem (by omega)] at this
    rw [← this]; rfl
theorem mb_inj {v u n : Nat} (hv : v < 2 ^ n) (hu : u < 2 ^ n) (h : mb v n = mb u n) : v = u := by
  have := congrArg binN h
  rw [binN_mb, binN_mb] at this
  exact turn_inj hv hu (by exact_mod_cast this)
theorem mbT_take (v n : Nat) : ∀ j k, k ≤ j → (mbT v n j).take k = mbT v n k
  | 0, k, h => by obtain rfl : k = 0 := by omega
                  rfl
  | j + 1, k, h => by
    by_cases e : k = j + 1
    · subst e; exact List.take_of_length_le (by rw [mbT_len]; exact Nat.le_refl _)
    · rw [mbT, List.take_append_of_le_length (by rw [mbT_len]; omega)]
      exact mbT_take v n j k (by omega)
theorem mbT_div (v n : Nat) : ∀ k, k ≤ n → mbT v n k = mb (v / 2 ^ (n - k)) k := by
  have key : ∀ m j, j ≤ m → m ≤ n → mbT v n j = mbT (v / 2 ^ (n - m)) m j := by
    intro m j
    induction j with
    | zero => intros; rfl
    | succ j ih =>
      intro h1 h2
      rw [mbT, mbT, ih (by omega) h2, div_div_pow, show n - m + (m - 1 - j) = n - 1 - j by omega]
  intro k hk
  exact key k k (Nat.le_refl _) hk
theorem mb_take (v n k : Nat) (h : k ≤ n) : (mb v n).take k = mb (v / 2 ^ (n - k)) k := by
  unfold mb
  rw [mbT_take v n n k h, mbT_div v n k h]
  rfl
theorem pv_div {nb : Nat → Nat} (h2 : ∀ i, nb i < 2) (k : Nat) : ∀ d, pv nb (k + d) / 2 ^ d = pv nb k
  | 0 => by simp
  | d + 1 => by
    rw [← Nat.add_assoc, pv, Nat.pow_succ, Nat.mul_comm (2 ^ d) 2, ← Nat.div_div_eq_div_mul, show (pv nb (k + d) * 2 + nb (k + d)) / 2 = pv nb (k + d) by have := h2 (k + d); omega, pv_div h2 k d]
theorem wdF_some {ns : List Nat} {t l b : Nat} {s : Int} (h : wdF ns t l b = some s) : ∃ u : Nat, s = u ∧ u < t ∧ hn ns u ≠ 0 ∧ hn ns u = l ∧ hv ns u = b := by
  unfold wdF at h
  cases hx : (List.range t).find? (wdP ns l b) with
  | none => rw [hx] at h; cases h
  | some u =>
    rw [hx] at h
    have h := Option.some.inj h
    have h1 := List.find?_some hx
    have h2 := List.mem_of_find?_eq_some hx
    simp only [wdP, decide_eq_true_eq] at h1
    exact ⟨u, h.symm, by simpa using h2, h1.2.1, h1.1, h1.2.2⟩
section
variable {ns : List Nat} (hc : Cd ns) {nb : Nat → Nat} (h2 : ∀ i, nb i < 2) {L : List Int} (hL : ∀ i, i < L.length → L[i]?.getD 0 = (nb i : Int))
include hc h2 hL
/-- A word begins what is left. -/
theorem word_begins {p : Pc} {s : Nat} (hp : isW ns p s) : bgB p.2 L = true ↔ hn ns s ≤ L.length ∧ pv nb (hn ns s) = hv ns s := by
  rw [bgB_iff, hp.2, mb_len]
  constructor
  · intro h
    have hl := congrArg List.length h
    rw [mb_len, List.length_take] at hl
    have hle : hn ns s ≤ L.length := by omega
    refine ⟨hle, ?_⟩
    rw [← mb_pv h2 hL _ hle] at h
    exact (mb_inj (hc.lt s) (pv_lt h2 _) h).symm
  · rintro ⟨h1, h3⟩
    rw [← mb_pv h2 hL _ h1, h3]
/-- What is left begins a word. -/
theorem begins_word {p : Pc} {s : Nat} (hp : isW ns p s) : bgB L p.2 = true ↔ L.length ≤ hn ns s ∧ hv ns s / 2 ^ (hn ns s - L.length) = pv nb L.length := by
  constructor
  · intro h
    have hl := bgB_len h
    rw [hp.2, mb_len] at hl
    refine ⟨hl, ?_⟩
    rw [bgB_iff, hp.2, mb_take _ _ _ hl] at h
    have e := mb_pv h2 hL L.length (Nat.le_refl _)
    rw [List.take_length] at e
    refine mb_inj ?_ (pv_lt h2 _) (by rw [← h, e])
    rw [Nat.div_lt_iff_lt_mul (Nat.two_pow_pos _), ← Nat.pow_add, show L.length + (hn ns s - L.length) = hn ns s by omega]
    exact hc.lt s
  · rintro ⟨h1, h3⟩
    have e := mb_pv h2 hL L.length (Nat.le_refl _)
    rw [List.take_length] at e
    rw [bgB_iff, hp.2]
    simp only
    rw [mb_take _ _ _ h1, h3, e]
theorem find_none (h : ∀ s, hn ns s ≠ 0 → hn ns s ≤ L.length → pv nb (hn ns s) ≠ hv ns s) : (wds ns).find? (fun p => bgB p.2 L) = none := by
  rw [List.find?_eq_none]
  intro p hp hb
  obtain ⟨s, hs⟩ := hc.wds.1 hp
  obtain ⟨q1, q2⟩ := (word_begins hc h2 hL hs).1 hb
  exact h s hs.1 q1 q2
theorem nxt_ref : ∀ f k, k + f = 15 → k ≤ L.length → (∀ s, hn ns s ≠ 0 → hn ns s ≤ k → pv nb (hn ns s) ≠ hv ns s) → (k = 0 ∨ stB (fin ns) ns.length k (pv nb k) = true) →
    nxt ns nb L.length f k = ((refN (wds ns) L).1, (refN (wds ns) L).2.2, (refN (wds ns) L).2.1)
  | 0, k, hk, _, _, h4 => by
    rcases h4 with h | h
    · omega
    · have := stB_small hc h; omega
  | f + 1, k, hk, hkl, h3, h4 => by
    rw [nxt]
    by_cases hN : L.length ≤ k
    · rw [if_pos hN]
      obtain rfl : k = L.length := by omega
      unfold refN
      rw [find_none hc h2 hL (fun s h h' => h3 s h h')]
      simp only
      by_cases hl : L = []
      · rw [if_pos hl]
      · rw [if_neg hl]
        have hst : stB (fin ns) ns.length L.length (pv nb L.length) = true := by
          rcases h4 with h | h
          · exact absurd (List.length_eq_zero_iff.1 h) hl
          · exact h
        obtain ⟨s, q1, q2, q3, q4⟩ := (stB_iff _ _ _ _).1 hst
        simp only [fin] at q3 q4
        have hany : ((wds ns).any fun p => bgB L p.2) = true := by
          rw [List.any_eq_true]
          have hw : isW ns ((s : Int), mb (hv ns s) (hn ns s)) s := ⟨by omega, rfl⟩
          exact ⟨_, hc.wds.2 ⟨s, hw⟩, (begins_word hc h2 hL hw).2 ⟨by omega, q4⟩⟩
        rw [if_pos hany]
    · rw [if_neg hN]
      by_cases hst : stB (fin ns) ns.length (k + 1) (pv nb (k + 1)) = true
      · rw [if_pos hst]
        refine nxt_ref f (k + 1) (by omega) (by omega) (fun t ht htk => ?_) (.inr hst)
        by_cases e : hn ns t ≤ k
        · exact h3 t ht e
        · intro he
          have e1 : hn ns t = k + 1 := by omega
          obtain ⟨s, q1, q2, q3, q4⟩ := (stB_iff _ _ _ _).1 hst
          simp only [fin] at q3 q4
          refine hc.apart ht (t := s) (by omega) (by intro e2; rw [e2] at e1; omega) (by omega) ?_
          rw [e1, q4, ← e1, he]
      · rw [if_neg hst]
        have hno : ∀ s, hn ns s ≠ 0 → k + 1 < hn ns s → hv ns s / 2 ^ (hn ns s - (k + 1)) ≠ pv nb (k + 1) := fun s hs hlt he => hst ((stB_iff _ _ _ _).2 ⟨s, hn_lt hs, by omega, hlt, he⟩)
        have hno2 : ∀ s, hn ns s ≠ 0 → k + 1 < hn ns s → pv nb (hn ns s) ≠ hv ns s := fun s hs hlt he => by
          refine hno s hs hlt ?_
          have := pv_div h2 (k + 1) (hn ns s - (k + 1))
          rw [show k + 1 + (hn ns s - (k + 1)) = hn ns s by omega, he] at this
          exact this
        cases hw : wdF ns ns.length (k + 1) (pv nb (k + 1)) with
        | some z =>
          simp only
          obtain ⟨u, rfl, _, hu0, hu1, hu2⟩ := wdF_some hw
          have huw : isW ns ((u : Int), mb (hv ns u) (hn ns u)) u := ⟨hu0, rfl⟩
          unfold refN
          cases hf : (wds ns).find? (fun p => bgB p.2 L) with
          | none =>
            have := List.find?_eq_none.1 hf _ (hc.wds.2 ⟨u, huw⟩)
            exact absurd ((word_begins hc h2 hL huw).2 ⟨by omega, by rw [hu1]; exact hu2.symm⟩) this
          | some p =>
            have hb := List.find?_some hf
            obtain ⟨s, hs⟩ := hc.wds.1 (List.mem_of_find?_eq_some hf)
            obtain ⟨q1, q2⟩ := (word_begins hc h2 hL hs).1 hb
            have hsl : hn ns s = k + 1 := by
              by_cases e1 : hn ns s ≤ k
              · exact absurd q2 (h3 s hs.1 e1)
              · by_cases e2 : k + 1 < hn ns s
                · exact absurd q2 (hno2 s hs.1 e2)
                · omega
            obtain rfl : s = u := hc.inj hs.1 hu0 (by omega) (by rw [← q2, hsl, hu2])
            simp only
            rw [hs.2]
            simp only [mb_len, hsl]
        | none =>
          simp only
          have hno3 : ∀ s, hn ns s ≠ 0 → hn ns s = k + 1 → hv ns s ≠ pv nb (k + 1) := fun s hs h1 h5 => by
            have := wdF_at hc (hn_lt hs) hs
            rw [h1, h5, hw] at this
            cases this
          unfold refN
          rw [find_none hc h2 hL (fun s hs hsl he => by
            by_cases e1 : hn ns s ≤ k
            · exact h3 s hs e1 he
            · by_cases e2 : k + 1 < hn ns s
              · exact hno2 s hs e2 he
              · have e3 : hn ns s = k + 1 := by omega
                exact hno3 s hs e3 (by rw [← he, e3]))]
          simp only
          rw [if_neg (by intro e; rw [e] at hN; simp at hN)]
          have hany : ((wds ns).any fun p => bgB L p.2) = false := by
            rw [List.any_eq_false]
            intro p hp hb
            obtain ⟨s, hs⟩ := hc.wds.1 hp
            obtain ⟨q1, q2⟩ := (begins_word hc h2 hL hs).1 hb
            have e4 : hv ns s / 2 ^ (hn ns s - (k + 1)) = pv nb (k + 1) := by
              have e5 := pv_div h2 (k + 1) (L.length - (k + 1))
              rw [show k + 1 + (L.length - (k + 1)) = L.length by omega, ← q2, div_div_pow, show hn ns s - L.length + (L.length - (k + 1)) = hn ns s - (k + 1) by omega] at e5
              exact e5
            by_cases e2 : k + 1 < hn ns s
            · exact hno s hs.1 e2 e4
            · have e3 : hn ns s = k + 1 := by omega
              rw [e3, Nat.sub_self, Nat.pow_zero, Nat.div_one] at e4
              exact hno3 s hs.1 e3 e4
          rw [hany]
          rfl
end
end Go.Proofs.YtloagniacjfkfaaGreatDoor
/- The reference's Next. -/
namespace Go.Proofs.YtloagniacjfkfaaGreatDoor
open Go.RowKit

theorem Sy.irow2 {w : World} {s : Int} {b n c : Nat} {l : List Int} (h : Sy w ⟨s, b, n, c⟩ l) : IRow w (some ⟨b, 0, none⟩) l := by
  obtain ⟨h1, h2, h3, h4, cur, h5, h6⟩ := h
  refine .inr ⟨b, 0, rfl, fun i hi => ?_⟩
  rw [Nat.zero_add]
  simp only at h5
  simp [World.cell?, h5, h6 i hi]
theorem bgB_long {a b : List Int} (h : b.length < a.length) : bgB a b = false := by
  cases e : bgB a b with
  | false => rfl
  | true => have := bgB_len e; omega
theorem bgB_no {a b : List Int} (k : Nat) (hk : k < a.length) (h : a[k]?.getD 0 ≠ b[k]?.getD 0) : bgB a b = false := by
  cases e : bgB a b with
  | false => rfl
  | true =>
    have h1 := (bgB_iff a b).1 e
    refine absurd ?_ h
    conv => lhs; rw [h1]
    rw [List.getElem?_take, if_pos hk]
theorem bgB_yes {a b : List Int} (hl : a.length ≤ b.length) (h : ∀ j, j < a.length → a[j]?.getD 0 = b[j]?.getD 0) : bgB a b = true := by
  rw [bgB_iff]
  apply List.ext_getElem?
  intro j
  rw [List.getElem?_take]
  by_cases hj : j < a.length
  · have := h j hj
    rw [if_pos hj, List.getElem?_eq_getElem hj, List.getElem?_eq_getElem (by omega)] at *
    simpa using this
  · rw [if_neg hj, List.getElem?_eq_none (by omega)]
set_option maxHeartbeats 1600000 in
theorem begins_any (a1 : Option Addr) (n1 c1 : Nat) (l1 : List Int) (a2 : Option Addr) (n2 c2 : Nat) (l2 : List Int) (w : World) (h1 : l1.length = n1) (h2 : l2.length = n2) (r1 : IRow w a1 l1) (r2 : IRow w a2 l2) (hs : n1 ≤ 1000000) (hs2 : n2 ≤ 1000000) :
    Calls Tryz.prog 119 #[.slice a1 n1 c1, .slice a2 n2 c2] w fun e w' => e = .returned (.bool (bgB l1 l2)) ∧ Below w.heap.size w w' := by
  have HN : Hid (l1.length = n1 ∧ l2.length = n2) := ⟨h1, h2⟩
  have HR : Hid (IRow w a1 l1 ∧ IRow w a2 l2) := ⟨r1, r2⟩
  clear h1 h2 r1 r2
  by_cases hlong : n2 < n1
  · have hz : (n2 : Int) < (n1 : Int) := by omega
    have HO : Hid (bgB l1 l2 = false) := bgB_long (by rw [HN.out.1, HN.out.2]; exact hlong)
    rw [HO.out]
    go_enter Tryz.func119, Tryz.ntmps119
    go_wp2
    go_ret
    exact ⟨rfl, Below.refl _ _⟩
  · have hz : ¬ (n2 : Int) < (n1 : Int) := by omega
    go_enter Tryz.func119, Tryz.ntmps119
    go_wp2
    go_loopw [13] (fun i wr => ∃ k : Nat, k ≤ n1 ∧ i = .int .i64 k ∧ Below w.heap.size w wr ∧ Hid (∀ j, j < k → l1[j]?.getD 0 = l2[j]?.getD 0)) (fun i _ => n1 - (intOf i).toNat)
    case atStart => exact ⟨0, Nat.zero_le _, rfl, Below.refl _ _, fun j hj => by omega⟩
    case round =>
      obtain ⟨k, hk, rfl, hbel, HA⟩ := hrel
      have HBL : Hid (Below w.heap.size w wr) := hbel
      clear hbel
      by_cases hlt : k < n1
      · obtain ⟨b1, o1, rfl, q1⟩ := HR.out.1.at k (by have := HN.out.1; omega)
        obtain ⟨b2, o2, rfl, q2⟩ := HR.out.2.at k (by have := HN.out.2; omega)
        have hc1 := (HBL.out.cell (p := ⟨b1, o1 + k, none⟩) (cell_lt q1)).trans q1
        have hc2 := (HBL.out.cell (p := ⟨b2, o2 + k, none⟩) (cell_lt q2)).trans q2
        clear q1 q2
        have hk2 : k < n2 := by omega
        have HX : Hid (l1[k]?.getD 0 ≠ l2[k]?.getD 0 → bgB l1 l2 = false) := fun h => bgB_no k (by have := HN.out.1; omega) h
        have HY : Hid (l1[k]?.getD 0 = l2[k]?.getD 0 → ∀ j, j < k + 1 → l1[j]?.getD 0 = l2[j]?.getD 0) := fun h j hj => by
          by_cases hjk : j < k
          · exact HA.out j hjk
          · obtain rfl : j = k := by omega
            exact h
        clear HA
        generalize l1[k]?.getD 0 = x at *
        generalize l2[k]?.getD 0 = y at *
        by_cases hxy : x = y
        · subst hxy
          have HZ : Hid (∀ j, j < k + 1 → l1[j]?.getD 0 = l2[j]?.getD 0) := HY.out rfl
          clear HY HX
          go_wp2
          go_quiet (fail)
          go_wp2
          go_roundw
          case rel => exact ⟨k + 1, by omega, by go_num, below_drewN' HBL.out _, HZ.out⟩
          case measure => simp [intOf]; omega
        · have hxb : (x == y) = false := by simp [hxy]
          have HO : Hid (bgB l1 l2 = false) := HX.out hxy
          clear HY HX
          go_wp2
          go_quiet (fail)
          go_wp2
          go_ret
          exact ⟨by rw [HO.out]; rfl, below_drewN' HBL.out _⟩
      · obtain rfl : k = n1 := by omega
        have HO : Hid (bgB l1 l2 = true) := bgB_yes (by rw [HN.out.1, HN.out.2]; omega) (fun j hj => HA.out j (by rw [HN.out.1] at hj; exact hj))
        clear HA
        go_wp2
        go_ret
        exact ⟨by rw [HO.out]; rfl, HBL.out⟩
theorem find_at {α : Type} [Inhabited α] (p : α → Bool) : ∀ (l : List α) (k : Nat), k < l.length → (∀ j, j < k → p (l[j]?.getD default) = false) → p (l[k]?.getD default) = true → l.find? p = some (l[k]?.getD default)
  | x :: r, 0, _, _, h => by
    rw [List.find?_cons]
    have : p x = true := h
    rw [this]; rfl
  | x :: r, k + 1, hk, h1, h2 => by
    have : p x = false := h1 0 (by omega)
    rw [List.find?_cons, this]
    simp only
    rw [find_at p r k (by simpa using hk) (fun j hj => by simpa using h1 (j + 1) (by omega)) (by simpa using h2)]
    simp
theorem none_at {α : Type} [Inhabited α] (p : α → Bool) (l : List α) (h : ∀ j, j < l.length → p (l[j]?.getD default) = false) : l.find? p = none := by
  rw [List.find?_eq_none]
  intro x hx
  obtain ⟨i, hi, rfl⟩ := List.mem_iff_getElem.1 hx
  have := h i hi
  rw [List.getElem?_eq_getElem hi] at this
  simpa using this
def RefPost (w : World) (o : Int × Nat × Int) (e : Ending) (w' : World) : Prop :=
  e = .returned (.tuple #[.int .i64 o.1, .int .i64 o.2.1, .int .i64 o.2.2]) ∧ Below w.heap.size w w'
set_option maxHeartbeats 3200000 in
set_option maxRecDepth 20000 in
theorem refNext_any (base : Nat) (ad : Option Addr) (cp : Nat) (xs : List Pv) (ps : List Pc) (a : Option Addr) (n c : Nat) (l : List Int) (w : World) (L : Nat) (hLL : xs.length = L) (hq : QRow w base (.slice ad L cp) xs) (hps : PS w xs ps) (hn : l.length = n) (hr : IRow w a l) (hs : n ≤ 1000000) (hsL : L ≤ 1000000) (hp : ∀ p ∈ ps, p.2.length ≤ 1000000) :
    Calls Tryz.prog 96 #[.slice ad L cp, .slice a n c] w fun e w' => RefPost w (refN ps l) e w' := by
  have HL : Hid (xs.length = L) := hLL
  have HQ : Hid (QRow w base (.slice ad L cp) xs) := hq
  have HPS : Hid (PS w xs ps) := hps
  have HN : Hid (l.length = n) := hn
  have HR : Hid (IRow w a l) := hr
  have HP : Hid (∀ j, (ps[j]?.getD (default : Pc)).2.length ≤ 1000000) := fun j => by
    by_cases hj : j < ps.length
    · rw [List.getElem?_eq_getElem hj]; exact hp _ (List.getElem_mem hj)
    · rw [List.getElem?_eq_none (by omega)]; exact Nat.zero_le _
  have HPL : Hid (ps.length = L) := by show _ = _; rw [← All2.len hps]; exact hLL
  clear hLL hq hps hn hr hp
  go_enter Tryz.func96, Tryz.ntmps96
  go_wp2
  go_loopw [13] (fun i wr => ∃ k : Nat, k ≤ L ∧ i = .int .i64 k ∧ Below w.heap.size w wr ∧ Hid (∀ j, j < k → bgB (ps[j]?.getD (default : Pc)).2 l = false)) (fun i _ => L - (intOf i).toNat)
  case atStart => exact ⟨0, Nat.zero_le _, rfl, Below.refl _ _, fun j hj => by omega⟩
  case round =>
    obtain ⟨k, hk, rfl, hbel, HA⟩ := hrel
    have HBL : Hid (Below w.heap.size w wr) := hbel
    clear hbel
    by_cases hlt : k < L
    · have hki : k < xs.length := by rw [HL.out]; exact hlt
      obtain ⟨b, hadb, hbl, hc0, hc1⟩ := HQ.out.at k hki
      have hrp := All2.at HPS.out k hki
      have HPK : Hid ((ps[k]?.getD (default : Pc)).2.length ≤ 1000000) := HP.out k
      have HF : Hid (bgB (ps[k]?.getD (default : Pc)).2 l = true → ps.find? (fun p => bgB p.2 l) = some (ps[k]?.getD (default : Pc))) := fun h => find_at _ ps k (by rw [HPL.out]; exact hlt) HA.out h
      have HG : Hid (bgB (ps[k]?.getD (default : Pc)).2 l = false → ∀ j, j < k + 1 → bgB (ps[j]?.getD (default : Pc)).2 l = false) := fun h j hj => by
        by_cases hjk : j < k
        · exact HA.out j hjk
        · obtain rfl : j = k := by omega
          exact h
      clear HA
      generalize xs[k]?.getD default = x at hrp hc0 hc1
      generalize ps[k]?.getD (default : Pc) = p at *
      obtain ⟨xw, xb, xn, xc⟩ := x
      obtain ⟨hx1, hsy⟩ := hrp
      simp only at hx1 hc0 hc1
      subst hx1
      have hc0' := (HBL.out.cell (p := ⟨b, k * 2, none⟩) hbl).trans hc0
      have hc1' := (HBL.out.cell (p := ⟨b, k * 2 + 1, none⟩) hbl).trans hc1
      subst hadb
      have HB2 : Hid (Below wr.heap.size wr (wr.alloc (.cells #[.int .i64 p.1, .slice (some ⟨xb, 0, none⟩) xn xc] 152))) := (Below.refl _ _).alloc (Nat.le_refl _) _
      have HSY : Hid (Sy wr ⟨p.1, xb, xn, xc⟩ p.2) := hsy.old HBL.out
      have hxn : xn ≤ 1000000 := by have := hsy.1; have := HPK.out; simp only at *; omega
      clear hc0 hc1 hbl hsy
      go_wp2_with fail
      refine (begins_any (some ⟨xb, 0, none⟩) xn xc p.2 a n c l _ HSY.out.1.symm HN.out (Sy.irow2 (HSY.out.old HB2.out)) ((HR.out.old HBL.out).old HB2.out) (by omega) hs).mono ?_
      rintro e w2 ⟨rfl, hb2⟩
      have h5 : w2.heap[wr.heap.size]? = some (.cells #[.int .i64 p.1, .slice (some ⟨xb, 0, none⟩) xn xc] 152 (0, 0)) := (hb2.block _ (by simp)).trans (heap_alloc_new _ _)
      have HB3 : Hid (Below w.heap.size w w2) := HBL.out.trans ((HB2.out.trans (hb2.mono (by simp))).mono HBL.out.size)
      obtain ⟨c0, c1, c2, c3⟩ := two_cells h5
      obtain ⟨M, hM⟩ : ∃ M, wr.heap.size = M := ⟨_, rfl⟩
      rw [hM] at c0 c1 c2 c3 ⊢
      clear h5 hb2 HB2 hM hc0' hc1'
      cases hbg : bgB p.2 l with
      | true =>
        have HO : Hid (refN ps l = (p.1, xn, 0)) := by
          show _ = _
          unfold refN
          rw [HF.out hbg]
          simp only
          rw [← HSY.out.1]
        clear HF HG hbg HSY
        go_wp2
        go_quiet (fail)
        go_wp2
        go_ret3
        show RefPost _ _ _ _
        rw [HO.out]
        exact ⟨rfl, below_drewN' HB3.out _⟩
      | false =>
        have HH := HG.out hbg
        have HH : Hid (∀ j, j < k + 1 → bgB (ps[j]?.getD (default : Pc)).2 l = false) := HH
        clear HF HG hbg HSY
        go_wp2
        go_roundw
        case rel => exact ⟨k + 1, by omega, by go_num, HB3.out, HH.out⟩
        case measure => simp [intOf]; omega
    · have HF : Hid (ps.find? (fun p => bgB p.2 l) = none) := none_at _ ps (fun j hj => HA.out j (by rw [HPL.out] at hj; omega))
      obtain rfl : k = L := by omega
      clear HA
      by_cases hn0 : n = 0
      · have HO : Hid (refN ps l = (0, 0, 2)) := by
          show _ = _
          unfold refN
          rw [HF.out]
          simp only
          rw [if_pos (List.length_eq_zero_iff.1 (by rw [HN.out]; exact hn0))]
        subst hn0
        clear HF
        go_wp2
        go_ret3
        show RefPost _ _ _ _
        rw [HO.out]
        exact ⟨rfl, HBL.out⟩
      · have hnb : ((n : Int) == 0) = false := by simp; omega
        have HO : Hid (refN ps l = if ps.any (fun p => bgB l p.2) then (0, 0, 2) else (0, 0, 6)) := by
          show _ = _
          unfold refN
          rw [HF.out]
          simp only
          rw [if_neg (by intro e; rw [e] at HN; have := HN.out; simp at this; omega)]
        clear HF
        obtain ⟨w7, rfl⟩ : ∃ w7, w7 = wr := ⟨_, rfl⟩
        go_wp2
        go_loopw [32] (fun i wr => ∃ j : Nat, j ≤ k ∧ i = .int .i64 j ∧ Below w.heap.size w wr ∧ Hid (∀ i, i < j → bgB l (ps[i]?.getD (default : Pc)).2 = false)) (fun i _ => k - (intOf i).toNat)
        case atStart => exact ⟨0, Nat.zero_le _, rfl, HBL.out, fun j hj => by omega⟩
        case round =>
          clear HBL
          obtain ⟨j, hj, rfl, hbel, HA⟩ := hrel
          have HBL : Hid (Below w.heap.size w wr) := hbel
          clear hbel
          by_cases hlt2 : j < k
          · have hki : j < xs.length := by rw [HL.out]; exact hlt2
            obtain ⟨b, hadb, hbl, hc0, hc1⟩ := HQ.out.at j hki
            have hrp := All2.at HPS.out j hki
            have HPK : Hid ((ps[j]?.getD (default : Pc)).2.length ≤ 1000000) := HP.out j
            have HF : Hid (bgB l (ps[j]?.getD (default : Pc)).2 = true → (ps.any fun p => bgB l p.2) = true) := fun h => by
              have hjp : j < ps.length := by rw [HPL.out]; exact hlt2
              rw [List.getElem?_eq_getElem hjp] at h
              exact List.any_eq_true.2 ⟨_, List.getElem_mem hjp, h⟩
            have HG : Hid (bgB l (ps[j]?.getD (default : Pc)).2 = false → ∀ i, i < j + 1 → bgB l (ps[i]?.getD (default : Pc)).2 = false) := fun h i hi => by
              by_cases hjk : i < j
              · exact HA.out i hjk
              · obtain rfl : i = j := by omega
                exact h
            clear HA
            generalize xs[j]?.getD default = x at hrp hc0 hc1
            generalize ps[j]?.getD (default : Pc) = p at *
            obtain ⟨xw, xb, xn, xc⟩ := x
            obtain ⟨hx1, hsy⟩ := hrp
            simp only at hx1 hc0 hc1
            subst hx1
            have hc0' := (HBL.out.cell (p := ⟨b, j * 2, none⟩) hbl).trans hc0
            have hc1' := (HBL.out.cell (p := ⟨b, j * 2 + 1, none⟩) hbl).trans hc1
            subst hadb
            have HB2 : Hid (Below wr.heap.size wr (wr.alloc (.cells #[.int .i64 p.1, .slice (some ⟨xb, 0, none⟩) xn xc] 152))) := (Below.refl _ _).alloc (Nat.le_refl _) _
            have HSY : Hid (Sy wr ⟨p.1, xb, xn, xc⟩ p.2) := hsy.old HBL.out
            have hxn : xn ≤ 1000000 := by have := hsy.1; have := HPK.out; simp only at *; omega
            clear hc0 hc1 hbl hsy
            go_wp2_with fail
            refine (begins_any a n c l (some ⟨xb, 0, none⟩) xn xc p.2 _ HN.out HSY.out.1.symm ((HR.out.old HBL.out).old HB2.out) (Sy.irow2 (HSY.out.old HB2.out)) hs (by omega)).mono ?_
            rintro e w2 ⟨rfl, hb2⟩
            have HB3 : Hid (Below w.heap.size w w2) := HBL.out.trans ((HB2.out.trans (hb2.mono (by simp))).mono HBL.out.size)
            clear hb2 HB2 hc0' hc1'
            cases hbg : bgB l p.2 with
            | true =>
              have HO2 : Hid (refN ps l = (0, 0, 2)) := by show _ = _; rw [HO.out, if_pos (HF.out hbg)]
              clear HF HG hbg HSY
              go_wp2
              go_ret3
              show RefPost _ _ _ _
              rw [HO2.out]
              exact ⟨rfl, HB3.out⟩
            | false =>
              have HH : Hid (∀ i, i < j + 1 → bgB l (ps[i]?.getD (default : Pc)).2 = false) := HG.out hbg
              clear HF HG hbg HSY
              go_wp2
              go_roundw
              case rel => exact ⟨j + 1, by omega, by go_num, HB3.out, HH.out⟩
              case measure => simp [intOf]; omega
          · obtain rfl : j = k := by omega
            have hany : (ps.any fun p => bgB l p.2) = false := by
              rw [List.any_eq_false]
              intro p hp hb
              obtain ⟨i, hi, rfl⟩ := List.mem_iff_getElem.1 hp
              have := HA.out i (by rw [HPL.out] at hi; exact hi)
              rw [List.getElem?_eq_getElem hi] at this
              rw [show (some ps[i]).getD default = ps[i] from rfl, hb] at this
              cases this
            have HO2 : Hid (refN ps l = (0, 0, 6)) := by show _ = _; rw [HO.out, hany]; rfl
            clear HA hany
            go_wp2
            go_ret3
            show RefPost _ _ _ _
            rw [HO2.out]
            exact ⟨rfl, HBL.out⟩
end Go.Proofs.YtloagniacjfkfaaGreatDoor
