/- Joined: PcL TuL HiCI RfI. -/
import Derived.Test.YtloagniacjfkfaaGreatDoorQF
import Derived.Test.YtloagniacjfkfaaGreatDoorQC
import Derived.Test.YtloagniacjfkfaaGreatDoorQI
import Derived.Test.YtloagniacjfkfaaGreatDoorQD
/- Words of a code in memory: their symbols and bits. -/
namespace Go.Proofs.YtloagniacjfkfaaGreatDoor
open Go.RowKit
/-- A parcel: its weight, and where its symbols lie: block b, n of them. -/
structure Pv where
  wt : Int
  b : Nat
  n : Nat
  c : Nat
  deriving Inhabited
def Pv.enc (x : Pv) : List Value := [.int .i64 x.wt, .slice (some ⟨x.b, 0, none⟩) x.n x.c]
theorem enc_len (x : Pv) : x.enc.length = 2 := rfl
theorem enc_one (x : Pv) : ∀ v ∈ x.enc, v.oneCell' = true := by
  intro v hv
  simp only [Pv.enc, List.mem_cons, List.not_mem_nil, or_false] at hv
  rcases hv with rfl | rfl <;> rfl
def flat (xs : List Pv) : List Value := xs.flatMap Pv.enc
theorem flat_nil : flat [] = [] := rfl
theorem flat_cons (x : Pv) (r : List Pv) : flat (x :: r) = x.enc ++ flat r := by simp [flat]
theorem flat_append (l m : List Pv) : flat (l ++ m) = flat l ++ flat m := by simp [flat]
theorem flat_len (xs : List Pv) : (flat xs).length = xs.length * 2 := by
  induction xs with
  | nil => rfl
  | cons x r ih => rw [flat_cons, List.length_append, ih, enc_len, List.length_cons]; omega
theorem flat_at (xs : List Pv) (i : Nat) (hi : i < xs.length) : (flat xs)[i * 2]? = some (.int .i64 (xs[i]?.getD default).wt) ∧ (flat xs)[i * 2 + 1]? = some (.slice (some ⟨(xs[i]?.getD default).b, 0, none⟩) (xs[i]?.getD default).n (xs[i]?.getD default).c) := by
  induction xs generalizing i with
  | nil => simp at hi
  | cons x r ih =>
    rw [flat_cons]
    cases i with
    | zero => exact ⟨rfl, rfl⟩
    | succ i =>
      have hi' : i < r.length := by simpa using hi
      rw [List.getElem?_append_right (by rw [enc_len]; omega), List.getElem?_append_right (by rw [enc_len]; omega), enc_len, show (i + 1) * 2 - 2 = i * 2 by omega, show (i + 1) * 2 + 1 - 2 = i * 2 + 1 by omega, List.getElem?_cons_succ]
      exact ih i hi'
theorem flat_one (xs : List Pv) : ∀ u ∈ flat xs, u.oneCell' = true := by
  intro u hu
  simp only [flat, List.mem_flatMap] at hu
  obtain ⟨x, _, hu⟩ := hu
  exact enc_one x u hu
abbrev Pc := Int × List Int
inductive All2 {α β : Type} (R : α → β → Prop) : List α → List β → Prop
  | nil : All2 R [] []
  | cons {x : α} {p : β} {xs : List α} {ps : List β} : R x p → All2 R xs ps → All2 R (x :: xs) (p :: ps)
section
variable {α β : Type} {R : α → β → Prop}
theorem All2.len {xs : List α} {ps : List β} (h : All2 R xs ps) : xs.length = ps.length := by
  induction h with
  | nil => rfl
  | cons _ _ ih => simp [ih]
theorem All2.imp {R' : α → β → Prop} {xs : List α} {ps : List β} (h : All2 R xs ps) (hi : ∀ x p, x ∈ xs → R x p → R' x p) : All2 R' xs ps := by
  induction h with
  | nil => exact .nil
  | cons h1 _ ih => exact .cons (hi _ _ (by simp) h1) (ih fun x p hx => hi x p (by simp [hx]))
theorem All2.append {xs ys : List α} {ps qs : List β} (h : All2 R xs ps) (k : All2 R ys qs) : All2 R (xs ++ ys) (ps ++ qs) := by
  induction h with
  | nil => exact k
  | cons h1 _ ih => exact .cons h1 ih
theorem All2.at [Inhabited α] [Inhabited β] {xs : List α} {ps : List β} (h : All2 R xs ps) (i : Nat) (hi : i < xs.length) : R (xs[i]?.getD default) (ps[i]?.getD default) := by
  induction h generalizing i with
  | nil => simp at hi
  | cons h1 _ ih =>
    cases i with
    | zero => exact h1
    | succ i => simpa using ih i (by simpa using hi)
theorem All2.take {xs : List α} {ps : List β} (h : All2 R xs ps) (n : Nat) : All2 R (xs.take n) (ps.take n) := by
  induction h generalizing n with
  | nil => cases n <;> exact .nil
  | cons h1 _ ih => cases n with
    | zero => exact .nil
    | succ n => exact .cons h1 (ih n)
theorem All2.drop {xs : List α} {ps : List β} (h : All2 R xs ps) (n : Nat) : All2 R (xs.drop n) (ps.drop n) := by
  induction h generalizing n with
  | nil => cases n <;> exact .nil
  | cons h1 h2 ih => cases n with
    | zero => exact .cons h1 h2
    | succ n => exact ih n
end
/-- x's symbols in memory are l. -/
def Sy (w : World) (x : Pv) (l : List Int) : Prop :=
  x.n = l.length ∧ 1 ≤ x.n ∧ x.n ≤ x.c ∧ x.c ≤ maxLen ∧ ∃ cur, w.heap[x.b]? = some (.cells cur 3 (0, 0)) ∧ ∀ i, i < l.length → cur[i]? = some (.int .i64 (l[i]?.getD 0))
def Rp (w : World) (x : Pv) (p : Pc) : Prop := x.wt = p.1 ∧ Sy w x p.2
theorem Sy.same {w w' : World} {x : Pv} {l : List Int} (h : Sy w x l) (hs : w'.heap[x.b]? = w.heap[x.b]?) : Sy w' x l := by
  obtain ⟨h1, h2, h3, h4, cur, h5, h6⟩ := h
  exact ⟨h1, h2, h3, h4, cur, hs.trans h5, h6⟩
theorem Sy.lt {w : World} {x : Pv} {l : List Int} (h : Sy w x l) : x.b < w.heap.size := by
  obtain ⟨h1, h2, h3, h4, cur, h5, h6⟩ := h
  exact lt_of_block h5
theorem Sy.old {w w' : World} {x : Pv} {l : List Int} (h : Sy w x l) (hb : Below w.heap.size w w') : Sy w' x l := h.same (hb.block _ h.lt)
theorem Rp.old {w w' : World} {x : Pv} {p : Pc} (h : Rp w x p) (hb : Below w.heap.size w w') : Rp w' x p := ⟨h.1, h.2.old hb⟩
abbrev PS (w : World) (xs : List Pv) (ps : List Pc) : Prop := All2 (Rp w) xs ps
theorem PS.old {w w' : World} {ys : List Pv} {ps : List Pc} (h : PS w ys ps) (hb : Below w.heap.size w w') : PS w' ys ps := All2.imp h fun _ _ _ k => k.old hb
end Go.Proofs.YtloagniacjfkfaaGreatDoor
/- Words turned. -/
namespace Go.Proofs.YtloagniacjfkfaaGreatDoor
open Go.RowKit
theorem turn_split (v d : Nat) : ∀ k, turn v (d + k) = turn v d * 2 ^ k + turn (v / 2 ^ d) k
  | 0 => by simp [turn]
  | k + 1 => by
    rw [← Nat.add_assoc, turn, turn_split v d k, turn, Nat.pow_succ, Nat.div_div_eq_div_mul, ← Nat.pow_add, Nat.add_mul, Nat.mul_assoc, Nat.add_assoc]
/-- The first k bits of a word of n bits, the lowest first. -/
theorem turn_mod (v n k : Nat) (h : k ≤ n) : turn v n % 2 ^ k = turn (v / 2 ^ (n - k)) k := by
  have := turn_split v (n - k) k
  rw [Nat.sub_add_cancel h] at this
  rw [this, Nat.mul_comm, Nat.mul_add_mod, Nat.mod_eq_of_lt (turn_lt _ _)]
theorem turn_inj {v u : Nat} : ∀ {k : Nat}, v < 2 ^ k → u < 2 ^ k → turn v k = turn u k → v = u
  | 0, h1, h2, _ => by simp at h1 h2; omega
  | k + 1, h1, h2, h => by
    have e1 := turn_split v 1 k
    have e2 := turn_split u 1 k
    rw [Nat.add_comm 1 k] at e1 e2
    rw [e1, e2] at h
    have t1 : turn v 1 = v % 2 := by simp [turn]
    have t2 : turn u 1 = u % 2 := by simp [turn]
    rw [t1, t2, Nat.pow_one] at h
    have l1 := turn_lt (v / 2) k
    have l2 := turn_lt (u / 2) k
    have m1 : v % 2 = u % 2 := by
      rcases Nat.mod_two_eq_zero_or_one v with a | a <;> rcases Nat.mod_two_eq_zero_or_one u with b | b <;> rw [a, b] at h ⊢ <;> omega
    rw [m1] at h
    have m2 : turn (v / 2) k = turn (u / 2) k := by omega
    rw [Nat.pow_succ] at h1 h2
    have m3 := turn_inj (by omega) (by omega) m2
    omega
/-- Of two words the first bits are not the same, as many as the shorter one has. -/
theorem Cd.free {ns : List Nat} (h : Cd ns) {s t : Nat} (hne : s ≠ t) (k : Nat) (hk : k = min (hn ns s) (hn ns t)) (h0 : 0 < k) : turn (hv ns s) (hn ns s) % 2 ^ k ≠ turn (hv ns t) (hn ns t) % 2 ^ k := by
  intro e
  rw [turn_mod _ _ _ (by omega), turn_mod _ _ _ (by omega)] at e
  have hlt : ∀ s, k ≤ hn ns s → hv ns s / 2 ^ (hn ns s - k) < 2 ^ k := fun s hs => by
    rw [Nat.div_lt_iff_lt_mul (Nat.two_pow_pos _), ← Nat.pow_add, show k + (hn ns s - k) = hn ns s by omega]
    exact h.lt s
  have e2 := turn_inj (hlt s (by omega)) (hlt t (by omega)) e
  by_cases hle : hn ns s ≤ hn ns t
  · obtain rfl : k = hn ns s := by omega
    rw [Nat.sub_self, Nat.pow_zero, Nat.div_one] at e2
    exact h.apart (by omega) (by omega) hne hle e2.symm
  · obtain rfl : k = hn ns t := by omega
    rw [Nat.sub_self, Nat.pow_zero, Nat.div_one] at e2
    exact h.apart (by omega) (by omega) (fun e => hne e.symm) (by omega) e2
end Go.Proofs.YtloagniacjfkfaaGreatDoor
/- The reference's Check. -/
namespace Go.Proofs.YtloagniacjfkfaaGreatDoor
open Go.RowKit

def onesN (ls : List Int) : Nat := ls.countP fun n => decide (n = 1)
theorem onesN_snoc (l : List Int) (x : Int) : onesN (l ++ [x]) = onesN l + if x = 1 then 1 else 0 := by
  simp [onesN, List.countP_append, List.countP_cons]
theorem onesN_le (ls : List Int) : onesN ls ≤ ls.length := List.countP_le_length
theorem words_zero {ls : List Int} (h : wordsN ls = 0) : onesN ls = 0 := by
  unfold wordsN at h
  unfold onesN
  rw [List.countP_eq_zero] at h ⊢
  intro x hx
  have := h x hx
  simp at this ⊢
  omega
theorem words_one {ls : List Int} (hk : ∀ x ∈ ls, 0 ≤ x ∧ x ≤ 15) (h : wordsN ls = 1) : ∃ n : Nat, 1 ≤ n ∧ n ≤ 15 ∧ sharesN ls = hshr n ∧ onesN ls = if n = 1 then 1 else 0 := by
  induction ls with
  | nil => simp [wordsN] at h
  | cons x r ih =>
    have hx := hk x (by simp)
    have e1 : wordsN (x :: r) = wordsN r + if 0 < x then 1 else 0 := by simp [wordsN, List.countP_cons]
    have e2 : sharesN (x :: r) = hshr x.toNat + sharesN r := by simp [sharesN, kraft]
    have e3 : onesN (x :: r) = onesN r + if x = 1 then 1 else 0 := by simp [onesN, List.countP_cons]
    by_cases hp : 0 < x
    · rw [if_pos hp] at e1
      have h0 : wordsN r = 0 := by omega
      refine ⟨x.toNat, by omega, by omega, by rw [e2, kraft_zero h0]; rfl, ?_⟩
      rw [e3, words_zero h0, Nat.zero_add]
      by_cases h1 : x = 1
      · subst h1; rfl
      · rw [if_neg h1, if_neg (by omega)]
    · rw [if_neg hp] at e1
      obtain ⟨n, q1, q2, q3, q4⟩ := ih (fun y hy => hk y (by simp [hy])) (by omega)
      obtain rfl : x = 0 := by omega
      exact ⟨n, q1, q2, by rw [e2, q3]; simp [hshr], by rw [e3, q4]; simp⟩
theorem hshr_top {n : Nat} (h1 : 1 ≤ n) (h2 : n ≤ 15) : (hshr n = 16384 ↔ n = 1) ∧ hshr n ≠ 32768 := by
  have : ∀ n : Fin 16, 1 ≤ n.val → (hshr n.val = 16384 ↔ n.val = 1) ∧ hshr n.val ≠ 32768 := by decide
  exact this ⟨n, by omega⟩ h1
theorem whole_check {ls : List Int} (hk : okLens ls = true) : (decide (sharesN ls = 32768) || decide (wordsN ls = 0) || (decide (wordsN ls = 1) && decide (onesN ls = 1))) = wholeB ls := by
  unfold wholeB
  by_cases h0 : wordsN ls = 0
  · simp [h0]
  · rw [if_neg h0]
    by_cases h1 : wordsN ls = 1
    · rw [if_pos h1]
      have hm : ∀ x ∈ ls, 0 ≤ x ∧ x ≤ 15 := fun x hx => by
        obtain ⟨i, hi, rfl⟩ := List.mem_iff_getElem.1 hx
        have := okLens_at hk i
        rw [List.getElem?_eq_getElem hi] at this
        exact this
      obtain ⟨n, q1, q2, q3, q4⟩ := words_one hm h1
      have ht := hshr_top q1 q2
      rw [q3, q4, h1]
      by_cases hn : n = 1
      · subst hn; decide
      · simp [hn, ht.2]
        intro h
        exact absurd (ht.1.1 h) hn
    · simp [h0, h1]
def checkV (ls : List Int) : Int := if okLens ls then (if wholeB ls then 0 else 5) else 1
set_option maxHeartbeats 1600000 in
theorem check_any (a : Option Addr) (len cap : Nat) (ls : List Int) (w : World) (hn : ls.length = len) (hl : len ≤ 140737488355328) (hr : IRow w a ls) :
    Calls Tryz.prog 77 #[.slice a len cap] w fun e w' => e = .returned (.int .i64 (checkV ls)) ∧ w' = w := by
  have HN : Hid (ls.length = len) := hn
  have HR : Hid (IRow w a ls) := hr
  clear hn hr
  by_cases hlong : 288 < len
  · have hz : (288 : Int) < (len : Int) := by omega
    have HO : Hid (checkV ls = 1) := by unfold checkV; rw [okLens_long (by rw [HN.out]; exact hlong)]; rfl
    go_enter Tryz.func77, Tryz.ntmps77
    go_wp2
    go_ret
    exact ⟨ret_int HO.out.symm, rfl⟩
  · have hz : ¬ (288 : Int) < (len : Int) := by omega
    go_enter Tryz.func77, Tryz.ntmps77
    go_wp2
    go_loop [3, 4, 5, 13] (fun rm ws os i => ∃ k : Nat, k ≤ len ∧ i = .int .i64 k ∧ rm = .int .i64 (sharesN (ls.take k)) ∧ ws = .int .i64 (wordsN (ls.take k)) ∧ os = .int .i64 (onesN (ls.take k)) ∧ Hid (∀ j, j < k → 0 ≤ ls[j]?.getD 0 ∧ ls[j]?.getD 0 ≤ 15)) (fun _ _ _ i => len - (intOf i).toNat)
    case atStart => exact ⟨0, Nat.zero_le _, rfl, rfl, rfl, rfl, fun j hj => by omega⟩
    case round =>
      obtain ⟨k, hk, rfl, rfl, rfl, rfl, HA⟩ := hrel
      have ht : (ls.take k).length ≤ 288 := by rw [List.length_take]; omega
      have hw1 := wordsN_le (ls.take k)
      have hs1 := sharesN_le (ls.take k)
      have ho1 := onesN_le (ls.take k)
      have hw2 : wordsN (ls.take k) ≤ 288 := by omega
      have hs2 : sharesN (ls.take k) ≤ 4718592 := by omega
      have ho2 : onesN (ls.take k) ≤ 288 := by omega
      clear hw1 hs1 ht ho1
      by_cases hlt : k < len
      · obtain ⟨b, off, rfl, hck⟩ := HR.out.at k (by have := HN.out; omega)
        have HW : Hid (wordsN (ls.take (k + 1)) = wordsN (ls.take k) + if 0 < ls[k]?.getD 0 then 1 else 0) := by show _ = _; rw [take_snocI ls k (by have := HN.out; omega), wordsN_snoc]
        have HS : Hid (sharesN (ls.take (k + 1)) = sharesN (ls.take k) + hshr (ls[k]?.getD 0).toNat) := by show _ = _; rw [take_snocI ls k (by have := HN.out; omega), sharesN_snoc]
        have HO1 : Hid (onesN (ls.take (k + 1)) = onesN (ls.take k) + if ls[k]?.getD 0 = 1 then 1 else 0) := by show _ = _; rw [take_snocI ls k (by have := HN.out; omega), onesN_snoc]
        generalize wordsN (ls.take k) = W at *
        generalize sharesN (ls.take k) = T at *
        generalize onesN (ls.take k) = O at *
        by_cases h0 : ls[k]?.getD 0 < 0
        · have HO : Hid (checkV ls = 1) := by unfold checkV; rw [okLens_no k (by rw [HN.out]; exact hlt) (.inl h0)]; rfl
          generalize ls[k]?.getD 0 = z at *
          go_wp2
          go_ret
          exact ⟨ret_int HO.out.symm, rfl⟩
        · by_cases h1 : 15 < ls[k]?.getD 0
          · have HO : Hid (checkV ls = 1) := by unfold checkV; rw [okLens_no k (by rw [HN.out]; exact hlt) (.inr h1)]; rfl
            generalize ls[k]?.getD 0 = z at *
            go_wp2
            go_ret
            exact ⟨ret_int HO.out.symm, rfl⟩
          · have HB : Hid (∀ j, j < k + 1 → 0 ≤ ls[j]?.getD 0 ∧ ls[j]?.getD 0 ≤ 15) := fun j hj => by
              by_cases hjk : j < k
              · exact HA.out j hjk
              · obtain rfl : j = k := by omega
                omega
            clear HA
            generalize ls[k]?.getD 0 = z at h0 h1 hck HW HS HO1
            obtain ⟨n, rfl⟩ := Int.eq_ofNat_of_zero_le (show 0 ≤ z by omega)
            have hq := hshr_le n
            rw [Int.toNat_natCast] at HS
            by_cases hp : 0 < n
            · have hpz : (0 : Int) < (n : Int) := by omega
              obtain ⟨he, _⟩ := hshr_pos n hp
              have HX : Hid (wordsN (ls.take (k + 1)) = W + 1) := by show _ = _; rw [HW.out, if_pos hpz]
              have hwn : IntKind.u64.wrap (15 - (n : Int)) = 15 - (n : Int) := by rw [IntKind.wrap_u64]; omega
              clear HW
              by_cases hone : n = 1
              · subst hone
                have HY : Hid (onesN (ls.take (k + 1)) = O + 1) := by show _ = _; rw [HO1.out]; rfl
                have e1 : hshr 1 = 16384 := rfl
                rw [e1] at HS
                clear HO1 he hq
                go_wp2
                go_round
                case rel => exact ⟨k + 1, by omega, by go_num, by rw [HS.out]; go_num, by rw [HX.out]; go_num, by rw [HY.out]; go_num, HB.out⟩
                case measure => simp [intOf]; omega
              · have honeb : ((n : Int) == 1) = false := by simp; omega
                have HY : Hid (onesN (ls.take (k + 1)) = O) := by show _ = _; rw [HO1.out, if_neg (by omega)]; rfl
                clear HO1
                generalize hshr n = q at *
                have hwr : wrap64 (q : Int) = (q : Int) := by unfold wrap64; omega
                go_wp2
                go_round
                case rel => exact ⟨k + 1, by omega, by go_num, by rw [HS.out]; go_num, by rw [HX.out]; go_num, by rw [HY.out], HB.out⟩
                case measure => simp [intOf]; omega
            · obtain rfl : n = 0 := by omega
              have HX : Hid (wordsN (ls.take (k + 1)) = W) := by show _ = _; rw [HW.out]; rfl
              have HY : Hid (onesN (ls.take (k + 1)) = O) := by show _ = _; rw [HO1.out]; rfl
              have HZ : Hid (sharesN (ls.take (k + 1)) = T) := by show _ = _; rw [HS.out]; rfl
              clear HW HO1 HS
              go_wp2
              go_round
              case rel => exact ⟨k + 1, by omega, by go_num, by rw [HZ.out], by rw [HX.out], by rw [HY.out], HB.out⟩
              case measure => simp [intOf]; omega
      · have e : ls.take k = ls := List.take_of_length_le (by have := HN.out; omega)
        have hok : okLens ls = true := okLens_yes (by rw [HN.out]; omega) (fun j hj => HA.out j (by rw [HN.out] at hj; omega))
        have HO : Hid (checkV ls = if (decide (sharesN ls = 32768) || decide (wordsN ls = 0) || (decide (wordsN ls = 1) && decide (onesN ls = 1))) then 0 else 5) := by
          show _ = _
          rw [whole_check hok]; unfold checkV; rw [hok]; rfl
        rw [e] at *
        clear e hok HA
        generalize wordsN ls = W at *
        generalize sharesN ls = T at *
        generalize onesN ls = O at *
        by_cases hT : T = 32768
        · subst hT
          go_wp2
          go_ret
          exact ⟨ret_int (by rw [HO.out]; rfl), rfl⟩
        · have hTb : ((T : Int) == 32768) = false := by simp; omega
          by_cases hW0 : W = 0
          · subst hW0
            go_wp2
            go_ret
            exact ⟨ret_int (by rw [HO.out]; simp), rfl⟩
          · have hW0b : ((W : Int) == 0) = false := by simp; omega
            by_cases hW1 : W = 1
            · subst hW1
              by_cases hO : O = 1
              · subst hO
                go_wp2
                go_ret
                exact ⟨ret_int (by rw [HO.out]; simp), rfl⟩
              · have hOb : ((O : Int) == 1) = false := by simp; omega
                go_wp2
                go_ret
                exact ⟨ret_int (by rw [HO.out]; simp [hT, hO]), rfl⟩
            · have hW1b : ((W : Int) == 1) = false := by simp; omega
              go_wp2
              go_ret
              exact ⟨ret_int (by rw [HO.out]; simp [hT, hW0, hW1]), rfl⟩
end Go.Proofs.YtloagniacjfkfaaGreatDoor
/- The reference's Bits and Number. -/
namespace Go.Proofs.YtloagniacjfkfaaGreatDoor
open Go.RowKit

theorem two_pow_31 {n : Nat} (h : n ≤ 32) : (2 : Int) ^ n ≤ 4294967296 := by
  have := pow_le_of n 32 h
  have e : (2 : Int) ^ 32 = 4294967296 := by decide
  omega

set_option maxHeartbeats 800000 in
theorem number_any (a : Option Addr) (n cap : Nat) (l : List Int) (w : World) (hn : l.length = n) (h32 : n ≤ 32) (hb : Bit l) (hr : IRow w a l) :
    Calls Tryz.prog 51 #[.slice a n cap] w fun e w' => e = .returned (.int .i64 (binN l)) ∧ w' = w := by
  have HN : Hid (l.length = n) := hn
  have HB : Hid (Bit l) := hb
  have HR : Hid (IRow w a l) := hr
  clear hn hb hr
  go_enter Tryz.func51, Tryz.ntmps51
  go_wp2
  go_loop [3, 4] (fun v i => ∃ j : Nat, j ≤ n ∧ i = .int .i64 ((j : Int) - 1) ∧ v = .int .i64 (binN (l.drop j))) (fun _ i => (intOf i + 1).toNat)
  case atStart => exact ⟨n, Nat.le_refl _, by go_num, by rw [List.drop_of_length_le (by have := HN.out; omega)]; rfl⟩
  case round =>
    obtain ⟨j, hj, rfl, rfl⟩ := hrel
    cases j with
    | zero =>
      go_wp2
      go_ret
      exact ⟨rfl, rfl⟩
    | succ j =>
      rw [show ((j + 1 : Nat) : Int) - 1 = (j : Int) from by omega]
      have hbd := binN_bound (HB.out.drop (j + 1))
      have h31 := two_pow_31 (n := (l.drop (j + 1)).length) (by rw [List.length_drop]; have := HN.out; omega)
      have hx := HB.out.at j
      have HS : Hid (binN (l.drop j) = l[j]?.getD 0 + 2 * binN (l.drop (j + 1))) := binN_drop l j (by have := HN.out; omega)
      have hcell : ∃ b off, a = some ⟨b, off, none⟩ ∧ w.cell? ⟨b, off + j, none⟩ = some (.int .i64 (l[j]?.getD 0)) := by
        rcases HR.out with h | ⟨b, off, e, hc⟩
        · have := HN.out; rw [h] at this; simp at this; omega
        · exact ⟨b, off, e, hc j (by have := HN.out; omega)⟩
      obtain ⟨b, off, rfl, hck⟩ := hcell
      have hub : binN (l.drop (j + 1)) < 4294967296 := by omega
      have hlb : 0 ≤ binN (l.drop (j + 1)) := hbd.1
      clear hbd h31
      go_wp2
      go_round
      case rel => exact ⟨j, by omega, by go_num, by rw [HS.out]; go_num⟩
      case measure => simp [intOf]

def NewInts (w : World) (l : List Int) (e : Ending) (w' : World) : Prop :=
  ∃ a c g, e = .returned (.slice a l.length c) ∧ Sl w' 3 (.slice a l.length c) g (ivals l) ∧ (∀ k, g = some k → w.heap.size ≤ k) ∧ Below w.heap.size w w'
/-- One int more at the end of a slice of the call's own. -/
theorem wpList_push_int {w : World} {ops : Array Oper} {rest : List Oper} {o : Oper} {a : Act} {Q : Exit → Act → World → Prop} (hgd : o.guard = none) (s x : Operand)
    (ho : o.op = .call { callee := .builtin .append, args := #[s, x], argTypes := #[57, 57] })
    (B : Nat) (w0 wr : World) (z : Int) (hw : w = wr.alloc (.cells #[.int .i64 z] 3)) (v : Value) (g : Option Nat) (l : List Int) (hs : a.eval s = v) (hsl : Sl wr 3 v g (ivals l)) (hx : a.eval x = .slice (some ⟨wr.heap.size, 0, none⟩) 1 1)
    (hlen : l.length ≤ 1000000) (hb : Below B w0 wr) (hB : B ≤ wr.heap.size) (hg : ∀ k, g = some k → B ≤ k)
    (h : ∀ v' w' g', Sl w' 3 v' g' (ivals (l ++ [z])) → (∀ k, g' = some k → B ≤ k) → Below B w0 w' → wpList Tryz.prog ops Q rest (a.put o.dst v') w') : wpList Tryz.prog ops Q (o :: rest) a w := by
  subst hw
  obtain ⟨i0, hi, hz0, hz1, hz2⟩ := info_parts Tryz.info3
  refine wpList_append_sl hgd s x _ ho 3 i0 (.int .i64 0) 8 Tryz.underlying57 hi hz0 hz1 hz2 rfl v g (ivals l) hs (hsl.same fun q hq => Below.heap_alloc wr _ q (hsl.lt hq)) ⟨wr.heap.size, 0, none⟩ 1 1 [.int .i64 z] hx rfl (cell_one_new _ _ _) (by intro y hy; simp at hy; subst hy; rfl) (by rw [ivals_len]; omega) (by rw [ivals_len]; unfold maxLen; omega) ?_
  intro v' w' g' h1 h2 h3
  refine h v' w' g' (by rw [ivals_append]; exact h1) ?_ ((hb.alloc hB _).grown h3 (by simp; omega) hg)
  intro k hk
  rcases h2 with e | ⟨q, e, hq⟩
  · exact hg k (by rw [← e]; exact hk)
  · rw [e] at hk; cases hk; simp at hq; omega

set_option maxHeartbeats 1600000 in
/-- The document's bits of bytes. -/
theorem bits_any (a : Option Addr) (n cap : Nat) (zs : List Int) (w : World) (hn : zs.length = n) (hs : n ≤ 6000) (hb : Bytes zs) (hr : Row w a zs) :
    Calls Tryz.prog 45 #[.slice a n cap] w fun e w' => NewInts w (bitsL zs) e w' := by
  have HN : Hid (zs.length = n) := hn
  have HB : Hid (Bytes zs) := hb
  have HR : Hid (Row w a zs) := hr
  obtain ⟨B, hB⟩ : ∃ B, B = w.heap.size := ⟨_, rfl⟩
  have HBW : Hid (B = w.heap.size) := hB
  clear hn hb hr hB
  go_enter Tryz.func45, Tryz.ntmps45
  go_wp2
  go_loopw [3, 4] (fun o i wr => ∃ k : Nat, ∃ g, k ≤ n ∧ i = .int .i64 k ∧ Sl wr 3 o g (ivals (bitsL (zs.take k))) ∧ (∀ q, g = some q → B ≤ q) ∧ Below B w wr) (fun _ i _ => n - (intOf i).toNat)
  case atStart => exact ⟨0, none, by omega, rfl, Sl.nil _ _, (by intro k hk; cases hk), Below.refl _ _⟩
  case round =>
    obtain ⟨k, g, hk, rfl, hsl, hg, hbel⟩ := hrel
    by_cases hlt : k < n
    · obtain ⟨b, off, hab, hcell⟩ : ∃ b off, a = some ⟨b, off, none⟩ ∧ ∀ i, i < zs.length → w.cell? ⟨b, off + i, none⟩ = some (.int .u8 (zs[i]?.getD 0)) := by
        rcases HR.out with h | h
        · have := HN.out; rw [h] at this; simp at this; omega
        · exact h
      have hbw : b < B := by rw [HBW.out]; exact cell_lt (hcell 0 (by have := HN.out; omega))
      have hck : wr.cell? ⟨b, off + k, none⟩ = some (.int .u8 (zs[k]?.getD 0)) := by
        rw [hbel.cell (p := ⟨b, off + k, none⟩) hbw]
        exact hcell k (by have := HN.out; omega)
      have hzb := HB.out.at k
      have HTK : Hid (bitsL (zs.take (k + 1)) = bitsL (zs.take k) ++ lowL (zs[k]?.getD 0) 8 ∧ (bitsL (zs.take k)).length = 8 * k) := by
        refine ⟨?_, ?_⟩
        · have hkz : k < zs.length := by have := HN.out; omega
          rw [List.take_add_one, List.getElem?_eq_getElem hkz, bitsL_append]
          simp [bitsL]
        · rw [bitsL_len, List.length_take]; have := HN.out; omega
      have HIN : Hid (Sl wr 3 _ g (ivals (bitsL (zs.take k) ++ lowL (zs[k]?.getD 0) 0)) ∧ (∀ q, g = some q → B ≤ q) ∧ Below B w wr) := ⟨by rw [show lowL (zs[k]?.getD 0) 0 = [] from rfl, List.append_nil]; exact hsl, hg, hbel⟩
      subst hab
      clear hcell hsl hg hbel hbw
      generalize zs[k]?.getD 0 = z at *
      generalize hM : bitsL (zs.take k) = M at *
      go_wp2
      go_loopw [3, 5, 6] (fun o x c wq => ∃ j : Nat, ∃ g', j ≤ 8 ∧ c = .int .i64 j ∧ x = .int .i64 (z / 2 ^ j) ∧ Sl wq 3 o g' (ivals (M ++ lowL z j)) ∧ (∀ q, g' = some q → B ≤ q) ∧ Below B w wq) (fun _ _ c _ => 8 - (intOf c).toNat)
      case atStart => exact ⟨0, g, by omega, rfl, by simp, HIN.out⟩
      case round =>
        clear HIN hck
        obtain ⟨j, g', hj, rfl, rfl, hsl, hg, hbel⟩ := hrel
        by_cases hlt2 : j < 8
        · have hdb := div_byte z j hzb.1 hzb.2
          have HX : Hid (z / 2 ^ (j + 1) = z / 2 ^ j / 2) := by rw [ediv_pow]; rfl
          have HL : Hid (M ++ lowL z (j + 1) = M ++ lowL z j ++ [z / 2 ^ j % 2] ∧ (M ++ lowL z j).length ≤ 1000000) := ⟨by rw [lowL_snoc, List.append_assoc], by rw [List.length_append, lowL_len, HTK.out.2]; omega⟩
          have HBs : Hid (B ≤ wr.heap.size) := (by have := hbel.size; have := HBW.out; omega : B ≤ wr.heap.size)
          generalize z / 2 ^ j = x at *
          have hmod : x.tmod 2 = x % 2 := Int.tmod_eq_emod_of_nonneg hdb.1
          have hdiv : x.tdiv 2 = x / 2 := Int.tdiv_eq_ediv_of_nonneg hdb.1
          go_wp2_with (at_builtin; refine wpList_push_int rfl _ _ rfl B w wr (x % 2) rfl _ g' (M ++ lowL z j) rfl hsl rfl HL.out.2 hbel HBs.out hg ?_)
          intro v' w' g'' hsl' hg' hbel'
          clear hsl hg hbel
          go_wp2
          go_roundw
          case rel => exact ⟨j + 1, g'', by omega, by go_num, by rw [HX.out], by rw [HL.out.1, List.append_assoc]; exact hsl', hg', hbel'⟩
          case measure => simp [intOf]; omega
        · obtain rfl : j = 8 := by omega
          go_wp2
          go_roundw
          case rel => exact ⟨k + 1, g', by omega, by go_num, by rw [HTK.out.1]; exact hsl, hg, hbel⟩
          case measure => simp [intOf]; omega
    · obtain rfl : k = n := by omega
      have HTK : Hid (bitsL (zs.take k) = bitsL zs) := by rw [List.take_of_length_le (by have := HN.out; omega)]; rfl
      rw [HTK.out] at hsl
      obtain ⟨a', c', hv, _⟩ := hsl.shape
      rw [ivals_len] at hv
      go_wp2
      go_ret
      unfold NewInts
      subst hv
      exact ⟨a', c', g, rfl, hsl, (by intro q hq; rw [← HBW.out]; exact hg q hq), by rw [← HBW.out]; exact hbel⟩
end Go.Proofs.YtloagniacjfkfaaGreatDoor
