/- The reference's Least. -/
import Derived.Test.YtjellgkojmgmjaaHmB
import Derived.Test.YtjellgkojmgmjaaStepL
namespace Go.Proofs.Ytjellgkojmgmjaa
open Go.RowKit

/-- Numbers, rising. -/
def srt (l : List Int) : List Int := l.mergeSort fun a b => decide (a ≤ b)
theorem srt_perm (l : List Int) : (srt l).Perm l := List.mergeSort_perm l _
theorem srt_up (l : List Int) : (srt l).Pairwise fun a b => a ≤ b := by
  have := List.pairwise_mergeSort (le := fun a b : Int => decide (a ≤ b)) (by intro a b c; simp; omega) (by intro a b; simp; omega) l
  exact this.imp (by simp)
theorem up_unique {l m : List Int} (hp : l.Perm m) (h1 : l.Pairwise fun a b => a ≤ b) (h2 : m.Pairwise fun a b => a ≤ b) : l = m := by
  induction l generalizing m with
  | nil => exact (List.Perm.nil_eq hp)
  | cons x r ih =>
    cases m with
    | nil => exact absurd hp.symm (by simp)
    | cons y q =>
      obtain ⟨a1, a2⟩ := List.pairwise_cons.1 h1
      obtain ⟨b1, b2⟩ := List.pairwise_cons.1 h2
      have hx : x ∈ y :: q := hp.subset (by simp)
      have hy : y ∈ x :: r := hp.symm.subset (by simp)
      have e : x = y := by
        have e1 : y ≤ x := by
          rcases List.mem_cons.1 hx with h | h
          · omega
          · exact b1 x h
        have e2 : x ≤ y := by
          rcases List.mem_cons.1 hy with h | h
          · omega
          · exact a1 y h
        omega
      subst e
      rw [ih (List.Perm.cons_inv hp) a2 b2]
theorem ris_up {l : List Int} (h : Ris l l.length) : l.Pairwise fun a b => a ≤ b := by
  rw [List.pairwise_iff_getElem]
  intro i j hi hj hij
  have := h i j hij hj
  unfold gi at this
  rw [List.getElem?_eq_getElem hi, List.getElem?_eq_getElem hj] at this
  exact this
theorem srt_of {l m : List Int} (hp : m.Perm l) (h : Ris m l.length) : m = srt l := by
  rw [← hp.length_eq] at h
  exact up_unique (hp.trans (srt_perm l).symm) (ris_up h) (srt_up l)
/-- Two by two. -/
def prI : List Int → List Int
  | a :: b :: r => (a + b) :: prI r
  | _ => []
theorem prI_len : ∀ l, (prI l).length = l.length / 2
  | [] => rfl
  | [_] => by simp [prI]
  | a :: b :: r => by rw [prI, List.length_cons, prI_len r, List.length_cons, List.length_cons]; omega
theorem prI_take : ∀ (l : List Int) (j : Nat), 2 * j + 1 < l.length → prI (l.take (2 * (j + 1))) = prI (l.take (2 * j)) ++ [gi l (2 * j) + gi l (2 * j + 1)]
  | [], j, h => by simp at h
  | [a], j, h => by simp at h
  | a :: b :: r, 0, h => by simp [prI, gi]
  | a :: b :: r, j + 1, h => by
    have ih := prI_take r j (by simp only [List.length_cons] at h; omega)
    have e1 : (a :: b :: r).take (2 * (j + 1 + 1)) = a :: b :: r.take (2 * (j + 1)) := by rw [show 2 * (j + 1 + 1) = 2 * (j + 1) + 1 + 1 by omega]; rfl
    have e2 : (a :: b :: r).take (2 * (j + 1)) = a :: b :: r.take (2 * j) := by rw [show 2 * (j + 1) = 2 * j + 1 + 1 by omega]; rfl
    rw [e1, e2, prI, prI, ih]
    have e3 : gi (a :: b :: r) (2 * (j + 1)) = gi r (2 * j) := by unfold gi; rw [show 2 * (j + 1) = 2 * j + 1 + 1 by omega]; simp
    have e4 : gi (a :: b :: r) (2 * (j + 1) + 1) = gi r (2 * j + 1) := by unfold gi; rw [show 2 * (j + 1) + 1 = 2 * j + 1 + 1 + 1 by omega]; simp
    rw [e3, e4]; rfl
theorem prI_all : ∀ (l : List Int) (j : Nat), l.length ≤ 2 * j + 1 → j ≤ l.length / 2 → prI (l.take (2 * j)) = prI l
  | [], j, _, _ => by simp
  | [a], j, h, h2 => by
    obtain rfl : j = 0 := by simp at h2; omega
    simp [prI]
  | a :: b :: r, 0, h, _ => by simp at h
  | a :: b :: r, j + 1, h, h2 => by
    have ih := prI_all r j (by simp only [List.length_cons] at h; omega) (by simp only [List.length_cons] at h2; omega)
    have e2 : (a :: b :: r).take (2 * (j + 1)) = a :: b :: r.take (2 * j) := by rw [show 2 * (j + 1) = 2 * j + 1 + 1 by omega]; rfl
    rw [e2, prI, prI, ih]
theorem mem_prI : ∀ {l : List Int} {x : Int}, x ∈ prI l → ∃ a ∈ l, ∃ b ∈ l, x = a + b
  | [], x, h => by simp [prI] at h
  | [a], x, h => by simp [prI] at h
  | a :: b :: r, x, h => by
    rw [prI] at h
    rcases List.mem_cons.1 h with h | h
    · exact ⟨a, by simp, b, by simp, h⟩
    · obtain ⟨c, hc, d, hd, e⟩ := mem_prI h
      exact ⟨c, by simp [hc], d, by simp [hd], e⟩
/-- The document's rows of prices. -/
def rwI (cs : List Int) : Nat → List Int
  | 0 => []
  | k + 1 => srt (prI (rwI cs k) ++ cs)
theorem rwI_len (cs : List Int) : ∀ k, (rwI cs k).length ≤ 2 * cs.length
  | 0 => Nat.zero_le _
  | k + 1 => by
    have := rwI_len cs k
    rw [rwI, (srt_perm _).length_eq, List.length_append, prI_len]; omega
theorem rwI_bd {cs : List Int} (h : ∀ y ∈ cs, 0 ≤ y ∧ y ≤ 2147483648) : ∀ k, ∀ y ∈ rwI cs k, 0 ≤ y ∧ y ≤ 2147483648 * 2 ^ k
  | 0, y, hy => by simp [rwI] at hy
  | k + 1, y, hy => by
    have hm := (srt_perm _).subset hy
    have e : (2 : Int) ^ (k + 1) = 2 ^ k * 2 := Int.pow_succ 2 k
    have hp : (1 : Int) ≤ 2 ^ k := by have := two_pos k; omega
    rcases List.mem_append.1 hm with hm | hm
    · obtain ⟨a, ha, b, hb, rfl⟩ := mem_prI hm
      have h1 := rwI_bd h k a ha
      have h2 := rwI_bd h k b hb
      omega
    · have := h y hm
      omega
theorem rwI_small {cs : List Int} (h : ∀ y ∈ cs, 0 ≤ y ∧ y ≤ 2147483648) {k : Nat} (hk : k ≤ 15) (i : Nat) : 0 ≤ gi (rwI cs k) i ∧ gi (rwI cs k) i ≤ 70368744177664 := by
  unfold gi
  by_cases hi : i < (rwI cs k).length
  · rw [List.getElem?_eq_getElem hi]
    have h1 := rwI_bd h k _ (List.getElem_mem hi)
    have h2 := pow_le_of k 15 hk
    have e : (2 : Int) ^ 15 = 32768 := by decide
    simp only [Option.getD_some]
    omega
  · rw [List.getElem?_eq_none (by omega)]; simp
def leastV (cs : List Int) (most : Nat) : Int := ((rwI cs most).take (2 * cs.length - 2)).sum
theorem sum_small {l : List Int} (h : ∀ i, 0 ≤ gi l i ∧ gi l i ≤ 70368744177664) (k : Nat) (hk : k ≤ 1000) : 0 ≤ (l.take k).sum ∧ (l.take k).sum ≤ 70368744177664 * k := by
  induction k with
  | zero => simp
  | succ k ih =>
    have ih := ih (by omega)
    by_cases hl : k < l.length
    · rw [List.take_succ_eq_append_getElem hl, List.sum_append]
      have := h k
      unfold gi at this
      rw [List.getElem?_eq_getElem hl] at this
      simp only [Option.getD_some] at this
      simp only [List.sum_cons, List.sum_nil]
      omega
    · rw [List.take_of_length_le (by omega)]
      rw [List.take_of_length_le (by omega)] at ih
      omega
/-- One int more: what else is as it was. -/
theorem wpList_push_int3 {w : World} {ops : Array Oper} {rest : List Oper} {o : Oper} {a : Act} {Q : Exit → Act → World → Prop} (hgd : o.guard = none) (s x : Operand)
    (ho : o.op = .call { callee := .builtin .append, args := #[s, x], argTypes := #[22, 22] })
    (wr : World) (z : Int) (hw : w = wr.alloc (.cells #[.int .i64 z] 3)) (v : Value) (g : Option Nat) (l : List Int) (hs : a.eval s = v) (hsl : Sl wr 3 v g (ivals l)) (hx : a.eval x = .slice (some ⟨wr.heap.size, 0, none⟩) 1 1)
    (hlen : l.length ≤ 1000000)
    (h : ∀ v' w' g', Sl w' 3 v' g' (ivals (l ++ [z])) → (g' = g ∨ ∃ k, g' = some k ∧ wr.heap.size ≤ k) → (wr.alloc (.cells #[.int .i64 z] 3)).grownBy w' g → wpList Try.prog ops Q rest (a.put o.dst v') w') : wpList Try.prog ops Q (o :: rest) a w := by
  subst hw
  obtain ⟨i0, hi, hz0, hz1, hz2⟩ := info_parts Try.info3
  refine wpList_append_sl hgd s x _ ho 3 i0 (.int .i64 0) 8 Try.underlying22 hi hz0 hz1 hz2 rfl v g (ivals l) hs (hsl.same fun q hq => Below.heap_alloc wr _ q (hsl.lt hq)) ⟨wr.heap.size, 0, none⟩ 1 1 [.int .i64 z] hx rfl (cell_one_new _ _ _) (by intro y hy; simp at hy; subst hy; rfl) (by rw [ivals_len]; omega) (by rw [ivals_len]; unfold maxLen; omega) ?_
  intro v' w' g' h1 h2 h3
  refine h v' w' g' (by rw [ivals_append]; exact h1) ?_ h3
  rcases h2 with e | ⟨q, e, hq⟩
  · exact .inl e
  · exact .inr ⟨q, e, by simp at hq; omega⟩
theorem step_push_int {w : World} {ops : Array Oper} {o : Oper} {a : Act} {K : Act → World → Prop} {Q : Exit → Act → World → Prop} {E : Prop} (hgd : o.guard = none) (s x : Operand)
    (ho : o.op = .call { callee := .builtin .append, args := #[s, x], argTypes := #[22, 22] })
    (wr : World) (z : Int) (hw : w = wr.alloc (.cells #[.int .i64 z] 3)) (v : Value) (g : Option Nat) (l : List Int) (hs : a.eval s = v) (hsl : Sl wr 3 v g (ivals l)) (hx : a.eval x = .slice (some ⟨wr.heap.size, 0, none⟩) 1 1)
    (hlen : l.length ≤ 1000000)
    (h : ∀ v' w' g', Sl w' 3 v' g' (ivals (l ++ [z])) → (g' = g ∨ ∃ k, g' = some k ∧ wr.heap.size ≤ k) → (wr.alloc (.cells #[.int .i64 z] 3)).grownBy w' g → K (a.put o.dst v') w') : if Region.wanted o (yielded ops a.tmps) = true then Oper.wp Try.prog o a w K Q else E :=
  step_of_list hgd (wpList_push_int3 hgd s x ho wr z hw v g l hs hsl hx hlen fun v' w' g' h1 h2 h3 => ⟨rfl, h v' w' g' h1 h2 h3⟩)
def LsRel (w : World) (cs : List Int) (k : Nat) (v : Value) (wr : World) : Prop :=
  ∃ g, Sl wr 3 v g (ivals (rwI cs k)) ∧ (∀ q, g = some q → w.heap.size ≤ q) ∧ Below w.heap.size w wr
def LpRel (w : World) (m : List Int) (j : Nat) (vr v : Value) (wr : World) : Prop :=
  ∃ g gr, Sl wr 3 v g (ivals (prI (m.take (2 * j)))) ∧ Sl wr 3 vr gr (ivals m) ∧ (∀ q, g = some q → w.heap.size ≤ q) ∧ (∀ q, gr = some q → g ≠ some q) ∧ Below w.heap.size w wr
set_option maxHeartbeats 1600000 in
set_option maxRecDepth 20000 in
theorem least_any (x : Addr) (n c : Nat) (cs : List Int) (most : Nat) (w : World) (hn : cs.length = n) (h2 : 2 ≤ n) (hs : n ≤ 288) (hm : most ≤ 15) (hr : IRow w (some x) cs) (hb : ∀ y ∈ cs, 0 ≤ y ∧ y ≤ 2147483648) :
    Calls Try.prog 25 #[.slice (some x) n c, .int .i64 most] w fun e w' => e = .returned (.int .i64 (leastV cs most)) ∧ Below w.heap.size w w' := by
  have HN : Hid (cs.length = n) := hn
  have HR : Hid (IRow w (some x) cs) := hr
  have HB : Hid (∀ y ∈ cs, 0 ≤ y ∧ y ≤ 2147483648) := hb
  clear hn hr hb
  have mixed := Try.mixed
  obtain ⟨i0, hi, hz0, hz1, hz2⟩ := info_parts Try.info3
  have HS : Hid (LsRel w cs 0 (.slice none 0 0) w) := ⟨none, Sl.nil _ _, (by intro q hq; cases hq), Below.refl _ _⟩
  go_enter Try.func25, Try.ntmps25
  go_wp2
  go_loopw [5, 6] (fun v i wr => ∃ N : Nat, N ≤ most ∧ i = .int .i64 N ∧ LsRel w cs (most - N) v wr) (fun _ i _ => (intOf i).toNat)
  case atStart => exact ⟨most, Nat.le_refl _, rfl, by rw [Nat.sub_self]; exact HS.out⟩
  case round =>
    clear HS
    obtain ⟨N, hN, rfl, g, hsl, hg, hbel⟩ := hrel
    obtain ⟨ar, cr, hv, hc1, hc2, _⟩ := hsl.shape
    rw [ivals_len] at hv hc1
    subst hv
    have hrl := rwI_len cs (most - N)
    have HSM : Hid (∀ i, 0 ≤ gi (rwI cs (most - N)) i ∧ gi (rwI cs (most - N)) i ≤ 70368744177664) := fun i => rwI_small HB.out (by omega) i
    cases N with
    | zero =>
      rw [Nat.sub_zero] at *
      have HI : Hid (IRow wr ar (rwI cs most)) := hsl.irow rfl
      have HBL : Hid (Below w.heap.size w wr) := hbel
      have HLV : Hid (leastV cs most = ((rwI cs most).take (2 * n - 2)).sum) := by show _ = _; unfold leastV; rw [HN.out]
      have hrl2 : (rwI cs most).length ≤ 576 := by have := HN.out; omega
      clear hsl hg hbel hrl
      obtain ⟨m, hm'⟩ : ∃ m, rwI cs most = m := ⟨_, rfl⟩
      rw [hm'] at HI HSM HLV hrl2 hc1 ⊢
      clear hm'
      obtain ⟨R, hR⟩ : ∃ R, m.length = R := ⟨_, rfl⟩
      have HRL : Hid (m.length = R) := hR
      rw [hR] at hrl2 hc1 ⊢
      clear hR
      go_wp2
      go_loopw [9, 10] (fun sm i wq => ∃ k : Nat, k ≤ R ∧ k ≤ 2 * n - 2 ∧ i = .int .i64 k ∧ sm = .int .i64 ((m.take k).sum) ∧ wq = wr) (fun _ i _ => R - (intOf i).toNat)
      case atStart => exact ⟨0, Nat.zero_le _, Nat.zero_le _, rfl, rfl, rfl⟩
      case round =>
        obtain ⟨k, hk1, hk2, rfl, rfl, hwq⟩ := hrel
        subst hwq
        have hsb := sum_small HSM.out k (by omega)
        by_cases hA : k < 2 * n - 2
        · have hAz : (k : Int) < 2 * (n : Int) - 2 := by omega
          by_cases hB : k < R
          · have hBz : (k : Int) < (R : Int) := by omega
            obtain ⟨b, off, rfl, hck⟩ := HI.out.at k (by rw [HRL.out]; exact hB)
            have hgk := HSM.out k
            have HSU : Hid ((m.take (k + 1)).sum = (m.take k).sum + gi m k) := by
              show _ = _
              have hkl : k < m.length := by rw [HRL.out]; exact hB
              rw [List.take_succ_eq_append_getElem hkl, List.sum_append]
              unfold gi
              rw [List.getElem?_eq_getElem hkl]
              simp
            rw [show m[k]?.getD 0 = gi m k from rfl] at hck
            generalize gi m k = z at *
            generalize (m.take k).sum = S at *
            go_wp2
            go_roundw
            case rel => exact ⟨k + 1, by omega, by omega, by go_num, by rw [HSU.out], trivial⟩
            case measure => simp [intOf]; omega
          · have hBz : ¬ (k : Int) < (R : Int) := by omega
            have HO : Hid (leastV cs most = (m.take k).sum) := by
              show _ = _
              rw [HLV.out, List.take_of_length_le (by rw [HRL.out]; omega), List.take_of_length_le (by rw [HRL.out]; omega)]
            go_wp2
            go_ret
            exact ⟨ret_int HO.out.symm, HBL.out⟩
        · have hAz : ¬ (k : Int) < 2 * (n : Int) - 2 := by omega
          have HO : Hid (leastV cs most = (m.take k).sum) := by
            show _ = _
            rw [HLV.out, show 2 * n - 2 = k by omega]
          go_wp2
          go_ret
          exact ⟨ret_int HO.out.symm, HBL.out⟩
    | succ N =>
      have HRW : Hid (rwI cs (most - N) = srt (prI (rwI cs (most - (N + 1))) ++ cs)) := by show _ = _; rw [show most - N = (most - (N + 1)) + 1 by omega]; rfl
      obtain ⟨m, hm'⟩ : ∃ m, rwI cs (most - (N + 1)) = m := ⟨_, rfl⟩
      rw [hm'] at hsl hc1 hrl HSM HRW ⊢
      clear hm'
      have HIN : Hid (LpRel w m 0 (.slice ar m.length cr) (.slice none 0 0) wr) := ⟨none, g, by rw [show prI (m.take (2 * 0)) = [] from by simp [prI]]; exact Sl.nil _ _, hsl, (by intro q hq; cases hq), (by intro q _ h; cases h), hbel⟩
      have hml : m.length ≤ 576 := by have := HN.out; omega
      have HML : Hid (∃ M, m.length = M) := ⟨_, rfl⟩
      obtain ⟨M, hM⟩ := HML.out
      have HM : Hid (m.length = M) := hM
      rw [hM] at hc1 hrl HIN hml ⊢
      clear hsl hg hbel HML hM hrl
      obtain ⟨w5, rfl⟩ : ∃ w5, w5 = wr := ⟨_, rfl⟩
      rw [show (((N + 1 : Nat)) : Int) = (N : Int) + 1 from by omega]
      have hN1 : decide ((0 : Int) < (N : Int) + 1) = true := by simp
      go_wp2
      go_loopw [7, 8] (fun v i wr => ∃ j : Nat, j ≤ M / 2 ∧ i = .int .i64 ((2 * j : Nat) : Int) ∧ LpRel w m j (.slice ar M cr) v wr) (fun _ i _ => M - (intOf i).toNat)
      case atStart => exact ⟨0, Nat.zero_le _, rfl, HIN.out⟩
      case round =>
        clear HIN
        obtain ⟨j, hj, rfl, gp, gr, p1, p2, p3, p4, p5⟩ := hrel
        obtain ⟨J, hJ⟩ : ∃ J, 2 * j = J := ⟨_, rfl⟩
        rw [hJ]
        have HJ : Hid (2 * j = J) := hJ
        have hJ2 : J ≤ M := by omega
        by_cases hlt : J + 1 < M
        · have hc1' : ∃ b off, ar = some ⟨b, off, none⟩ ∧ wr.cell? ⟨b, off + J, none⟩ = some (.int .i64 (gi m J)) ∧ wr.cell? ⟨b, off + (J + 1), none⟩ = some (.int .i64 (gi m (J + 1))) := by
            obtain ⟨b, off, e, q1⟩ := (p2.irow rfl).at J (by rw [HM.out]; omega)
            obtain ⟨b2, off2, e2, q2⟩ := (p2.irow rfl).at (J + 1) (by rw [HM.out]; omega)
            rw [e] at e2
            cases e2
            exact ⟨b, off, e, q1, q2⟩
          obtain ⟨b, off, rfl, hk1, hk2⟩ := hc1'
          have b1 := HSM.out J
          have b2 := HSM.out (J + 1)
          have HPT : Hid (prI (m.take (2 * (j + 1))) = prI (m.take (2 * j)) ++ [gi m J + gi m (J + 1)]) := by
            have := prI_take m j (by rw [HM.out, hJ]; exact hlt)
            rw [hJ] at this ⊢
            exact this
          have HP : Hid (Sl wr 3 u7 gp (ivals (prI (m.take (2 * j)))) ∧ Sl wr 3 (.slice (some ⟨b, off, none⟩) M cr) gr (ivals m) ∧ (∀ q, gp = some q → w.heap.size ≤ q) ∧ (∀ q, gr = some q → gp ≠ some q) ∧ Below w.heap.size w wr) := ⟨p1, p2, p3, p4, p5⟩
          clear p1 p2 p3 p4 p5 hJ
          have HP2 : Hid (Sl wr.drew 3 u7 gp (ivals (prI (m.take (2 * j))))) := HP.out.1.same fun _ _ => rfl
          have HPN : Hid ((prI (m.take (2 * j))).length ≤ 1000000) := by show _ ≤ _; rw [prI_len, List.length_take]; omega
          have hJM : J < M := by omega
          have hJMz : (J : Int) < (M : Int) := by omega
          have hJ1z : (J : Int) + 1 < (M : Int) := by omega
          have hJ0 : 0 ≤ (J : Int) + 1 := by omega
          have hJt : ((J : Int) + 1).toNat = J + 1 := by omega
          have hwJ : IntKind.i64.wrap ((J : Int) + 1) = (J : Int) + 1 := by rw [IntKind.wrap_i64]; omega
          generalize gi m J = y at *
          generalize gi m (J + 1) = z at *
          have hwyz : IntKind.i64.wrap (y + z) = y + z := by rw [IntKind.wrap_i64]; omega
          go_wp2
          go_region_law (first
            | (refine step_push_int rfl _ _ rfl wr.drew (y + z) rfl _ gp (prI (m.take (2 * j))) rfl HP2.out rfl HPN.out ?_; intro v' w' g' hs' hg' hgr)
            | fail)
          all_goals
            have R : Hid (LpRel w m (j + 1) (.slice (some ⟨b, off, none⟩) M cr) v' w') := by
              obtain ⟨p1, p2, p3, p4, p5⟩ := HP.out
              have hsz : wr.drew.heap.size = wr.heap.size := rfl
              refine ⟨g', gr, by rw [HPT.out]; exact hs', p2.same (fun q hq => (hgr.block q (by have := p2.lt hq; simp; omega) (fun e => p4 q hq e.symm)).trans (Below.heap_alloc _ _ _ (p2.lt hq))), ?_, ?_, ?_⟩
              · intro q hq
                rcases hg' with e | ⟨k, e, hk⟩
                · exact p3 q (by rw [← e]; exact hq)
                · rw [e] at hq; cases hq; have := p5.size; omega
              · intro q hq hq2
                rcases hg' with e | ⟨k, e, hk⟩
                · exact p4 q hq (by rw [← e]; exact hq2)
                · rw [e] at hq2; cases hq2; have := p2.lt hq; omega
              · have hb6 : Below w.heap.size w (wr.drew.alloc (.cells #[.int .i64 (y + z)] 3)) := Below.alloc (w := wr.drew) ⟨p5.os, p5.tape, p5.output, p5.size, p5.block⟩ p5.size _
                exact Fr.below hb6 (Fr.grown (r := w.heap.size) hgr) (Nat.le_refl _) p3 hb6.size
            clear hs' hg' hgr HP HP2 HPN
            try go_wp2
            first
              | exact ⟨⟨j + 1, by have := HJ.out; omega, by have := HJ.out; rw [← this]; go_num, R.out⟩, by simp [intOf]; omega⟩
              | (go_roundw
                 case rel => exact ⟨j + 1, by have := HJ.out; omega, by have := HJ.out; rw [← this]; go_num, R.out⟩
                 case measure => simp [intOf]; omega)
        · have HPA : Hid (prI (m.take (2 * j)) = prI m) := prI_all m j (by rw [HM.out]; omega) (by rw [HM.out]; exact hj)
          rw [HPA.out] at p1
          have HP : Hid (Sl wr 3 u7 gp (ivals (prI m)) ∧ (∀ q, gp = some q → w.heap.size ≤ q) ∧ Below w.heap.size w wr) := ⟨p1, p3, p5⟩
          have HPL : Hid ((prI m).length ≤ 288) := by show _ ≤ _; rw [prI_len, HM.out]; omega
          clear p1 p2 p3 p4 p5 hJ HPA
          go_wp2_with (at_builtin; refine wpList_append_sl rfl _ _ _ rfl 3 i0 (.int .i64 0) 8 Try.underlying22 hi hz0 hz1 hz2 rfl _ gp (ivals (prI m)) rfl HP.out.1 x n c (ivals cs) rfl (by rw [ivals_len]; exact HN.out) (inews_row (HR.out.old HP.out.2.2)) (by intro y hy; simp only [ivals, List.mem_map] at hy; obtain ⟨z, _, rfl⟩ := hy; rfl) (by rw [ivals_len]; have := HPL.out; omega) (by rw [ivals_len]; have := HPL.out; unfold maxLen; omega) ?_)
          intro v6 w6 g6 hs6 hg6 hgr
          rw [← ivals_append] at hs6
          have HB6 : Hid (Below w.heap.size w w6) := Fr.below HP.out.2.2 (Fr.grown (r := w.heap.size) hgr) (Nat.le_refl _) HP.out.2.1 HP.out.2.2.size
          have HLL : Hid ((prI m ++ cs).length ≤ 576 ∧ 0 < (prI m ++ cs).length) := by rw [List.length_append, HN.out]; have := HPL.out; exact ⟨by omega, by omega⟩
          obtain ⟨y6, c6, hv6⟩ : ∃ y c', v6 = .slice (some y) (prI m ++ cs).length c' := by
            rcases hs6 with ⟨_, _, h⟩ | ⟨b, off, cap, cur, h1, _⟩
            · have := congrArg List.length h
              rw [ivals_len] at this
              have h3 := HLL.out.2
              rw [this] at h3
              simp at h3
            · rw [ivals_len] at h1; exact ⟨_, _, h1⟩
          subst hv6
          have HI6 : Hid (IRow w6 (some y6) (prI m ++ cs)) := hs6.irow rfl
          obtain ⟨l6, hl6⟩ : ∃ l6, prI m ++ cs = l6 := ⟨_, rfl⟩
          rw [hl6] at HI6 HLL HRW ⊢
          obtain ⟨L6, hL6⟩ : ∃ L6, l6.length = L6 := ⟨_, rfl⟩
          have HL6 : Hid (l6.length = L6) := hL6
          rw [hL6] at HLL ⊢
          clear hs6 hg6 hgr HP hl6 hL6
          go_wp2_with fail
          refine (sorted_any y6 L6 c6 l6 w6 HL6.out HLL.out.2 (by have := HLL.out.1; omega) HI6.out).mono ?_
          rintro e w7 ⟨a7, c7, m7, g7, rfl, hs7, hp7, hr7, hg7, hb7⟩
          have R : Hid (LsRel w cs (most - N) (.slice a7 l6.length c7) w7) := by
            refine ⟨g7, ?_, fun q hq => Nat.le_trans HB6.out.size (hg7 q hq), HB6.out.trans (hb7.mono HB6.out.size)⟩
            rw [HRW.out, ← srt_of hp7 hr7]
            exact hs7
          clear hs7 hp7 hr7 hg7 hb7
          go_wp2
          go_roundw
          case rel => exact ⟨N, by omega, by go_num, R.out⟩
          case measure => simp [intOf]
end Go.Proofs.Ytjellgkojmgmjaa
