/- What covers nothing is written: the program and the reference. -/
import Derived.Test.YticdpibaojhpiaaDoorHdW
import Derived.Test.YticdpibaojhpiaaDoorHdI
namespace Go.Proofs.YticdpibaojhpiaaDoor
open Go.RowKit
def putA (n : Nat) (l : List Int) : List Int := l.flatMap fun v => (octs v n).reverse
theorem putA_snoc (n : Nat) (l : List Int) (x : Int) : putA n (l ++ [x]) = putA n l ++ (octs x n).reverse := by simp [putA]
theorem putA_len (n : Nat) (l : List Int) : (putA n l).length = n * l.length := by
  induction l with
  | nil => rfl
  | cons x r ih => simp only [putA, List.flatMap_cons, List.length_append, List.length_reverse, octs_len, List.length_cons] at ih ⊢; rw [ih, Nat.mul_succ]; omega
def wcL (C : Int) (al cl : List Int) : List Int := if C = 3 then putA 1 al else if C = 0 ∨ C = 2 then putA 2 cl else []
/-- Bytes put behind others: what the loop's relation asks. -/
theorem more_step {w wr w1 w7 : World} {v7 : Value} {g g7 : Option Nat} {l y l' : List Int} {B : Nat} (hB : B = w.heap.size) (hbel : Below B w wr) (hb1 : Below wr.heap.size wr w1) (hg : ∀ q, g = some q → B ≤ q)
    (hs7 : Sl w7 5 v7 g7 (vals (l ++ y))) (hg7 : g7 = g ∨ ∃ k, g7 = some k ∧ w1.heap.size ≤ k) (hgr7 : w1.grownBy w7 g) (hl : l' = l ++ y) : Sl w7 5 v7 g7 (vals l') ∧ (∀ q, g7 = some q → B ≤ q) ∧ Below B w w7 := by
  subst hl
  have hWb : Below B w w1 := hbel.trans (hb1.mono (by have := hbel.size; omega))
  refine ⟨hs7, ?_, hWb.grown hgr7 (by rw [hB]; exact hWb.size) hg⟩
  intro q hq
  rcases hg7 with e | ⟨k, e, hk⟩
  · exact hg q (by rw [← e, hq])
  · rw [e] at hq; cases hq; have := hWb.size; omega
set_option maxHeartbeats 1600000 in
theorem putAll_any (N : Nat) (hN : N = 1 ∨ N = 2) (a : Option Addr) (n cap : Nat) (x : List Int) (w : World) (hx : x.length = n) (hn : n ≤ 17592186044416) (rx : IRow w a x) :
    Calls Tryd.prog 39 #[.int .i64 N, .slice a n cap] w fun e w' => NewS w (putA N x) e w' := by
  obtain ⟨B, hB⟩ : ∃ B, B = w.heap.size := ⟨_, rfl⟩
  have HB : Hid (B = w.heap.size) := hB
  have HX : Hid (x.length = n ∧ IRow w a x) := ⟨hx, rx⟩
  have hN8 : put8 (N : Int) = N := by unfold put8; omega
  have HP : Hid (∀ (v : Int) W1, Calls Tryd.prog 34 #[.int .i64 N, .int .i64 v] W1 fun e w' => ∃ a c, e = .returned (.slice a N c) ∧ Row w' a (octs v N).reverse ∧ (a = none → c = 0) ∧ Below W1.heap.size W1 w') := fun v W1 => (putBig_any N v W1).mono fun _ w' ⟨a, c, g, e1, e2, e3, e4⟩ => by
    rw [hN8, List.length_reverse, octs_len] at e1 e2
    obtain ⟨a', c', hv, _, _, hz⟩ := e2.shape
    simp only [Value.slice.injEq] at hv
    exact ⟨a, c, e1, e2.row rfl, fun h => by rw [hv.2.2]; exact hz (by rw [← hv.1]; exact h), e4⟩
  have HN2 : Hid (N ≤ 2) := (by omega : N ≤ 2)
  clear hx rx hB hN8 hN
  go_enter Tryd.func39, Tryd.ntmps39
  go_wp2
  go_loopw [5, 7, 10] (fun o _ c wr => ∃ (j : Nat) (g : Option Nat), j ≤ n ∧ c = .int .i64 j ∧ Sl wr 5 o g (vals (putA N (x.take j))) ∧ (∀ q, g = some q → B ≤ q) ∧ Below B w wr) (fun _ _ c _ => n - (intOf c).toNat)
  case atStart => exact ⟨0, none, Nat.zero_le _, rfl, Sl.nil _ _, (by intro q hq; cases hq), Below.refl _ _⟩
  case round =>
    obtain ⟨j, g, hj, rfl, hsl, hg, hbel⟩ := hrel
    have hL : (putA N (x.take j)).length = N * j := by rw [putA_len, List.length_take, HX.out.1, Nat.min_eq_left hj]
    have hNj : N * j ≤ 2 * j := Nat.mul_le_mul_right j HN2.out
    obtain ⟨ao, co, hv, hl1, hl2, hl3⟩ := hsl.shape
    rw [vals_len] at hv hl1
    have HL : Hid ((putA N (x.take j)).length = N * j ∧ N * j ≤ 2 * j) := ⟨hL, hNj⟩
    generalize hZ : (putA N (x.take j)).length = Z at *
    have HZ : Hid ((putA N (x.take j)).length = Z) := hZ
    clear hL hNj hZ
    by_cases hlt : j < n
    · obtain ⟨b, off, rfl, hc⟩ := (HX.out.2.old (by rw [← HB.out]; exact hbel)).at j (by rw [HX.out.1]; exact hlt)
      have HU : Hid (putA N (x.take (j + 1)) = putA N (x.take j) ++ (octs (x[j]?.getD 0) N).reverse) := by
        show _ = _
        rw [take_snoc x j (by rw [HX.out.1]; exact hlt), putA_snoc]
      have HSl : Hid (Sl wr 5 (.slice ao Z co) g (vals (putA N (x.take j))) ∧ (∀ q, g = some q → B ≤ q) ∧ Below B w wr) := ⟨hv ▸ hsl, hg, hbel⟩
      have C := HP.out (x[j]?.getD 0) wr
      have HO : Hid ((octs (x[j]?.getD 0) N).reverse.length = N) := by show _ = _; rw [List.length_reverse, octs_len]
      clear hsl hg hbel hl2 hl3
      subst hv
      generalize x[j]?.getD 0 = z at *
      go_wp2_with fail
      refine C.mono ?_
      clear C
      rintro e w3 ⟨a3, c3, rfl, r3, z3, b3⟩
      have HR3 : Hid (Row w3 a3 (octs z N).reverse ∧ (a3 = none → c3 = 0) ∧ Below wr.heap.size wr w3 ∧ Sl w3 5 (.slice ao Z co) g (vals (putA N (x.take j)))) := ⟨r3, z3, b3, HSl.out.1.same fun q hq => b3.block q (HSl.out.1.lt hq)⟩
      clear r3 z3 b3
      go_wp2_with (at_builtin; refine wpList_more rfl _ _ rfl (.slice ao Z co) g (putA N (x.take j)) rfl HR3.out.2.2.2 a3 N c3 (octs z N).reverse rfl HR3.out.2.1 HO.out HR3.out.1 (by have := HN2.out; have := HL.out; have := HZ.out; omega) ?_)
      intro v7 w7 g7 hs7 hg7 hgr7
      have HF : Hid _ := more_step HB.out HSl.out.2.2 HR3.out.2.2.1 HSl.out.2.1 hs7 hg7 hgr7 HU.out
      clear hs7 hg7 hgr7 HR3 HSl
      go_wp2
      go_roundw
      case rel => exact ⟨j + 1, g7, by omega, by go_num, HF.out⟩
      case measure => simp [intOf]; omega
    · have : j = n := by omega
      subst this
      subst hv
      have HSl : Hid (Sl wr 5 (.slice ao Z co) g (vals (putA N (x.take j))) ∧ (∀ q, g = some q → B ≤ q) ∧ Below B w wr) := ⟨hsl, hg, hbel⟩
      have HT : Hid (x.take j = x) := List.take_of_length_le (by have := HX.out.1; omega)
      clear hsl hg hbel
      go_wp2
      go_ret
      have := HSl.out
      have hz := HZ.out
      rw [HT.out] at this hz
      rw [← hz] at this ⊢
      rw [HB.out] at this
      exact ⟨ao, co, g, rfl, this.1, this.2.1, this.2.2⟩
end Go.Proofs.YticdpibaojhpiaaDoor
