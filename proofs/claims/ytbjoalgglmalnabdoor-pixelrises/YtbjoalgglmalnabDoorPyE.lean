/- Which tables go with which kind of colours: the other kinds; what a raster must be. -/
import Derived.Test.YtbjoalgglmalnabDoorPyD
namespace Go.Proofs.YtbjoalgglmalnabDoor
open Go.RowKit
theorem bqdrewX {B : Nat} {a b : World} (h : Below B a b) (n : Nat) : Below B a (b.drewN n) := ⟨h.os, h.tape, h.output, h.size, h.block⟩
set_option maxHeartbeats 6400000 in
theorem mayHave02 (r : Rs) (A K S : List Int) (w : World) (ht : Tab w) (hm : RsM w r A K S) (hC : r.C = 0 ∨ r.C = 2) (hD : 1 ≤ r.D ∧ r.D ≤ 16) : Calls Tryd.prog 15 #[r.V] w fun e w' => e = .returned (.bool (decide (mhN r.C r.D r.tn A K))) ∧ Below w.heap.size w w' := by
  have HQ : Hid (QR w r.c9 _) := QR.box w r.c9
  have hsh : wrap64 (2 ^ r.D.toNat) = 2 ^ r.D.toNat := shl_DX hD
  have HCS : Hid (∀ n, Calls Tryd.prog 16 #[.int .i64 r.C] ((w.alloc (.cells r.c9 30)).drewN n) fun e w' => e = .returned (.int .i64 (spN r.C)) ∧ w' = (w.alloc (.cells r.c9 30)).drewN n) := fun n => samples_any r.C _ (ht.old (bqdrewX HQ.out.1 n))
  have HCA : Hid (∀ n, Calls Tryd.prog 12 #[.int .i64 (2 ^ r.D.toNat), .slice r.ca r.cn r.cc] ((w.alloc (.cells r.c9 30)).drewN n) fun e w' => e = .returned (.bool (decide (allB (2 ^ r.D.toNat) K))) ∧ w' = (w.alloc (.cells r.c9 30)).drewN n) := fun n => allBelow_any (2 ^ r.D.toNat) r.ca r.cn r.cc K _ hm.kn (hm.k.old (bqdrewX HQ.out.1 n)) (by have := hm.bd; omega)
  have HF : Hid (∀ n, Below w.heap.size w ((w.alloc (.cells r.c9 30)).drewN n)) := fun n => bqdrewX HQ.out.1 n
  have e : mhN r.C r.D r.tn A K ↔ (r.tn = 0 ∧ r.an = 0 ∧ (r.cn = 0 ∨ (r.cn : Int) = spN r.C) ∧ allB (2 ^ r.D.toNat) K) := by
    unfold mhN; rw [if_neg (by omega), if_pos hC, hm.an, hm.kn]
  have e2 : decide (mhN r.C r.D r.tn A K) = decide (r.tn = 0 ∧ r.an = 0 ∧ (r.cn = 0 ∨ (r.cn : Int) = spN r.C) ∧ allB (2 ^ r.D.toNat) K) := decide_eq_decide.2 e
  rw [e2]
  have bd := hm.bd
  have hsp : spN r.C = 1 ∨ spN r.C = 3 := by rcases hC with h | h <;> rw [h] <;> decide
  clear hm e e2 ht HQ
  obtain ⟨W, H, C, D, L, ta, tn, tc, aa, an, ac, ca, cn, cc, sa, sn, sc⟩ := r
  unfold Rs.V
  unfold Rs.c9 at *
  simp only at *
  obtain ⟨P, hP⟩ : ∃ P, (2 : Int) ^ D.toNat = P := ⟨_, rfl⟩
  rw [hP] at hsh HCA ⊢
  obtain ⟨D1, D2⟩ := hD
  obtain ⟨Q, hQ⟩ : ∃ Q, spN C = Q := ⟨_, rfl⟩
  rw [hQ] at hsp HCS ⊢
  clear hQ
  have hc3 : (C == 3) = false := by rcases hC with h | h <;> subst h <;> decide
  by_cases ht0 : tn = 0
  · subst ht0
    by_cases ha0 : an = 0
    · subst ha0
      by_cases hw : cn = 0 ∨ (cn : Int) = Q
      · have hB : decide (0 = 0 ∧ 0 = 0 ∧ (cn = 0 ∨ (cn : Int) = Q) ∧ allB P K) = decide (allB P K) := by
          apply decide_eq_decide.2; exact ⟨fun h => h.2.2.2, fun h => ⟨rfl, rfl, hw, h⟩⟩
        rw [hB]
        clear hB
        generalize decide (allB P K) = R at *
        rcases hw with hw | hw
        · subst hw
          rcases hC with h | h <;> subst h
          all_goals
            go_enter Tryd.func15, Tryd.ntmps15
            go_wp2
            go_quiet (fail)
            go_wp2_with fail
            refine (HCA.out _).mono ?_
            rintro e w1 ⟨rfl, rfl⟩
            go_wp2
            go_ret
            exact ⟨rfl, HF.out _⟩
        · have hq0 : ((cn : Int) == 0) = false := by simp; omega
          have hcn : cn = 1 ∨ cn = 3 := by omega
          have hQc : Q = (cn : Int) := hw.symm
          clear hw hsp
          subst hQc
          rcases hC with h | h <;> subst h <;> rcases hcn with h | h <;> subst h
          all_goals
            go_enter Tryd.func15, Tryd.ntmps15
            go_wp2
            go_quiet ((go_at_call 16; with_reducible exact Calls.quiet_of_same (HCS.out _)))
            go_wp2_with fail
            refine (HCA.out _).mono ?_
            rintro e w1 ⟨rfl, rfl⟩
            go_wp2
            go_ret
            exact ⟨rfl, HF.out _⟩
      · rw [decide_eq_false (fun h => hw h.2.2.1)]
        have hq0 : ((cn : Int) == 0) = false := by simp; omega
        have hq1 : ((cn : Int) == Q) = false := by simp; omega
        clear HCA
        rcases hC with h | h <;> subst h
        all_goals
          go_enter Tryd.func15, Tryd.ntmps15
          go_wp2
          go_quiet ((go_at_call 16; with_reducible exact Calls.quiet_of_same (HCS.out _)))
          go_wp2
          go_ret
          exact ⟨rfl, HF.out _⟩
    · rw [decide_eq_false (fun h => ha0 h.2.1)]
      have hq0 : ((an : Int) == 0) = false := by simp; omega
      clear HCA
      by_cases hcn : cn = 0
      · subst hcn
        rcases hC with h | h <;> subst h
        all_goals
          go_enter Tryd.func15, Tryd.ntmps15
          go_wp2
          go_quiet (fail)
          go_wp2
          go_ret
          exact ⟨rfl, HF.out _⟩
      · have hq1 : ((cn : Int) == 0) = false := by simp; omega
        rcases hC with h | h <;> subst h
        all_goals
          go_enter Tryd.func15, Tryd.ntmps15
          go_wp2
          go_quiet ((go_at_call 16; with_reducible exact Calls.quiet_of_same (HCS.out _)))
          go_wp2
          go_ret
          exact ⟨rfl, HF.out _⟩
  · rw [decide_eq_false (fun h => ht0 h.1)]
    have hq0 : ((tn : Int) == 0) = false := by simp; omega
    clear HCA
    by_cases hcn : cn = 0
    · subst hcn
      rcases hC with h | h <;> subst h
      all_goals
        go_enter Tryd.func15, Tryd.ntmps15
        go_wp2
        go_quiet (fail)
        go_wp2
        go_ret
        exact ⟨rfl, HF.out _⟩
    · have hq1 : ((cn : Int) == 0) = false := by simp; omega
      rcases hC with h | h <;> subst h
      all_goals
        go_enter Tryd.func15, Tryd.ntmps15
        go_wp2
        go_quiet ((go_at_call 16; with_reducible exact Calls.quiet_of_same (HCS.out _)))
        go_wp2
        go_ret
        exact ⟨rfl, HF.out _⟩
end Go.Proofs.YtbjoalgglmalnabDoor
