/- A table of colours is read: the reference's ReadTints; whether colours are the same. -/
import Derived.Test.YticdpibaojhpiaaDoorHdU
namespace Go.Proofs.YticdpibaojhpiaaDoor
open Go.RowKit
theorem ref_tt {W H C D : Int} {n : Nat} (hm : mayN W H C D) : (tnOk C D n ↔ ¬ (C = 0 ∨ C = 4 ∨ (n : Int) < 1 ∨ 256 < (n : Int) ∨ (C = 3 ∧ 2 ^ D.toNat < (n : Int)))) := by
  have hp : ∀ p ∈ prL, (p.1 = 0 ∨ p.1 = 2 ∨ p.1 = 3 ∨ p.1 = 4 ∨ p.1 = 6) ∧ (p.1 = 3 → (2 : Int) ^ p.2.toNat ≤ 256) := by decide
  have h := hp _ (isPr_cases hm.2.2.1)
  simp only at h
  unfold tnOk
  constructor
  · rintro (⟨h1, h2, h3⟩ | ⟨h1, h2, h3⟩)
    · omega
    · have := h.2 h1; omega
  · intro k
    rcases h.1 with e | e | e | e | e
    · omega
    · exact .inl ⟨.inl e, by omega, by omega⟩
    · exact .inr ⟨e, by omega, by omega⟩
    · omega
    · exact .inl ⟨.inr e, by omega, by omega⟩
set_option maxHeartbeats 800000 in
theorem sameT_any (a a' : Option Addr) (n c c' : Nat) (b : List Int) (w : World) (hl : b.length = 3 * n) (hn : n ≤ 65536) (r1 : Row w a b) (r2 : Row w a' b) : Calls Tryd.prog 21 #[.slice a n c, .slice a' n c'] w fun e w' => e = .returned (.bool true) ∧ Below w.heap.size w w' := by
  have HR : Hid (b.length = 3 * n ∧ Row w a b ∧ Row w a' b) := ⟨hl, r1, r2⟩
  clear hl r1 r2
  go_enter Tryd.func21, Tryd.ntmps21
  go_wp2
  go_loopw [5, 13] (fun _ t wq => ∃ j : Nat, j ≤ n ∧ t = .int .i64 j ∧ Hid (Below w.heap.size w wq)) (fun _ t _ => n - (intOf t).toNat)
  case atStart => exact ⟨0, Nat.zero_le _, rfl, Below.refl _ _⟩
  case round =>
    obtain ⟨j, hj, rfl, HQ⟩ := hrel
    by_cases hlt : j < n
    · obtain ⟨b1, o1, rfl, h1, h2, h3⟩ := row_3 (HR.out.2.1.old HQ.out) HR.out.1 hlt
      obtain ⟨b2, o2, rfl, k1, k2, k3⟩ := row_3 (HR.out.2.2.old HQ.out) HR.out.1 hlt
      generalize b[3 * j]?.getD 0 = x at *
      generalize b[3 * j + 1]?.getD 0 = y at *
      generalize b[3 * j + 2]?.getD 0 = z at *
      go_wp2
      go_quiet (fail)
      go_wp2
      go_roundw
      case rel => exact ⟨j + 1, by omega, by go_num, ⟨HQ.out.os, HQ.out.tape, HQ.out.output, HQ.out.size, HQ.out.block⟩⟩
      case measure => simp [intOf]; omega
    · go_wp2
      go_ret
      exact ⟨rfl, HQ.out⟩
end Go.Proofs.YticdpibaojhpiaaDoor
