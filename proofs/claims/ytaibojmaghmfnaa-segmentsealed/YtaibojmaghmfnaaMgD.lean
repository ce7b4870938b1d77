/- Ranges in order. -/
import Derived.Test.YtaibojmaghmfnaaMgA
namespace Go.Proofs.Ytaibojmaghmfnaa
open Go.RowKit
def ordP : Int → List (Int × Int) → Bool
  | _, [] => true
  | a, (x, y) :: r => wi y 0 2147483647 && decide (a < x) && decide (x < y) && ordP y r
theorem ordP_at (a : Int) (G : List (Int × Int)) (k : Nat) (hk : k < G.length) : ordP a (G.drop k) = (wi (gy G k) 0 2147483647 && decide (a < gx G k) && decide (gx G k < gy G k) && ordP (gy G k) (G.drop (k + 1))) := by
  rw [List.drop_eq_getElem_cons hk]
  have e : G[k]?.getD (0, 0) = G[k] := by simp [hk]
  unfold gx gy
  rw [e]
  rfl
theorem ret_boolM {a b : Bool} (h : a = b) : Ending.returned (.bool a) = .returned (.bool b) := by rw [h]
set_option maxHeartbeats 1600000 in
theorem inOrder_any (ix : Int) (a : Option Addr) (n c : Nat) (G : List (Int × Int)) (w : World) (hn : G.length = n) (hb : n ≤ 70368744177664) (hg : RgR w a G) :
    Calls Try.prog 72 #[.int .i64 ix, .slice a n c] w fun e w' => e = .returned (.bool (ordP ix G)) ∧ Below w.heap.size w w' := by
  have HG : Hid (RgR w a G) := hg
  have HN : Hid (G.length = n) := hn
  clear hg hn
  go_enter Try.func72, Try.ntmps72
  go_wp2
  go_loopw [5, 7, 11] (fun v _ t wr => ∃ (k : Nat) (h : Int), k ≤ n ∧ t = .int .i64 k ∧ v = .int .i64 h ∧ Hid (ordP ix G = ordP h (G.drop k)) ∧ Below w.heap.size w wr) (fun _ _ t _ => n - (intOf t).toNat)
  case atStart => exact ⟨0, ix, Nat.zero_le _, rfl, rfl, rfl, Below.refl _ _⟩
  case round =>
    obtain ⟨k, h, hk, rfl, rfl, HE, hbel⟩ := hrel
    by_cases hlt : k < n
    · have hA := ordP_at h G k (by rw [HN.out]; exact hlt)
      rw [← HE.out] at hA
      have HA : Hid _ := hA
      obtain ⟨b, off, rfl, hc⟩ : ∃ b off, a = some ⟨b, off, none⟩ ∧ ∀ i, i < G.length → w.cell? ⟨b, off + i * 2, none⟩ = some (.int .i64 (gx G i)) ∧ w.cell? ⟨b, off + i * 2 + 1, none⟩ = some (.int .i64 (gy G i)) := by
        rcases HG.out with e | e
        · have := HN.out; rw [e] at this; simp at this; omega
        · exact e
      obtain ⟨c0, c1⟩ := hc k (by rw [HN.out]; exact hlt)
      have c0' := (hbel.cell (p := ⟨b, off + k * 2, none⟩) (cell_lt c0)).trans c0
      have c1' := (hbel.cell (p := ⟨b, off + k * 2 + 1, none⟩) (cell_lt c1)).trans c1
      have HB : Hid (Below w.heap.size w wr) := hbel
      clear hc hA hbel c0 c1 HE
      generalize gx G k = x at *
      obtain ⟨y, hy⟩ : ∃ y, gy G k = y := ⟨_, rfl⟩
      rw [hy] at c1' HA
      clear hy
      cases h1 : wi y 0 2147483647
      · rw [h1] at HA
        go_wp2_with (go_at_call 66; refine (isIndex_any _ _).mono ?_; rintro e w' ⟨rfl, rfl⟩)
        go_ret
        exact ⟨ret_boolM (by rw [HA.out]; rfl), HB.out.alloc HB.out.size _⟩
      · by_cases h2 : h < x
        · have h2' : ¬ x ≤ h := by omega
          by_cases h3 : x < y
          · have h3' : ¬ y ≤ x := by omega
            rw [h1, decide_eq_true h2, decide_eq_true h3] at HA
            go_wp2_with (go_at_call 66; refine (isIndex_any _ _).mono ?_; rintro e w' ⟨rfl, rfl⟩)
            go_roundw
            case rel => exact ⟨k + 1, y, by omega, by go_num, rfl, HA.out, HB.out.alloc HB.out.size _⟩
            case measure => simp [intOf]; omega
          · have h3' : y ≤ x := by omega
            rw [h1, decide_eq_true h2, decide_eq_false h3] at HA
            go_wp2_with (go_at_call 66; refine (isIndex_any _ _).mono ?_; rintro e w' ⟨rfl, rfl⟩)
            go_ret
            exact ⟨ret_boolM (by rw [HA.out]; rfl), HB.out.alloc HB.out.size _⟩
        · have h2' : x ≤ h := by omega
          rw [h1, decide_eq_false h2] at HA
          go_wp2_with (go_at_call 66; refine (isIndex_any _ _).mono ?_; rintro e w' ⟨rfl, rfl⟩)
          go_ret
          exact ⟨ret_boolM (by rw [HA.out]; rfl), HB.out.alloc HB.out.size _⟩
    · obtain rfl : k = n := by omega
      have : G.drop k = [] := by rw [List.drop_eq_nil_iff, HN.out]; exact Nat.le_refl _
      rw [this] at HE
      clear this
      go_wp2
      go_ret
      exact ⟨ret_boolM (by rw [HE.out]; rfl), hbel⟩
end Go.Proofs.Ytaibojmaghmfnaa
