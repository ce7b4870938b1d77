/- LZW: a decoder's cells; the table's small functions. -/
import Derived.Test.YtcbmlioeeoghkaaLzM
import Derived.Test.YtcbmlioeeoghkaaRd3
import Derived.Test.YtcbmlioeeoghkaaRwC
import Derived.Test.YtcbmlioeeoghkaaRdN
import Derived.StillTail
import Derived.Deep.RegionHeld3
import Derived.Deep.DeepCutAuto
import Derived.Deep.CutBlock
import Derived.WalkMore
namespace Go.Proofs.Ytcbmlioeeoghkaa
open Go.RowKit
def encT (fs : List Tx) : List Value := fs.flatMap fun p => [.int .i64 (p.1 : Int), .int .u8 p.2]
theorem encT_len (fs : List Tx) : (encT fs).length = fs.length * 2 := by
  unfold encT
  induction fs with
  | nil => rfl
  | cons p r ih => simp only [List.flatMap_cons, List.length_append, List.length_cons, List.length_nil, ih]; omega
theorem encT_app (fs : List Tx) (p : Tx) : encT (fs ++ [p]) = encT fs ++ [.int .i64 (p.1 : Int), .int .u8 p.2] := by
  unfold encT; simp
theorem encT_at (fs : List Tx) : ∀ (i : Nat) (p : Tx), fs[i]? = some p → (encT fs)[i * 2]? = some (.int .i64 (p.1 : Int)) ∧ (encT fs)[i * 2 + 1]? = some (.int .u8 p.2) := by
  induction fs with
  | nil => intro i p h; simp at h
  | cons q r ih =>
    intro i p h
    have e : encT (q :: r) = .int .i64 (q.1 : Int) :: .int .u8 q.2 :: encT r := by unfold encT; simp
    cases i with
    | zero => simp at h; subst h; rw [e]; exact ⟨rfl, rfl⟩
    | succ n =>
      simp at h
      obtain ⟨h1, h2⟩ := ih n p h
      rw [e, show (n + 1) * 2 = n * 2 + 1 + 1 by omega]
      simp only [List.getElem?_cons_succ]
      exact ⟨h1, h2⟩
/-- A decoder's cells. -/
def Dc (w : World) (d : Nat) (L lf er : Int) (dn : Bool) (rv iv : Value) (tl : Int) (fv : Value) (ah : Int) : Prop :=
  w.heap[d]? = some (.cells #[.int .i64 L, .int .i64 lf, .int .i64 er, .bool dn, rv, iv, .int .i64 tl, fv, .int .i64 ah] 51 (0, 0))
section
variable {w : World} {d : Nat} {L lf er : Int} {dn : Bool} {rv iv : Value} {tl : Int} {fv : Value} {ah : Int}
theorem Dc.head (h : Dc w d L lf er dn rv iv tl fv ah) : w.cell? ⟨d, 0, none⟩ = some (.int .i64 L) ∧ w.cell? ⟨d, 1, none⟩ = some (.int .i64 lf) ∧ w.cell? ⟨d, 2, none⟩ = some (.int .i64 er) ∧ w.cell? ⟨d, 3, none⟩ = some (.bool dn) ∧ w.cell? ⟨d, 4, none⟩ = some rv ∧ w.cell? ⟨d, 5, none⟩ = some iv := by
  unfold Dc at h
  refine ⟨?_, ?_, ?_, ?_, ?_, ?_⟩ <;> simp [World.cell?, h]
theorem Dc.tab (h : Dc w d L lf er dn rv iv tl fv ah) : w.cell? ⟨d, 6, none⟩ = some (.int .i64 tl) ∧ w.cell? ⟨d, 7, none⟩ = some fv ∧ w.cell? ⟨d, 8, none⟩ = some (.int .i64 ah) := by
  unfold Dc at h
  refine ⟨?_, ?_, ?_⟩ <;> simp [World.cell?, h]
theorem Dc.frz (h : Dc w d L lf er dn rv iv tl fv ah) (j : Nat) : w.frozen? ⟨d, j, none⟩ = false := by
  unfold Dc at h; simp [World.frozen?, h]
theorem Dc.of {w' : World} (h : Dc w d L lf er dn rv iv tl fv ah) (hs : w'.heap[d]? = w.heap[d]?) : Dc w' d L lf er dn rv iv tl fv ah := hs.trans h
theorem Dc.set1 (h : Dc w d L lf er dn rv iv tl fv ah) (x : Int) : Dc (w.setCell ⟨d, 1, none⟩ (.int .i64 x)) d L x er dn rv iv tl fv ah := by
  unfold Dc at h ⊢; rw [heap_setCell_same w d 1 _ _ _ h]; rfl
theorem Dc.set2 (h : Dc w d L lf er dn rv iv tl fv ah) (x : Int) : Dc (w.setCell ⟨d, 2, none⟩ (.int .i64 x)) d L lf x dn rv iv tl fv ah := by
  unfold Dc at h ⊢; rw [heap_setCell_same w d 2 _ _ _ h]; rfl
theorem Dc.set3 (h : Dc w d L lf er dn rv iv tl fv ah) (x : Bool) : Dc (w.setCell ⟨d, 3, none⟩ (.bool x)) d L lf er x rv iv tl fv ah := by
  unfold Dc at h ⊢; rw [heap_setCell_same w d 3 _ _ _ h]; rfl
theorem Dc.set4 (h : Dc w d L lf er dn rv iv tl fv ah) (x : Value) : Dc (w.setCell ⟨d, 4, none⟩ x) d L lf er dn x iv tl fv ah := by
  unfold Dc at h ⊢; rw [heap_setCell_same w d 4 _ _ _ h]; rfl
theorem Dc.set5 (h : Dc w d L lf er dn rv iv tl fv ah) (x : Value) : Dc (w.setCell ⟨d, 5, none⟩ x) d L lf er dn rv x tl fv ah := by
  unfold Dc at h ⊢; rw [heap_setCell_same w d 5 _ _ _ h]; rfl
theorem Dc.set6 (h : Dc w d L lf er dn rv iv tl fv ah) (x : Int) : Dc (w.setCell ⟨d, 6, none⟩ (.int .i64 x)) d L lf er dn rv iv x fv ah := by
  unfold Dc at h ⊢; rw [heap_setCell_same w d 6 _ _ _ h]; rfl
theorem Dc.set7 (h : Dc w d L lf er dn rv iv tl fv ah) (x : Value) : Dc (w.setCell ⟨d, 7, none⟩ x) d L lf er dn rv iv tl x ah := by
  unfold Dc at h ⊢; rw [heap_setCell_same w d 7 _ _ _ h]; rfl
theorem Dc.set8 (h : Dc w d L lf er dn rv iv tl fv ah) (x : Int) : Dc (w.setCell ⟨d, 8, none⟩ (.int .i64 x)) d L lf er dn rv iv tl fv x := by
  unfold Dc at h ⊢; rw [heap_setCell_same w d 8 _ _ _ h]; rfl
end
theorem least7 {L : Nat} (h : 2 ≤ L ∧ L ≤ 8) : L = 2 ∨ L = 3 ∨ L = 4 ∨ L = 5 ∨ L = 6 ∨ L = 7 ∨ L = 8 := by omega
theorem fc_bd {L : Nat} (h : 2 ≤ L ∧ L ≤ 8) : 4 ≤ 2 ^ L ∧ 2 ^ L ≤ 256 := by
  rcases least7 h with rfl | rfl | rfl | rfl | rfl | rfl | rfl <;> decide
set_option maxHeartbeats 400000 in
theorem isLeast_any (n : Int) (w : World) : Calls Try.prog 21 #[.int .i64 n] w fun e w' => e = .returned (.bool (decide (2 ≤ n ∧ n ≤ 8))) ∧ w' = w := by
  rcases (show n < 2 ∨ (2 ≤ n ∧ n ≤ 8) ∨ (2 ≤ n ∧ 8 < n) by omega) with h | ⟨h, h2⟩ | ⟨h, h2⟩
  · rw [decide_eq_false (by omega)]
    go_enter Try.func21, Try.ntmps21
    go_wp2
    go_ret
    exact ⟨rfl, rfl⟩
  · rw [decide_eq_true ⟨h, h2⟩]
    have d : decide (n ≤ 8) = true := decide_eq_true h2
    go_enter Try.func21, Try.ntmps21
    go_wp2
    go_ret
    exact ⟨rfl, rfl⟩
  · rw [decide_eq_false (by omega)]
    have d : decide (n ≤ 8) = false := decide_eq_false (by omega)
    go_enter Try.func21, Try.ntmps21
    go_wp2
    go_ret
    exact ⟨rfl, rfl⟩
set_option maxHeartbeats 800000 in
theorem clearCode_any {L : Nat} (h : 2 ≤ L ∧ L ≤ 8) (w : World) : Calls Try.prog 43 #[.int .i64 L] w fun e w' => e = .returned (.int .i64 ((2 ^ L : Nat) : Int)) ∧ w' = w := by
  rcases least7 h with rfl | rfl | rfl | rfl | rfl | rfl | rfl <;>
  · go_enter Try.func43, Try.ntmps43
    go_wp2
    go_ret
    exact ⟨rfl, rfl⟩
set_option maxHeartbeats 400000 in
theorem endCode_any {L : Nat} (h : 2 ≤ L ∧ L ≤ 8) (w : World) : Calls Try.prog 37 #[.int .i64 L] w fun e w' => e = .returned (.int .i64 ((2 ^ L + 1 : Nat) : Int)) ∧ w' = w := by
  have C := clearCode_any h w
  have hb := fc_bd h
  generalize 2 ^ L = P at *
  go_enter Try.func37, Try.ntmps37
  go_wp2_with fail
  refine C.mono ?_
  rintro e w' ⟨rfl, rfl⟩
  go_wp2
  go_ret
  exact ⟨by go_num, rfl⟩
set_option maxHeartbeats 400000 in
theorem furtherCode_any {L : Nat} (h : 2 ≤ L ∧ L ≤ 8) (w : World) : Calls Try.prog 49 #[.int .i64 L] w fun e w' => e = .returned (.int .i64 (fcN L : Int)) ∧ w' = w := by
  have C := endCode_any h w
  have hb := fc_bd h
  unfold fcN
  generalize 2 ^ L = P at *
  go_enter Try.func49, Try.ntmps49
  go_wp2_with fail
  refine C.mono ?_
  rintro e w' ⟨rfl, rfl⟩
  go_wp2
  go_ret
  exact ⟨by go_num, rfl⟩
theorem shr_pos (n w : Nat) : (0 < n / 2 ^ w) ↔ 2 ^ w ≤ n := by
  rw [Nat.div_pos_iff]
  exact ⟨fun h => h.2, fun h => ⟨Nat.two_pow_pos w, h⟩⟩
set_option maxHeartbeats 1600000 in
theorem width_any {L n : Nat} (h : 2 ≤ L ∧ L ≤ 8) (hn : n ≤ 1000000) (w : World) : Calls Try.prog 41 #[.int .i64 L, .int .i64 n] w fun e w' => e = .returned (.int .i64 (widN L n : Int)) ∧ w' = w := by
  obtain ⟨h1, h2⟩ := h
  have HW : Hid (widG (L + 1) n = widN L n) := rfl
  go_enter Try.func41, Try.ntmps41
  go_wp2
  go_loopw [5, 8, 9, 10, 11, 12, 13, 14, 15, 16, 17] (fun v _ _ _ _ _ _ _ _ _ _ wr => ∃ x : Nat, L + 1 ≤ x ∧ x ≤ 12 ∧ v = .int .i64 (x : Int) ∧ Hid (widG x n = widN L n) ∧ wr = w) (fun v _ _ _ _ _ _ _ _ _ _ _ => 12 - (intOf v).toNat)
  case atStart => exact ⟨L + 1, Nat.le_refl _, by omega, by go_num, HW, rfl⟩
  case round =>
    obtain ⟨x, hx1, hx2, rfl, HX, rfl⟩ := hrel
    by_cases h12 : x < 12
    · have hsh : ((n : Int) / 2 ^ x) = ((n / 2 ^ x : Nat) : Int) := by simp
      obtain ⟨q, hq⟩ : ∃ q, n / 2 ^ x = q := ⟨_, rfl⟩
      have hqn : q ≤ 1000000 := by rw [← hq]; exact Nat.le_trans (Nat.div_le_self _ _) hn
      have hs := shr_pos n x
      rw [hq] at hsh hs
      by_cases hqp : 0 < q
      · have HX2 : Hid (widG (x + 1) n = widN L n) := by
          have := HX.out; rw [widG_eq, if_pos ⟨h12, hs.1 hqp⟩] at this; exact this
        clear hs hq
        go_wp2
        go_roundw
        case rel => exact ⟨x + 1, by omega, by omega, by go_num, HX2, trivial⟩
        case measure => simp [intOf]; omega
      · have HE : Hid (x = widN L n) := by
          have := HX.out; rw [widG_eq, if_neg (fun hh => hqp (hs.2 hh.2))] at this; exact this
        obtain rfl : q = 0 := by omega
        clear hs hq
        go_wp2
        go_ret
        exact ⟨by rw [← HE.out]; rfl, rfl⟩
    · have HE : Hid (x = widN L n) := by
        have := HX.out; rw [widG_eq, if_neg (fun hh => h12 hh.1)] at this; exact this
      obtain rfl : x = 12 := by omega
      go_wp2
      go_ret
      exact ⟨by rw [← HE.out]; rfl, rfl⟩
end Go.Proofs.Ytcbmlioeeoghkaa
