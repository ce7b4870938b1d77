/- The library's merge in place and its stable sort, of rows of whatever length up to a million. -/
import Derived.Test.YtjellgkojmgmjaaHsF
namespace Go.Proofs.Ytjellgkojmgmjaa
open Go.RowKit

theorem sym_all (blk cap : Nat) (d0 : Array Pv) (w0 : World) (R : RowK Pv.enc 2 w0 blk 0 d0) (hsz : d0.size ≤ 1000000) (N : Nat) : SymC blk cap d0 w0 N := by
  induction N with
  | zero => exact fun a m b d w _ _ _ _ _ h => absurd h (Nat.not_lt_zero _)
  | succ N IH =>
    intro a m b d w hs S hm hb hz hN hR1 hR2
    by_cases h1 : a + 1 = m
    · exact sym_left blk cap a m b d0 d w0 w R hs S h1 hb hz (by omega) hR2
    · by_cases h2 : m + 1 = b
      · exact sym_right blk cap a m b d0 d w0 w R hs S (by omega) h2 hz (by omega) hR1
      · by_cases h3 : (a + b) / 2 < m
        · exact sym_main1 blk cap a m b N d0 d w0 w R hs S (by omega) (by omega) hz (by omega) hR1 hR2 IH (by omega) h3
        · exact sym_main2 blk cap a m b N d0 d w0 w R hs S (by omega) (by omega) hz (by omega) hR1 hR2 IH (by omega) (by omega)
theorem insertion_w (blk cap a b : Nat) (d0 d : Array Pv) (w0 w : World) (R : RowK Pv.enc 2 w0 blk 0 d0) (hs : d0.size = d.size) (S : SWK Pv.enc 2 w0 blk 0 d w) (hab : a ≤ b) (hb : b ≤ d.size) (hsz : d.size ≤ 1000000) :
    Calls Try.prog 54 #[.slice (some ⟨blk, 0, none⟩) d.size cap, .int .i64 a, .int .i64 b, .func (.func 48) #[] #[]] w fun e w' =>
      e = .returned (.tuple #[]) ∧ ∃ e', Mrg d e' a b ∧ SWK Pv.enc 2 w0 blk 0 e' w' := by
  refine (insertion_any blk 0 cap a b d w (S.holds R.hblk R.hH hs.symm) (S.lt R.hblk) hab hb (by omega)).mono ?_
  rintro e w' ⟨he, n, os, hw⟩
  have hh := Sort.insertionSort_holds (lt := ltOf cmpW) swoW d a b hab hb
  exact ⟨he, _, ⟨hh.1, stR_sorted.1 hh.2⟩, by rw [hw]; exact S.on R.hblk n _ os hh.1.1⟩
theorem bk_first {bs A x n : Nat} {d : Array Pv} (h : Bk bs d x n) (hx : x = A * (2 * bs)) (y : Nat) (hy : y ≤ x + bs) (hn : y ≤ n) : StR d x y := by
  have e : 2 * A * bs = x := by rw [hx, Nat.mul_comm 2 A, Nat.mul_assoc]
  exact fun i j h1 h2 h3 => h (2 * A) i j (by rw [e]; exact h1) h2 (by rw [e]; omega) h1 (by omega)
theorem bk_second {bs A x n : Nat} {d : Array Pv} (h : Bk bs d x n) (hx : x = A * (2 * bs)) (z y : Nat) (hz : x + bs = z) (hy : y ≤ z + bs) (hn : y ≤ n) : StR d z y := by
  have e : (2 * A + 1) * bs = z := by rw [Nat.add_mul, Nat.one_mul, Nat.mul_comm 2 A, Nat.mul_assoc, ← hx]; exact hz
  exact fun i j h1 h2 h3 => h (2 * A + 1) i j (by rw [e]; exact h1) h2 (by rw [e]; omega) (by omega) (by omega)
theorem bk_lo {bs x y n : Nat} {d : Array Pv} (h : Bk bs d x n) (hxy : x ≤ y) : Bk bs d y n := fun k i j h1 h2 h3 h4 h5 => h k i j h1 h2 h3 (by omega) h5
/-- One more block is in order. -/
theorem bk_next {bs A x y : Nat} {d e : Array Pv} (hx : x = A * bs) (h : Bk bs d 0 x) (M : Mrg d e x y) : Bk bs e 0 y :=
  bk_more A y (by rw [← hx]; exact bk_congr h fun t _ ht => M.1.2.1 t (Or.inl ht)) (by rw [← hx]; exact M.2)
set_option maxHeartbeats 8000000 in
theorem stable_any (blk cap n : Nat) (d : Array Pv) (w : World) (R : RowK Pv.enc 2 w blk 0 d) (hn : d.size = n) (hsz : n ≤ 1000000) :
    Calls Try.prog 51 #[.slice (some ⟨blk, 0, none⟩) n cap, .int .i64 n, .func (.func 48) #[] #[]] w fun e w' =>
      e = .returned (.tuple #[]) ∧ ∃ e', Mrg d e' 0 n ∧ SWK Pv.enc 2 w blk 0 e' w' := by
  have S0 : Aside (SWK Pv.enc 2 w blk 0 d w) := SWK.start R.hH
  have HR : Aside (RowK Pv.enc 2 w blk 0 d) := R
  have HY : Hid (∀ N, SymC blk cap d w N) := fun N => sym_all blk cap d w R (by omega) N
  have HN : Hid (d.size = n) := hn
  have hn1 : n ≤ d.size := by omega
  have hn2 : d.size ≤ n := by omega
  clear R hn
  go_enter Try.func51, Try.ntmps51
  go_wp2
  go_loopw [7, 8] (fun va vb wr => ∃ A x y : Nat, ∃ dk : Array Pv, va = .int .i64 x ∧ vb = .int .i64 y ∧ Hid (x = A * 20) ∧ y ≤ x + 20 ∧ x + 20 ≤ y ∧ x ≤ n ∧ Aside (SWK Pv.enc 2 w blk 0 dk wr) ∧ Hid (Sort.PermIn 0 n d dk) ∧ Hid (Bk 20 dk 0 x)) (fun va vb _ => n - (intOf va).toNat)
  case atStart => exact ⟨0, 0, 20, d, rfl, rfl, rfl, by omega, by omega, by omega, S0, Sort.permIn_refl _ _ _, bk_nil 20 d⟩
  case round =>
    clear S0
    obtain ⟨A, x, y, dk, rfl, rfl, HA, hy1, hy2, hx, SK, HP, HB⟩ := hrel
    have hds : dk.size = n := HP.out.1.trans HN.out
    by_cases hyn : y ≤ n
    · have C := insertion_w blk cap x y d dk w wr HR.out (by omega) SK.out (by omega) (by omega) (by omega)
      rw [hds] at C
      go_wp2_with (go_at_call 54; with_reducible refine C.mono ?_; rintro e w1 ⟨rfl, e1, M1, S1⟩)
      go_roundw
      case rel =>
        refine ⟨A + 1, y, y + 20, e1, rfl, by go_num, ?_, by omega, by omega, hyn, S1, ?_, bk_next HA.out HB.out M1⟩
        · show y = (A + 1) * 20
          have := HA.out
          omega
        · exact Sort.permIn_trans _ _ _ _ _ HP.out (Sort.permIn_mono _ _ _ _ _ _ (Nat.zero_le _) hyn (by omega) M1.1)
      case measure => simp [intOf]; omega
    · have C := insertion_w blk cap x n d dk w wr HR.out (by omega) SK.out (by omega) (by omega) (by omega)
      rw [hds] at C
      go_wp2_with (go_at_call 54; with_reducible refine C.mono ?_; rintro e w1 ⟨rfl, e1, M1, S1⟩)
      have HP1 : Hid (Sort.PermIn 0 n d e1) := Sort.permIn_trans _ _ _ _ _ HP.out (Sort.permIn_mono _ _ _ _ _ _ (Nat.zero_le _) (Nat.le_refl _) (by omega) M1.1)
      have HB1 : Hid (Bk 20 e1 0 n) := bk_next HA.out HB.out M1
      have S1 : Aside (SWK Pv.enc 2 w blk 0 e1 w1) := S1
      clear M1 HP HB SK C HA hds
      go_loopw [6] (fun vs wr => ∃ bs : Nat, ∃ dk : Array Pv, vs = .int .i64 bs ∧ 1 ≤ bs ∧ bs ≤ 4000000 ∧ Aside (SWK Pv.enc 2 w blk 0 dk wr) ∧ Hid (Sort.PermIn 0 n d dk) ∧ Hid (Bk bs dk 0 n)) (fun vs _ => n - (intOf vs).toNat)
      case atStart => exact ⟨20, e1, rfl, by omega, by omega, S1, HP1, HB1⟩
      case round =>
        clear S1 HP1 HB1
        obtain ⟨bs, dk, rfl, hb1, hb2, SK, HP, HB⟩ := hrel
        by_cases hbn : bs < n
        · obtain ⟨B2, hB2⟩ : ∃ x : Nat, x = 2 * bs := ⟨_, rfl⟩
          have e2 : 2 * (bs : Int) = (B2 : Int) := by omega
          have e3 : (bs : Int) * 2 = (B2 : Int) := by omega
          have h21 : B2 ≤ 2 * bs := by omega
          have h22 : 2 * bs ≤ B2 := by omega
          have H2 : Hid (B2 = 2 * bs) := hB2
          clear hB2
          go_wp2
          go_loopw [7, 8] (fun va vb wr => ∃ A x y : Nat, ∃ dk : Array Pv, va = .int .i64 x ∧ vb = .int .i64 y ∧ Hid (x = A * B2) ∧ y ≤ x + B2 ∧ x + B2 ≤ y ∧ x ≤ n ∧ Aside (SWK Pv.enc 2 w blk 0 dk wr) ∧ Hid (Sort.PermIn 0 n d dk) ∧ Hid (Bk B2 dk 0 x) ∧ Hid (Bk bs dk x n)) (fun va vb _ => n - (intOf va).toNat)
          case atStart => exact ⟨0, 0, B2, dk, rfl, rfl, (by rw [Nat.zero_mul] : 0 = 0 * B2), by omega, by omega, by omega, SK, HP, bk_nil B2 dk, HB⟩
          case round =>
            clear SK HP HB
            obtain ⟨A, x, y, dk, rfl, rfl, HA, hy1, hy2, hx, SK, HP, HB, HB'⟩ := hrel
            have hds : dk.size = n := HP.out.1.trans HN.out
            have HA' : Hid (x = A * (2 * bs)) := by rw [← H2.out]; exact HA.out
            obtain ⟨z, hz⟩ : ∃ z : Nat, z = x + bs := ⟨_, rfl⟩
            have ez : (x : Int) + (bs : Int) = (z : Int) := by omega
            have hz1 : z ≤ x + bs := by omega
            have hz2 : x + bs ≤ z := by omega
            clear hz
            by_cases hyn : y ≤ n
            · have C := HY.out n.succ x z y dk wr (by omega) SK.out (by omega) (by omega) (by omega) (by omega) (bk_first HB'.out HA'.out z hz1 (by omega)) (bk_second HB'.out HA'.out z y (by omega) (by omega) hyn)
              rw [hds] at C
              go_wp2_with (go_at_call 55; with_reducible refine C.mono ?_; rintro e w2 ⟨rfl, e2', M1, S1⟩)
              go_roundw
              case rel =>
                refine ⟨A + 1, y, y + B2, e2', rfl, by go_num, ?_, by omega, by omega, hyn, S1, ?_, bk_next HA.out HB.out M1, ?_⟩
                · show y = (A + 1) * B2
                  have := HA.out
                  rw [Nat.add_mul, Nat.one_mul]
                  omega
                · exact Sort.permIn_trans _ _ _ _ _ HP.out (Sort.permIn_mono _ _ _ _ _ _ (Nat.zero_le _) hyn (by omega) M1.1)
                · exact bk_congr (bk_lo HB'.out (by omega)) fun t ht _ => M1.1.2.1 t (Or.inr ht)
              case measure => simp [intOf]; omega
            · by_cases hzn : z < n
              · have C := HY.out n.succ x z n dk wr (by omega) SK.out (by omega) hzn (by omega) (by omega) (bk_first HB'.out HA'.out z hz1 (by omega)) (bk_second HB'.out HA'.out z n (by omega) (by omega) (Nat.le_refl _))
                rw [hds] at C
                go_wp2_with (go_at_call 55; with_reducible refine C.mono ?_; rintro e w2 ⟨rfl, e2', M1, S1⟩)
                go_roundw
                case rel => exact ⟨B2, e2', by go_num, by omega, by omega, S1, Sort.permIn_trans _ _ _ _ _ HP.out (Sort.permIn_mono _ _ _ _ _ _ (Nat.zero_le _) (Nat.le_refl _) (by omega) M1.1), bk_next HA.out HB.out M1⟩
                case measure => simp [intOf]; omega
              · go_wp2
                go_roundw
                case rel => exact ⟨B2, dk, by go_num, by omega, by omega, SK, HP, bk_next HA.out HB.out (mrg_self (bk_first HB'.out HA'.out n (by omega) (Nat.le_refl _)))⟩
                case measure => simp [intOf]; omega
        · go_wp2
          go_end0
          exact ⟨rfl, dk, ⟨HP.out, bk_one HB.out (by omega)⟩, SK.out⟩
end Go.Proofs.Ytjellgkojmgmjaa
