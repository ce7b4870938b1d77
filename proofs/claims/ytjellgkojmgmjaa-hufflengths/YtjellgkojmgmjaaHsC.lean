/- The library's merge in place, where one of the two blocks is of one parcel. -/
import Derived.Test.YtjellgkojmgmjaaHsA
namespace Go.Proofs.Ytjellgkojmgmjaa
open Go.RowKit

/-- The comparison of two parcels that lie in the row, in every world of the sort. -/
theorem cmp_grown (W : World) (x y : Pv) (n : Nat) (os : Array Obj) : Calls Try.prog 48 #[.agg #[.int .i64 x.wt, .slice (some ⟨x.b, 0, none⟩) x.n x.c], .agg #[.int .i64 y.wt, .slice (some ⟨y.b, 0, none⟩) y.n y.c]] (Sort.grow (W.drewN n) os) fun e w' => e = .returned (.int .i64 (cmpW x y)) ∧ ∃ q os', w' = Sort.grow ((Sort.grow (W.drewN n) os).drewN q) os' := by
  refine (closure_any x y _).mono ?_
  rintro e w' ⟨he, os', hw⟩
  exact ⟨he, 0, os', hw⟩
theorem cmpW_lt (x y : Pv) : cmpW x y < 0 ↔ x.wt < y.wt := by
  unfold cmpW
  by_cases h1 : x.wt < y.wt
  · simp [h1]
  · by_cases h2 : y.wt < x.wt <;> simp [h1, h2]
/-- The row's cells in every world of the sort. -/
theorem pv_grown {w0 W : World} {blk : Nat} {d0 dk : Array Pv} (R : RowK Pv.enc 2 w0 blk 0 d0) (S : SWK Pv.enc 2 w0 blk 0 dk W) (hs : dk.size = d0.size) (i : Nat) (hi : i < dk.size) :
    (∀ n os, (Sort.grow (W.drewN n) os).cell? ⟨blk, i * 2, none⟩ = some (.int .i64 dk[i]!.wt)) ∧ (∀ n os, (Sort.grow (W.drewN n) os).cell? ⟨blk, i * 2 + 1, none⟩ = some (.slice (some ⟨dk[i]!.b, 0, none⟩) dk[i]!.n dk[i]!.c)) :=
  ⟨fun n os => (pv_cells ((S.grown n os).holds R.hblk R.hH hs) i hi).1, fun n os => (pv_cells ((S.grown n os).holds R.hblk R.hH hs) i hi).2.2.1⟩
set_option maxHeartbeats 8000000 in
set_option maxRecDepth 1000000 in
theorem sym_left (blk cap a m b : Nat) (d0 d : Array Pv) (w0 w : World) (R : RowK Pv.enc 2 w0 blk 0 d0) (hs : d0.size = d.size) (S : SWK Pv.enc 2 w0 blk 0 d w) (ha : a + 1 = m) (hb : m < b) (hz : b ≤ d.size) (hsz : d.size ≤ 1000000) (hR : StR d m b) :
    Calls Try.prog 55 #[.slice (some ⟨blk, 0, none⟩) d.size cap, .int .i64 a, .int .i64 m, .int .i64 b, .func (.func 48) #[] #[]] w fun e w' =>
      e = .returned (.tuple #[]) ∧ ∃ e', Mrg d e' a b ∧ SWK Pv.enc 2 w0 blk 0 e' w' := by
  have mixed : Try.prog.follows .mixedOrders = true := by kernel_rfl
  have eg := enters_of Try.func48 (by kernel_rfl) rfl
  have S0 : Aside (SWK Pv.enc 2 w0 blk 0 d w) := S
  have HR : Aside (RowK Pv.enc 2 w0 blk 0 d0) := R
  have HS : Hid (StR d m b) := hR
  have q1 : (m : Int) - (a : Int) = 1 := by omega
  have HM : Hid (a + 1 = m) := ha
  have hm1 : a < m := by omega
  have hm2 : m ≤ a + 1 := by omega
  clear S R hR ha
  go_enter Try.func55, Try.ntmps55
  go_wp2
  go_loopw [10, 11] (fun vi vj wr => ∃ i j : Nat, vi = .int .i64 i ∧ vj = .int .i64 j ∧ m ≤ i ∧ i ≤ j ∧ j ≤ b ∧ Aside (SWK Pv.enc 2 w0 blk 0 d wr) ∧ Hid (∀ t, m ≤ t → t < i → d[t]!.wt ≤ d[a]!.wt) ∧ Hid (∀ t, j ≤ t → t < b → d[a]!.wt ≤ d[t]!.wt)) (fun vi vj _ => (intOf vj).toNat - (intOf vi).toNat)
  case atStart => exact ⟨m, b, rfl, rfl, Nat.le_refl _, by omega, Nat.le_refl _, S0, fun t h1 h2 => absurd h2 (by omega), fun t h1 h2 => absurd h2 (by omega)⟩
  case round =>
    clear S0
    obtain ⟨i, j, rfl, rfl, hi, hij, hj, SK, HL, HH⟩ := hrel
    by_cases hlt : i < j
    · obtain ⟨h, hh⟩ : ∃ h : Nat, h = (i + j) / 2 := ⟨_, rfl⟩
      have hh1 : i ≤ h := by omega
      have hh2 : h < j := by omega
      have eh : ((i : Int) + (j : Int)) / 2 = (h : Int) := by omega
      clear hh
      have ea : ((h : Int)).toNat = h := by omega
      have pa : (0 : Int) ≤ (h : Int) := by omega
      have ba : (h : Int) < (d.size : Int) := by omega
      have ra : IntKind.i64.wrap ((h : Int)) = (h : Int) := by rw [IntKind.wrap_i64]; omega
      have ec : ((a : Int)).toNat = a := by omega
      have pc : (0 : Int) ≤ (a : Int) := by omega
      have bc : (a : Int) < (d.size : Int) := by omega
      have rc : IntKind.i64.wrap ((a : Int)) = (a : Int) := by rw [IntKind.wrap_i64]; omega
      obtain ⟨c1, c2⟩ := pv_grown HR.out SK.out (by omega) h (by omega)
      obtain ⟨c3, c4⟩ := pv_grown HR.out SK.out (by omega) a (by omega)
      have hc := cmp_grown wr d[h]! d[a]!
      have HV : Hid (cmpW d[h]! d[a]! < 0 ↔ d[h]!.wt < d[a]!.wt) := cmpW_lt _ _
      generalize cmpW d[h]! d[a]! = V at hc HV
      obtain ⟨x, hx⟩ : ∃ x, x = d[h]! := ⟨_, rfl⟩
      obtain ⟨y, hy⟩ : ∃ y, y = d[a]! := ⟨_, rfl⟩
      rw [← hx] at c1 c2 hc
      rw [← hy] at c3 c4 hc
      have HX : Hid (x = d[h]!) := hx
      have HY : Hid (y = d[a]!) := hy
      clear hx hy
      by_cases hv : V < 0
      · go_wp2
        go_quiet_grown (first | (go_at_call 48; refine Calls.grown_of (hc _ _)))
        have SV : Aside (SWK Pv.enc 2 w0 blk 0 d (Sort.grow (wr.drewN nq) osq)) := SK.out.grown nq osq
        clear c1 c2 c3 c4 hc SK
        generalize Sort.grow (wr.drewN nq) osq = wv at SV ⊢
        clear nq osq
        go_wp2
        go_roundw
        case rel =>
          have hl := HV.out.1 hv
          refine ⟨h + 1, j, by go_num, rfl, by omega, by omega, hj, SV, fun t h1 h2 => ?_, HH⟩
          have := stR_le HS.out t h h1 (by omega) (by omega)
          omega
        case measure => simp [intOf]; omega
      · go_wp2
        go_quiet_grown (first | (go_at_call 48; refine Calls.grown_of (hc _ _)))
        have SV : Aside (SWK Pv.enc 2 w0 blk 0 d (Sort.grow (wr.drewN nq) osq)) := SK.out.grown nq osq
        clear c1 c2 c3 c4 hc SK
        generalize Sort.grow (wr.drewN nq) osq = wv at SV ⊢
        clear nq osq
        go_wp2
        go_roundw
        case rel =>
          have hl : ¬ d[h]!.wt < d[a]!.wt := fun g => by have := HV.out.2 g; omega
          refine ⟨i, h, rfl, rfl, hi, hh1, by omega, SV, HL, fun t h1 h2 => ?_⟩
          have := stR_le HS.out h t (by omega) h1 h2
          omega
        case measure => simp [intOf]; omega
    · obtain rfl : i = j := by omega
      obtain ⟨u, hu⟩ : ∃ u : Nat, u + 1 = i := ⟨i - 1, by omega⟩
      have eu : (i : Int) - 1 = (u : Int) := by omega
      have hu1 : a ≤ u := by omega
      have hu2 : u < b := by omega
      have HU : Hid (u + 1 = i) := hu
      clear hu
      go_wp2
      go_loopw [13] (fun vk wr => ∃ k : Nat, ∃ dk : Array Pv, vk = .int .i64 k ∧ a ≤ k ∧ k ≤ u ∧ dk.size = d.size ∧ Aside (SWK Pv.enc 2 w0 blk 0 dk wr) ∧ Hid (Sort.PermIn a b d dk) ∧ Hid (∀ t, dk[t]! = rotAt d a (a + 1) (k + 1) t)) (fun vk _ => u - (intOf vk).toNat)
      case atStart => exact ⟨a, d, rfl, Nat.le_refl _, hu1, rfl, SK, Sort.permIn_refl _ _ _, fun t => (rotAt_none d (Or.inr rfl) (by omega) (Nat.le_refl _) t).symm⟩
      case round =>
        clear SK
        rename_i wr1 _
        obtain ⟨k, dk, rfl, hk, hku, hds, SK, HP, HT⟩ := hrel
        by_cases hlk : k < u
        · have S2 : Aside (SWK Pv.enc 2 w0 blk 0 (Sort.swp dk k (k + 1)) _) := SK.out.swapped HR.out k (k + 1) (by omega) (by omega)
          have hH := SK.out.holds HR.out.hblk HR.out.hH (by omega)
          obtain ⟨c1, f1, c2, f2⟩ := pv_cells hH k (by omega)
          obtain ⟨c3, f3, c4, f4⟩ := pv_cells hH (k + 1) (by omega)
          unfold Pv.enc at S2
          clear hH SK
          generalize hxx : dk[k]! = x at S2 c1 c2
          generalize hyy : dk[k + 1]! = y at S2 c3 c4
          clear hxx hyy
          obtain ⟨xw, xb, xn, xc⟩ := x
          obtain ⟨yw, yb, yn, yc⟩ := y
          have e1 : ((k : Int)).toNat = k := by omega
          have e2 : (0 : Int) ≤ (k : Int) := by omega
          have e3 : (k : Int) < (d.size : Int) := by omega
          have e4 : IntKind.i64.wrap ((k : Int)) = (k : Int) := by rw [IntKind.wrap_i64]; omega
          have e5 : ((k : Int) + 1).toNat = k + 1 := by omega
          have e6 : (0 : Int) ≤ (k : Int) + 1 := by omega
          have e7 : (k : Int) + 1 < (d.size : Int) := by omega
          have e8 : IntKind.i64.wrap ((k : Int) + 1) = (k : Int) + 1 := by rw [IntKind.wrap_i64]; omega
          have n1 : (k + 1) * 2 ≠ k * 2 := by omega
          have n2 : (k + 1) * 2 ≠ k * 2 + 1 := by omega
          have n3 : (k + 1) * 2 + 1 ≠ k * 2 := by omega
          have n4 : (k + 1) * 2 + 1 ≠ k * 2 + 1 := by omega
          simp only [Nat.zero_add] at S2
          go_wp2
          go_big_region_o
          go_wp2
          go_roundw
          case rel => exact ⟨k + 1, Sort.swp dk k (k + 1), by go_num, by omega, by omega, by rw [Sort.size_swp, hds], S2, Sort.permIn_trans _ _ _ _ _ HP.out (Sort.swp_permIn _ _ _ _ _ hk (by omega) (by omega) (by omega) (by omega)), rot_up d a k hk dk HT.out hds (by omega)⟩
          case measure => simp [intOf]; omega
        · obtain rfl : k = u := by omega
          go_wp2
          refine bodyPost_ret (results_none rfl _ _ _) rfl ?_
          refine ⟨rfl, dk, ⟨HP.out, ?_⟩, SK.out⟩
          have hm : m = a + 1 := by omega
          subst hm
          exact ins_left d dk a b i hi hj HS.out HL.out HH.out (by rw [← HU.out]; exact HT.out)
set_option maxHeartbeats 8000000 in
set_option maxRecDepth 1000000 in
theorem sym_right (blk cap a m b : Nat) (d0 d : Array Pv) (w0 w : World) (R : RowK Pv.enc 2 w0 blk 0 d0) (hs : d0.size = d.size) (S : SWK Pv.enc 2 w0 blk 0 d w) (ha : a + 1 < m) (hb : m + 1 = b) (hz : b ≤ d.size) (hsz : d.size ≤ 1000000) (hR : StR d a m) :
    Calls Try.prog 55 #[.slice (some ⟨blk, 0, none⟩) d.size cap, .int .i64 a, .int .i64 m, .int .i64 b, .func (.func 48) #[] #[]] w fun e w' =>
      e = .returned (.tuple #[]) ∧ ∃ e', Mrg d e' a b ∧ SWK Pv.enc 2 w0 blk 0 e' w' := by
  have mixed : Try.prog.follows .mixedOrders = true := by kernel_rfl
  have S0 : Aside (SWK Pv.enc 2 w0 blk 0 d w) := S
  have HR : Aside (RowK Pv.enc 2 w0 blk 0 d0) := R
  have HS : Hid (StR d a m) := hR
  have q0 : ((m : Int) - (a : Int) == 1) = false := by rw [beq_eq_false_iff_ne]; omega
  have q1 : (b : Int) - (m : Int) = 1 := by omega
  have HM : Hid (m + 1 = b) := hb
  have hm1 : m < b := by omega
  have hm2 : b ≤ m + 1 := by omega
  clear S R hR hb
  go_enter Try.func55, Try.ntmps55
  go_wp2
  go_loopw [14, 15] (fun vi vj wr => ∃ i j : Nat, vi = .int .i64 i ∧ vj = .int .i64 j ∧ a ≤ i ∧ i ≤ j ∧ j ≤ m ∧ Aside (SWK Pv.enc 2 w0 blk 0 d wr) ∧ Hid (∀ t, a ≤ t → t < i → d[t]!.wt ≤ d[m]!.wt) ∧ Hid (∀ t, j ≤ t → t < m → d[m]!.wt ≤ d[t]!.wt)) (fun vi vj _ => (intOf vj).toNat - (intOf vi).toNat)
  case atStart => exact ⟨a, m, rfl, rfl, Nat.le_refl _, by omega, Nat.le_refl _, S0, fun t h1 h2 => absurd h2 (by omega), fun t h1 h2 => absurd h2 (by omega)⟩
  case round =>
    clear S0
    obtain ⟨i, j, rfl, rfl, hi, hij, hj, SK, HL, HH⟩ := hrel
    by_cases hlt : i < j
    · obtain ⟨h, hh⟩ : ∃ h : Nat, h = (i + j) / 2 := ⟨_, rfl⟩
      have hh1 : i ≤ h := by omega
      have hh2 : h < j := by omega
      have eh : ((i : Int) + (j : Int)) / 2 = (h : Int) := by omega
      clear hh
      have ea : ((h : Int)).toNat = h := by omega
      have pa : (0 : Int) ≤ (h : Int) := by omega
      have ba : (h : Int) < (d.size : Int) := by omega
      have ra : IntKind.i64.wrap ((h : Int)) = (h : Int) := by rw [IntKind.wrap_i64]; omega
      have ec : ((m : Int)).toNat = m := by omega
      have pc : (0 : Int) ≤ (m : Int) := by omega
      have bc : (m : Int) < (d.size : Int) := by omega
      have rc : IntKind.i64.wrap ((m : Int)) = (m : Int) := by rw [IntKind.wrap_i64]; omega
      obtain ⟨c1, c2⟩ := pv_grown HR.out SK.out (by omega) m (by omega)
      obtain ⟨c3, c4⟩ := pv_grown HR.out SK.out (by omega) h (by omega)
      have hc := cmp_grown wr d[m]! d[h]!
      have HV : Hid (cmpW d[m]! d[h]! < 0 ↔ d[m]!.wt < d[h]!.wt) := cmpW_lt _ _
      generalize cmpW d[m]! d[h]! = V at hc HV
      obtain ⟨x, hx⟩ : ∃ x, x = d[m]! := ⟨_, rfl⟩
      obtain ⟨y, hy⟩ : ∃ y, y = d[h]! := ⟨_, rfl⟩
      rw [← hx] at c1 c2 hc
      rw [← hy] at c3 c4 hc
      have HX : Hid (x = d[m]!) := hx
      have HY : Hid (y = d[h]!) := hy
      clear hx hy
      by_cases hv : V < 0
      · have hd : decide (V < 0) = true := decide_eq_true hv
        go_wp2
        go_quiet_grown (first | (go_at_call 48; refine Calls.grown_of (hc _ _)))
        have SV : Aside (SWK Pv.enc 2 w0 blk 0 d (Sort.grow (wr.drewN nq) osq)) := SK.out.grown nq osq
        clear c1 c2 c3 c4 hc SK
        generalize Sort.grow (wr.drewN nq) osq = wv at SV ⊢
        clear nq osq
        go_wp2
        go_roundw
        case rel =>
          have hl := HV.out.1 hv
          refine ⟨i, h, rfl, rfl, hi, hh1, by omega, SV, HL, fun t h1 h2 => ?_⟩
          have := stR_le HS.out h t (by omega) h1 h2
          omega
        case measure => simp [intOf]; omega
      · have hd : decide (V < 0) = false := decide_eq_false hv
        go_wp2
        go_quiet_grown (first | (go_at_call 48; refine Calls.grown_of (hc _ _)))
        have SV : Aside (SWK Pv.enc 2 w0 blk 0 d (Sort.grow (wr.drewN nq) osq)) := SK.out.grown nq osq
        clear c1 c2 c3 c4 hc SK
        generalize Sort.grow (wr.drewN nq) osq = wv at SV ⊢
        clear nq osq
        go_wp2
        go_roundw
        case rel =>
          have hl : ¬ d[m]!.wt < d[h]!.wt := fun g => by have := HV.out.2 g; omega
          refine ⟨h + 1, j, by go_num, rfl, by omega, by omega, hj, SV, fun t h1 h2 => ?_, HH⟩
          have := stR_le HS.out t h h1 (by omega) (by omega)
          omega
        case measure => simp [intOf]; omega
    · obtain rfl : i = j := by omega
      go_wp2
      go_loopw [17] (fun vk wr => ∃ k : Nat, ∃ dk : Array Pv, vk = .int .i64 k ∧ i ≤ k ∧ k ≤ m ∧ dk.size = d.size ∧ Aside (SWK Pv.enc 2 w0 blk 0 dk wr) ∧ Hid (Sort.PermIn a b d dk) ∧ Hid (∀ t, dk[t]! = rotAt d k m (m + 1) t)) (fun vk _ => (intOf vk).toNat)
      case atStart => exact ⟨m, d, rfl, hj, Nat.le_refl _, rfl, SK, Sort.permIn_refl _ _ _, fun t => (rotAt_none d (Or.inl rfl) (Nat.le_refl _) (by omega) t).symm⟩
      case round =>
        clear SK
        obtain ⟨k, dk, rfl, hk, hku, hds, SK, HP, HT⟩ := hrel
        by_cases hlk : i < k
        · obtain ⟨q, hq⟩ : ∃ q : Nat, q + 1 = k := ⟨k - 1, by omega⟩
          have hq1 : i ≤ q := by omega
          have hq2 : q < k := by omega
          have eq : (k : Int) - 1 = (q : Int) := by omega
          have HQ : Hid (q + 1 = k) := hq
          clear hq
          have S2 : Aside (SWK Pv.enc 2 w0 blk 0 (Sort.swp dk k q) _) := SK.out.swapped HR.out k q (by omega) (by omega)
          have hH := SK.out.holds HR.out.hblk HR.out.hH (by omega)
          obtain ⟨c1, f1, c2, f2⟩ := pv_cells hH k (by omega)
          obtain ⟨c3, f3, c4, f4⟩ := pv_cells hH q (by omega)
          unfold Pv.enc at S2
          clear hH SK
          generalize hxx : dk[k]! = x at S2 c1 c2
          generalize hyy : dk[q]! = y at S2 c3 c4
          clear hxx hyy
          obtain ⟨xw, xb, xn, xc⟩ := x
          obtain ⟨yw, yb, yn, yc⟩ := y
          have e1 : ((k : Int)).toNat = k := by omega
          have e2 : (0 : Int) ≤ (k : Int) := by omega
          have e3 : (k : Int) < (d.size : Int) := by omega
          have e4 : IntKind.i64.wrap ((k : Int)) = (k : Int) := by rw [IntKind.wrap_i64]; omega
          have e5 : ((q : Int)).toNat = q := by omega
          have e6 : (0 : Int) ≤ (q : Int) := by omega
          have e7 : (q : Int) < (d.size : Int) := by omega
          have e8 : IntKind.i64.wrap ((q : Int)) = (q : Int) := by rw [IntKind.wrap_i64]; omega
          have n1 : q * 2 ≠ k * 2 := by omega
          have n2 : q * 2 ≠ k * 2 + 1 := by omega
          have n3 : q * 2 + 1 ≠ k * 2 := by omega
          have n4 : q * 2 + 1 ≠ k * 2 + 1 := by omega
          simp only [Nat.zero_add] at S2
          go_wp2
          go_big_region_o
          go_wp2
          go_roundw
          case rel => exact ⟨q, Sort.swp dk k q, by go_num, by omega, by omega, by rw [Sort.size_swp, hds], S2, Sort.permIn_trans _ _ _ _ _ HP.out (Sort.swp_permIn _ _ _ _ _ (by omega) (by omega) (by omega) (by omega) (by omega)), by rw [← HQ.out]; exact rot_down d m q (by omega) dk (by rw [HQ.out]; exact HT.out) hds (by omega)⟩
          case measure => simp [intOf]; omega
        · obtain rfl : i = k := by omega
          go_wp2
          refine bodyPost_ret (results_none rfl _ _ _) rfl ?_
          refine ⟨rfl, dk, ⟨HP.out, ?_⟩, SK.out⟩
          have hm := HM.out
          subst hm
          exact ins_right d dk a m i hi hj HS.out HL.out HH.out HT.out
end Go.Proofs.Ytjellgkojmgmjaa
