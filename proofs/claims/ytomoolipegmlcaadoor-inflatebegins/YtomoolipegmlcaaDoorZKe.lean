/- What a beginning of bytes tells. -/
import Derived.Test.YtomoolipegmlcaaDoorZr
namespace Go.Proofs.YtomoolipegmlcaaDoor
open Go.RowKit
/-- What the first bytes tell, and what all tell. -/
theorem runs_begin {lim : Nat} {A : List Int} {k : Nat} {r r' : Og} (h : Runs lim St.start (bitsL (A.take k)) r) (h' : Runs lim St.start (bitsL A) r') : r.out <+: r'.out ∧ (r.err = 0 ∨ r = r') := by
  have e : bitsL A = bitsL (A.take k) ++ bitsL (A.drop k) := by rw [← bitsL_append, List.take_append_drop]
  rw [e] at h'
  have hm := h.more (bitsL_m8 (A.drop k)) (bitsL_bit _) inv_start
  cases r with
  | stop s l =>
    obtain ⟨q, hq⟩ := Runs.total (lim := lim) (2 * (l ++ bitsL (A.drop k)).length + rk s + 1) s (l ++ bitsL (A.drop k)) (by omega) (by
      obtain ⟨_, n, _, hn⟩ := h.kept (bitsL_bit _) inv_start s l rfl
      rw [hn]
      exact ((bitsL_bit _).drop n).append (bitsL_bit _)) (h.kept (bitsL_bit _) inv_start s l rfl).1
    have e2 : q = r' := (hm.1 s l rfl q hq).det h'
    subst e2
    exact ⟨hq.pre, .inl rfl⟩
  | fail er out =>
    have e2 := (hm.2 er out rfl).det h'
    subst e2
    exact ⟨List.prefix_refl _, .inr rfl⟩
set_option maxHeartbeats 3200000 in
set_option maxRecDepth 20000 in
theorem ibegins_walk (a : Option Addr) (len cap : Nat) (l : Int) (w : World) (hord : Ord w) (ha : BArg w a len cap) (wl : (Lit.int .u16 l).wf = true) :
    Calls Tryd.prog 7 #[.slice a len cap, .int .u16 l] w fun e w' => e = .returned (.bool true) ∧ Below w.heap.size w w' := by
  have hl := bounds_u16 wl
  clear wl
  obtain ⟨m, rfl⟩ : ∃ m : Nat, l = (m : Int) := ⟨l.toNat, by omega⟩
  obtain ⟨A, hA, rfl, hn, hc, hc0, hAr⟩ := ha
  have HA : Hid (Bytes A ∧ Row w a A ∧ (a = none → cap = 0) ∧ Ord w) := ⟨hA, hAr, hc0, hord⟩
  clear hA hAr hc0 hord
  by_cases hbig : 2000 < (A.length : Int)
  · go_enter Tryd.func7, Tryd.ntmps7
    go_wp2_with (go_at_call 9; refine (fixed_any _ HA.out.2.2.2).mono ?_; rintro e w1 ⟨rfl, hbel⟩)
    go_ret
    exact ⟨rfl, hbel⟩
  obtain ⟨k, hk⟩ : ∃ k : Nat, m % (A.length + 1) = k := ⟨_, rfl⟩
  have hkl : k ≤ A.length := by have := Nat.mod_lt m (show 0 < A.length + 1 by omega); omega
  have hki : (m : Int) % ((A.length : Int) + 1) = (k : Int) := by rw [← hk]; rfl
  have hkt : (m : Int).tmod ((A.length : Int) + 1) = (k : Int) := by rw [Int.tmod_eq_emod_of_nonneg (by omega), hki]
  have hkc : k ≤ cap := by omega
  have hne : ((A.length : Int) + 1 == 0) = false := by simp; omega
  clear hk
  go_enter Tryd.func7, Tryd.ntmps7
  go_wp2_with fail
  refine (fixed_any _ HA.out.2.2.2).mono ?_
  rintro e w1 ⟨rfl, b1⟩
  have HO1 : Hid (Ord w1) := HA.out.2.2.2.below b1 HA.out.2.2.2.pos
  have HB1 : Hid (Below w.heap.size w w1) := b1
  have HP1 := all_zero a cap (A.take k) 5000 w1 ((HA.out.2.1.old b1).take k) (HA.out.1.take k) (by rw [List.length_take]; omega) hc HA.out.2.2.1 (by rw [List.length_take]; omega) (by decide) HO1.out
  rw [show (A.take k).length = k by rw [List.length_take]; omega] at HP1
  clear b1
  go_wp2_with fail
  refine HP1.mono ?_
  rintro e w2 hp
  obtain ⟨r, o, d, ax, cx, L, rfl, hd, hL, hr, hrow, hle, hcx, b2⟩ := hp.open
  have H2 : Hid (Runs 5000 St.start (bitsL (A.take k)) r ∧ Row w2 ax r.out) := ⟨hr, hrow⟩
  have HB2 : Hid (Below w.heap.size w w2) := HB1.out.trans (b2.mono HB1.out.size)
  have HO2 : Hid (Ord w2) := HA.out.2.2.2.below HB2.out HA.out.2.2.2.pos
  have HP2 := all_zero a cap A 5000 w2 (HA.out.2.1.old HB2.out) HA.out.1 hn hc HA.out.2.2.1 (by omega) (by decide) HO2.out
  obtain ⟨ER, hER⟩ : ∃ ER, r.err = ER := ⟨_, rfl⟩
  have HER : Hid (r.err = ER) := hER
  obtain ⟨Z, hZ⟩ : ∃ Z, r.out.length = Z := ⟨_, rfl⟩
  have HZ : Hid (r.out.length = Z) := hZ
  have hZl : Z ≤ 5000 := by omega
  rw [hER, hZ]
  clear HP1 hp hd hL hr hrow b2 HB1 HO1 hER hZ hle hcx
  go_wp2_with fail
  refine HP2.mono ?_
  rintro e w3 hp
  obtain ⟨r2, o2, d2, ay, cy, L2, rfl, hd, hL, hr, hrow, hle, hcy, b3⟩ := hp.open
  obtain ⟨hpre, hcase⟩ := runs_begin H2.out.1 hr
  have hpl := hpre.length_le
  have htk : r2.out.take r.out.length = r.out := (List.prefix_iff_eq_take.1 hpre).symm
  have H3 : Hid (Row w3 ax r.out ∧ Row w3 ay (r2.out.take r.out.length)) := ⟨H2.out.2.old b3, hrow.take _⟩
  have HB3 : Hid (Below w.heap.size w w3) := HB2.out.trans (b3.mono HB2.out.size)
  obtain ⟨Y, hY⟩ : ∃ Y, r2.out.length = Y := ⟨_, rfl⟩
  obtain ⟨EF, hEF⟩ : ∃ EF, r2.err = EF := ⟨_, rfl⟩
  have hcase2 : ER = 0 ∨ (ER = EF ∧ Z = Y) := by
    rcases hcase with h | h
    · exact .inl (HER.out.symm.trans h)
    · subst h; exact .inr ⟨HER.out.symm.trans hEF, HZ.out.symm.trans hY⟩
  have hZY : Z ≤ Y := by rw [← hY, ← HZ.out]; exact hpl
  have hYc : Y ≤ cy := by rw [← hY]; exact hcy
  have hYl : Y ≤ 5000 := by omega
  have HSM : ∀ c, Calls Tryd.prog 14 #[.slice ax Z cx, .slice ay Z c] w3 fun e w' => e = .returned (.bool true) ∧ w' = w3 := fun c => by
    have h2 := H3.out.2
    rw [htk] at h2
    exact same_any ax ay Z cx c r.out w3 HZ.out H3.out.1 h2
  rw [hY, hEF]
  clear HP2 hp hd hL hr hrow hle hcy b3 H2 HB2 HO2 hpre hcase hpl htk hY hEF H3
  go_wp2_with fail
  refine (HSM _).mono ?_
  rintro e w4 ⟨rfl, hw⟩
  rw [hw]
  clear hw HSM
  rcases hcase2 with h | ⟨h1, h2⟩
  · subst h
    go_wp2
    go_ret
    exact ⟨rfl, HB3.out⟩
  · subst h1 h2
    by_cases h0 : ER = 0
    · subst h0
      go_wp2
      go_ret
      exact ⟨rfl, HB3.out⟩
    · have hb0 : (ER == 0) = false := by simpa using h0
      go_wp2
      go_ret
      exact ⟨rfl, HB3.out⟩
end Go.Proofs.YtomoolipegmlcaaDoor
