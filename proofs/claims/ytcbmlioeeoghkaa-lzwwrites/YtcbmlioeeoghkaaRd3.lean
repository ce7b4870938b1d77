import Derived.Test.YtcbmlioeeoghkaaRd2
namespace Go.Proofs.Ytcbmlioeeoghkaa
open Go.RowKit

/-- One part of a number that is taken. -/
theorem take_or {zs : List Int} (hb : Bytes zs) (gone got p : Nat) (hp : (gone + got) % 8 + p ≤ 8) (hn : got + p ≤ 32) :
    bits .or .u64 (bitV zs gone % 2 ^ got) (IntKind.u64.wrap (((zs.drop ((gone + got) / 8))[0]?.getD 0) / 2 ^ ((gone + got) % 8) % 2 ^ p * 2 ^ got)) = bitV zs gone % 2 ^ (got + p) := by
  have hbd : Bytes (zs.drop ((gone + got) / 8)) := hb.drop _
  have h1 := bitV_low hbd ((gone + got) % 8) p hp
  rw [bitV_pass hb] at h1
  rw [← h1, emod_split]
  have e : (2 : Int) ^ got = ((2 ^ got : Nat) : Int) := by rw [Int.natCast_pow]; rfl
  have ep : (2 : Int) ^ p = ((2 ^ p : Nat) : Int) := by rw [Int.natCast_pow]; rfl
  have q1 : (2 : Nat) ^ got * 2 ^ p ≤ 2 ^ 32 := by rw [← Nat.pow_add]; exact Nat.pow_le_pow_right (by omega) hn
  have q2 : (2 : Nat) ^ got ≤ 2 ^ 32 := Nat.pow_le_pow_right (by omega) (by omega)
  have x0 := Int.emod_nonneg (bitV zs gone / 2 ^ got) (show (2 : Int) ^ p ≠ 0 by have := two_pos p; omega)
  have x1 := Int.emod_lt_of_pos (bitV zs gone / 2 ^ got) (two_pos p)
  have y0 := Int.emod_nonneg (bitV zs gone) (show (2 : Int) ^ got ≠ 0 by have := two_pos got; omega)
  have y1 := Int.emod_lt_of_pos (bitV zs gone) (two_pos got)
  generalize bitV zs gone / 2 ^ got % 2 ^ p = x at *
  generalize bitV zs gone % 2 ^ got = y at *
  have hx : x * ((2 ^ got : Nat) : Int) ≤ ((2 ^ p * 2 ^ got : Nat) : Int) := by
    rw [Int.natCast_mul]
    exact Int.mul_le_mul_of_nonneg_right (by rw [← ep]; omega) (by omega)
  rw [Nat.mul_comm] at q1
  rw [e]
  refine or_gen y x got _ rfl y0 (by rw [← e]; exact y1) x0 ?_ ?_
  · generalize (2 ^ p * 2 ^ got : Nat) = u at *
    omega
  · omega

theorem lowest_int (v m : Int) (n : Nat) (w : World) (hm : m = (n : Int)) (h0 : 0 ≤ v) (h1 : v < 18446744073709551616) (hn : n ≤ 32) :
    Calls Try.prog 53 #[.int .u64 v, .int .i64 m] w fun e w' => e = .returned (.int .u64 (v % 2 ^ n)) ∧ w' = w := by subst hm; exact lowest_any v n w h0 h1 hn
theorem mod_bound (X : Int) (n : Nat) (hn : n ≤ 32) : 0 ≤ X % 2 ^ n ∧ X % 2 ^ n < 4294967297 := by
  have hp := two_pos n
  have e : (2 : Int) ^ n = ((2 ^ n : Nat) : Int) := by rw [Int.natCast_pow]; rfl
  have q2 : (2 : Nat) ^ n ≤ 2 ^ 32 := Nat.pow_le_pow_right (by omega) hn
  refine ⟨Int.emod_nonneg _ (by omega), ?_⟩
  have := Int.emod_lt_of_pos X hp
  rw [e] at this ⊢
  omega

set_option maxHeartbeats 1600000 in
theorem take_yes (r : Nat) (g : Option Nat) (zs : List Int) (gone n : Nat) (w : World) (h : Rd w r g zs gone) (hb : Bytes zs) (hl : zs.length ≤ 140737488355328) (hg : gone < 8) (hn : n ≤ 32) (hh : gone + n ≤ 8 * zs.length) :
    Calls Try.prog 40 #[.pointer (some ⟨r, 0, none⟩), .int .i64 n] w fun e w' => TakePost w r g (bitV zs gone % 2 ^ n) (zs.drop ((gone + n) / 8)) ((gone + n) % 8) e w' := by
  have C := have_any r g zs gone w h hl hg
  have HR : Hid (Rd w r g zs gone) := h
  have HB : Hid (Bytes zs) := hb
  clear h hb
  have h1 : (n : Int) ≤ (zs.length : Int) * 8 - gone := by omega
  go_enter Try.func40, Try.ntmps40
  go_wp2_with (go_at_call 52; refine C.mono ?_; rintro e w' ⟨rfl, nn, rfl⟩; clear C)
  go_loopw [6, 7, 8] (fun v t _ wr => ∃ got : Nat, got ≤ n ∧ t = .int .i64 got ∧ v = .int .u64 (bitV zs gone % 2 ^ got) ∧ Rd wr r g (zs.drop ((gone + got) / 8)) ((gone + got) % 8) ∧ Fr w wr r g) (fun _ t _ _ => n - (intOf t).toNat)
  case atStart =>
    refine ⟨0, Nat.zero_le _, rfl, by simp, ?_, (Fr.refl w r g).drewN nn⟩
    rw [show (gone + 0) / 8 = 0 by omega, show (gone + 0) % 8 = gone by omega]
    exact HR.out.drewN nn
  case round =>
    obtain ⟨got, hgot, rfl, rfl, hrd, hfr⟩ := hrel
    by_cases hlt : got < n
    · have hzl : (zs.drop ((gone + got) / 8)).length = zs.length - (gone + got) / 8 := by simp
      have hz0 : 0 < zs.length - (gone + got) / 8 := by omega
      have hbd : Bytes (zs.drop ((gone + got) / 8)) := HB.out.drop _
      have HRD : Hid (Rd wr r g (zs.drop ((gone + got) / 8)) ((gone + got) % 8)) := hrd
      obtain ⟨v, hh', hs⟩ := hrd
      obtain ⟨av, cv, hv, hl1, hl2, hl3⟩ := hs.shape
      subst hv
      rw [vals_len, hzl] at hh' hs hl1
      have hne : ∃ b off, av = some ⟨b, off, none⟩ := by
        rcases hs with ⟨_, _, hx⟩ | ⟨b, off, c, cur, h, _⟩
        · have := congrArg List.length hx
          rw [vals_len, hzl] at this
          simp at this; omega
        · simp only [Value.slice.injEq] at h; exact ⟨b, off, h.1⟩
      obtain ⟨b, off, rfl⟩ := hne
      have hck : wr.cell? ⟨b, off, none⟩ = some (.int .u8 ((zs.drop ((gone + got) / 8))[0]?.getD 0)) := by
        have := hs.cell 0 (by rw [vals_len, hzl]; omega)
        rw [Nat.add_zero] at this
        rw [this, vals_at _ _ (by rw [hzl]; omega)]
      have hzb := hbd.at 0
      obtain ⟨q0, q1, _, _⟩ := two_cells hh'
      have HT : Hid (∀ p, (gone + got) % 8 + p ≤ 8 → got + p ≤ 32 → bits .or .u64 (bitV zs gone % 2 ^ got) (IntKind.u64.wrap (((zs.drop ((gone + got) / 8))[0]?.getD 0) / 2 ^ ((gone + got) % 8) % 2 ^ p * 2 ^ got)) = bitV zs gone % 2 ^ (got + p)) := fun p h1 h2 => take_or HB.out gone got p h1 h2
      have PS : Hid (∀ (m : Int) (p : Nat) (wx : World), m = (p : Int) → Rd wx r g (zs.drop ((gone + got) / 8)) ((gone + got) % 8) → p ≤ 8 → (gone + got) % 8 + p ≤ 8 * (zs.length - (gone + got) / 8) → Calls Try.prog 54 #[.pointer (some ⟨r, 0, none⟩), .int .i64 m] wx fun e w' => PassPost wx r g (zs.drop ((gone + (got + p)) / 8)) ((gone + (got + p)) % 8) e w') := by
        intro m p wx hm hx h1 h2
        subst hm
        have := pass_any r g _ _ p wx hx (by rw [hzl]; omega) (by omega) (by rw [hzl]; exact h2) h1
        rw [List.drop_drop, show (gone + got) / 8 + ((gone + got) % 8 + p) / 8 = (gone + (got + p)) / 8 by omega, show ((gone + got) % 8 + p) % 8 = (gone + (got + p)) % 8 by omega] at this
        exact this
      generalize hz : (zs.drop ((gone + got) / 8))[0]?.getD 0 = z at *
      generalize hj : (gone + got) % 8 = j at *
      have HJ : Hid _ := hj
      have hj8 : j < 8 := by omega
      generalize hV : bitV zs gone % 2 ^ got = V at *
      clear hz hV hh' hs hl1 hl2 hl3 hbd hzl hj
      have hdb := div_byte z j hzb.1 hzb.2
      have hgj : j + 8 * ((gone + got) / 8) = gone + got := by have := HJ.out; omega
      have HGJ : Hid (j + 8 * ((gone + got) / 8) = gone + got) := hgj
      clear hgj
      by_cases hmn : (n : Int) - got ≤ 8 - j
      · obtain ⟨p, hp⟩ : ∃ p : Nat, (n : Int) - got = p := ⟨n - got, by omega⟩
        have HPP : Hid ((n : Int) - got = p) := hp
        clear hp
        go_wp2
        go_quiet ((go_at_call 53; exact Calls.quiet_of_same (lowest_int _ _ p _ HPP.out hdb.1 (by omega) (by have := HPP.out; omega))))
        go_wp2_with (go_at_call 54; refine (PS.out _ p _ HPP.out (HRD.out.drewN _) (by have := HPP.out; omega) (by have := HPP.out; have := HGJ.out; omega)).mono ?_; rintro e w2 ⟨rfl, hr2, hf2⟩)
        go_roundw
        case rel => exact ⟨got + p, by have := HPP.out; omega, congrArg (Value.int .i64) (by have := HPP.out; omega), congrArg (Value.int .u64) (HT.out p (by have := HPP.out; omega) (by have := HPP.out; omega)), hr2, (hfr.drewN _).trans hf2 (.inl rfl)⟩
        case measure => have := HPP.out; simp [intOf]; omega
      · obtain ⟨p, hp⟩ : ∃ p : Nat, 8 - (j : Int) = p := ⟨8 - j, by omega⟩
        have HPP : Hid (8 - (j : Int) = p) := hp
        clear hp
        go_wp2
        go_quiet ((go_at_call 53; exact Calls.quiet_of_same (lowest_int _ _ p _ HPP.out hdb.1 (by omega) (by have := HPP.out; omega))))
        go_wp2_with (go_at_call 54; refine (PS.out _ p _ HPP.out (HRD.out.drewN _) (by have := HPP.out; omega) (by have := HPP.out; have := HGJ.out; omega)).mono ?_; rintro e w2 ⟨rfl, hr2, hf2⟩)
        go_roundw
        case rel => exact ⟨got + p, by have := HPP.out; omega, congrArg (Value.int .i64) (by have := HPP.out; omega), congrArg (Value.int .u64) (HT.out p (by have := HPP.out; omega) (by have := HPP.out; omega)), hr2, (hfr.drewN _).trans hf2 (.inl rfl)⟩
        case measure => have := HPP.out; simp [intOf]; omega
    · have : got = n := by omega
      subst this
      have hvb := mod_bound (bitV zs gone) got hn
      go_wp2
      go_ret2
      exact ⟨rfl, hrd, hfr⟩
end Go.Proofs.Ytcbmlioeeoghkaa
