/- LzwNil: a nil decoder tells nothing; one of least bits that may not be refuses. -/
import Derived.Test.YtcbmlioeeoghkaaLzW
namespace Go.Proofs.Ytcbmlioeeoghkaa
open Go.RowKit
set_option maxHeartbeats 1600000 in
set_option maxRecDepth 20000 in
theorem lnil_walk (a : Option Addr) (len cap : Nat) (l : Int) (w : World) (_ : BArg w a len cap) (wl : (Lit.int .i64 l).wf = true) :
    Calls Try.prog 8 #[.slice a len cap, .int .i64 l] w fun e w' => e = .returned (.bool true) ∧ Below w.heap.size w w' := by
  have hl := bounds_i64 wl
  clear wl
  go_enter Try.func8, Try.ntmps8
  go_wp2_with fail
  refine (lfixed_any w).mono ?_
  rintro e w1 ⟨rfl, b1⟩
  have HB1 : Hid (Below w.heap.size w w1) := b1
  clear b1
  go_wp2_with fail
  refine (lpush_nil _ w1).mono ?_
  rintro e w' ⟨rfl, rfl⟩
  by_cases hv : 2 ≤ l ∧ l ≤ 8
  · obtain ⟨L, rfl⟩ : ∃ L : Nat, l = (L : Int) := ⟨l.toNat, by omega⟩
    have hL : 2 ≤ L ∧ L ≤ 8 := by omega
    go_wp2_with fail
    refine (lnew_yes hL 1000 (by decide) _).mono ?_
    rintro e w2 ⟨S, rfl, hm2, hb2⟩
    have C3 := lpush_any hL hm2 [] none 0 0 rfl (fun _ => rfl) (.inl rfl) (fun x hx => by cases hx) (fun _ => by show 0 + 0 ≤ _; decide) (fun _ => by show 0 + 0 ≤ _; decide)
    have HB2 : Hid (Below w.heap.size w w2 ∧ ∀ k, S k → w.heap.size ≤ k) := ⟨HB1.out.trans (hb2.mono HB1.out.size), fun k hk => Nat.le_trans HB1.out.size (hm2.sb k hk).1⟩
    clear hm2 hb2
    go_wp2_with fail
    refine C3.mono ?_
    clear C3
    rintro e w3 ⟨s', S', T, tv, tg, rfl, hs', hT, hm3, hl3, hg3, hS3, hf3⟩
    have he : s' = lz0 1000 := by
      have h0 : lzS L (lz0 1000) = none := by
        unfold lzS
        rw [if_pos]
        have := (widN_le L (fcN L + 0) hL.2).1
        show 8 * 0 < 0 + widN L (fcN L + 0)
        omega
      rw [hs']
      show lzG L ((lz0 1000).fed []) = _
      rw [fed_nil, lzG_stop (.inr h0)]
    rw [he] at hT ⊢
    obtain rfl : T = [] := by
      have : (lz0 1000).out = (lz0 1000).out ++ T := hT
      simpa [lz0] using this.symm
    obtain ⟨a3, c3, hv3, -⟩ := hl3.shape
    rw [vals_len] at hv3
    simp only [List.length_nil] at hv3
    subst hv3
    have HB3 : Hid (Below w.heap.size w w3) := ⟨hf3.os.trans HB2.out.1.os, hf3.tape.trans HB2.out.1.tape, hf3.output.trans HB2.out.1.output, Nat.le_trans HB2.out.1.size hf3.size, fun k hk => (hf3.block k (by have := HB2.out.1.size; omega) (fun e => by have := HB2.out.2 k e; omega)).trans (HB2.out.1.block k hk)⟩
    have hz : (lz0 1000).er = 0 := rfl
    rw [hz]
    have h2l : ¬ (L : Int) < 2 := by omega
    have h8l : ¬ 8 < (L : Int) := by omega
    have h2g : (2 : Int) ≤ (L : Int) := by omega
    have h8g : (L : Int) ≤ 8 := by omega
    clear hT hm3 hl3 hg3 hS3 hf3 he hs' HB2 HB1 hv hl hL
    go_wp2_with fail
    refine (ldone_nil w3).mono ?_
    rintro e w' ⟨rfl, hw'⟩
    subst w'
    go_wp2_with fail
    refine (lrest_nil _).mono ?_
    rintro e w' ⟨rfl, hw'⟩
    subst w'
    go_wp2
    all_goals
      go_ret
      exact ⟨by simp [*], HB3.out⟩
  · go_wp2_with fail
    refine (lnew_no l hv 1000 _).mono ?_
    rintro e w2 ⟨rfl, hm2, hb2⟩
    have C3 := lpush_bad hm2 hv (.slice none 0 0)
    have HB2 : Hid (Below w.heap.size w w2) := HB1.out.trans (hb2.mono HB1.out.size)
    clear hm2 hb2 HB1
    go_wp2_with fail
    refine C3.mono ?_
    clear C3
    rintro e w' ⟨rfl, hw'⟩
    subst w'
    go_wp2_with fail
    refine (ldone_nil w2).mono ?_
    rintro e w' ⟨rfl, hw'⟩
    subst w'
    go_wp2_with fail
    refine (lrest_nil _).mono ?_
    rintro e w' ⟨rfl, hw'⟩
    subst w'
    rcases (show l < 2 ∨ (¬ l < 2 ∧ 8 < l) by omega) with h | ⟨h, h'⟩
    · have h2 : ¬ 2 ≤ l := by omega
      go_wp2
      all_goals
        go_ret
        exact ⟨by simp [*], HB2.out⟩
    · have h2 : 2 ≤ l := by omega
      have h3 : ¬ l ≤ 8 := by omega
      go_wp2
      all_goals
        go_ret
        exact ⟨by simp [*], HB2.out⟩
end Go.Proofs.Ytcbmlioeeoghkaa
