import Derived.Test.YtcbmlioeeoghkaaRd
import Derived.Test.YtcbmlioeeoghkaaBitM
import Derived.BigRegion
namespace Go.Proofs.Ytcbmlioeeoghkaa
open Go.RowKit

theorem low_wrap (n : Nat) (hn : n ≤ 32) : IntKind.u64.wrap (IntKind.u64.wrap (2 ^ n) - 1) = 2 ^ n - 1 := by
  have hp : (2 : Nat) ^ n ≤ 2 ^ 32 := Nat.pow_le_pow_right (by omega) hn
  have hq := Nat.two_pow_pos n
  have e : (2 : Int) ^ n = ((2 ^ n : Nat) : Int) := by rw [Int.natCast_pow]; rfl
  rw [e, IntKind.wrap_u64, IntKind.wrap_u64]
  generalize (2 : Nat) ^ n = q at *
  omega
set_option maxHeartbeats 400000 in
theorem lowest_any (v : Int) (n : Nat) (w : World) (h0 : 0 ≤ v) (h1 : v < 18446744073709551616) (hn : n ≤ 32) :
    Calls Try.prog 53 #[.int .u64 v, .int .i64 n] w fun e w' => e = .returned (.int .u64 (v % 2 ^ n)) ∧ w' = w := by
  go_enter Try.func53, Try.ntmps53
  go_wp2
  go_ret
  exact ⟨ret_int (and_low v n h0 h1 hn _ (low_wrap n hn)), rfl⟩

theorem Sl.cut {w : World} {e : TypeId} {a : Option Addr} {n cap : Nat} {g : Option Nat} {xs : List Value} (h : Sl w e (.slice a n cap) g xs) (k : Nat) (hk : k ≤ xs.length) (hn : xs.length = n) :
    Sl w e (.slice (if cap = k then a else Option.map (fun x => x.add k) a) (n - k) (cap - k)) g (xs.drop k) := by
  cases a with
  | none =>
    rcases h with ⟨h, hg, hx⟩ | ⟨b, off, c, cur, h, _⟩
    · simp only [Value.slice.injEq, true_and] at h
      obtain ⟨h1, h2⟩ := h
      subst hx h1 h2
      simp at hk
      subst hk
      exact .inl ⟨rfl, hg, rfl⟩
    · cases h
  | some x =>
    have hx : ∃ b off, x = ⟨b, off, none⟩ := by
      rcases h with ⟨h, _⟩ | ⟨b, off, c, cur, h, _⟩
      · cases h
      · simp only [Value.slice.injEq, Option.some.injEq] at h; exact ⟨b, off, h.1⟩
    obtain ⟨b, off, rfl⟩ := hx
    have hc : xs.length ≤ cap := by
      obtain ⟨a', c', hv, h1, _⟩ := h.shape
      simp only [Value.slice.injEq] at hv
      omega
    by_cases hcap : cap = k
    · rw [if_pos hcap]
      exact h.drop k hk off (n - k) (by omega) (.inr ⟨hcap.symm, rfl⟩)
    · rw [if_neg hcap]
      have := h.drop k hk (off + k) (n - k) (by omega) (.inl ⟨by omega, rfl⟩)
      simpa [Addr.add_lit] using this

def PassPost (w : World) (r : Nat) (g : Option Nat) (zs : List Int) (gone : Nat) (e : Ending) (w' : World) : Prop :=
  e = .returned (.tuple #[]) ∧ Rd w' r g zs gone ∧ Fr w w' r g
set_option maxHeartbeats 800000 in
theorem pass_any (r : Nat) (g : Option Nat) (zs : List Int) (gone n : Nat) (w : World) (h : Rd w r g zs gone) (hl : zs.length ≤ 140737488355328) (hg : gone < 8) (hn : gone + n ≤ 8 * zs.length) (hn8 : n ≤ 8) :
    Calls Try.prog 54 #[.pointer (some ⟨r, 0, none⟩), .int .i64 n] w fun e w' => PassPost w r g (zs.drop ((gone + n) / 8)) ((gone + n) % 8) e w' := by
  have HP : Hid (g ≠ some r) := h.sep
  obtain ⟨v, hh, hs⟩ := h
  obtain ⟨av, cv, hv, hl1, hl2, hl3⟩ := hs.shape
  subst hv
  rw [vals_len] at hh hs hl1
  obtain ⟨q0, q1, f0, f1⟩ := two_cells hh
  have HH : Hid (w.heap[r]? = some (.cells #[.slice av zs.length cv, .int .i64 gone] 81 (0, 0))) := hh
  have HS : Hid (Sl w 5 (.slice av zs.length cv) g (vals zs)) := hs
  clear hh hs
  unfold maxLen at hl2
  go_enter Try.func54, Try.ntmps54
  go_wp2
  go_region
  have hs2 := HS.out.cut ((gone + n) / 8) (by rw [vals_len]; omega) (vals_len zs)
  generalize (if cv = (gone + n) / 8 then av else Option.map (fun x => x.add ((gone + n) / 8)) av) = a2 at hs2 ⊢
  have HS2 : Hid (Sl w 5 (.slice a2 (zs.length - (gone + n) / 8) (cv - (gone + n) / 8)) g ((vals zs).drop ((gone + n) / 8))) := hs2
  clear hs2 HS
  go_wp2
  go_end0
  unfold PassPost
  have hw : ∀ k, g = some k → k ≠ r := fun k hk e => HP.out (by rw [hk, e])
  refine ⟨rfl, ⟨.slice a2 (zs.length - (gone + n) / 8) (cv - (gone + n) / 8), ?_, ?_⟩, ?_⟩
  · have := two_set1 (u := .int .i64 (((gone : Int) + n) % 8)) (two_set0 (u := .slice a2 (zs.length - (gone + n) / 8) (cv - (gone + n) / 8)) (two_set1 (u := .int .i64 ((gone : Int) + n)) HH.out))
    rw [show (((gone + n) % 8 : Nat) : Int) = ((gone : Int) + n) % 8 by omega]
    exact this
  · rw [show vals (zs.drop ((gone + n) / 8)) = (vals zs).drop ((gone + n) / 8) by simp [vals]]
    exact HS2.out.same fun k hk => ((Below.heap_setCell _ _ _ k (hw k hk)).trans (Below.heap_setCell _ _ _ k (hw k hk))).trans (Below.heap_setCell _ _ _ k (hw k hk))
  · have h1 := Fr.set (w := w) r 1 (.int .i64 ((gone : Int) + n)) g
    have h2 := h1.trans (Fr.set r 0 (.slice a2 (zs.length - (gone + n) / 8) (cv - (gone + n) / 8)) g) (.inl rfl)
    have h3 := h2.trans (Fr.set r 1 (.int .i64 (((gone : Int) + n) % 8)) g) (.inl rfl)
    exact ⟨h3.os, h3.tape, h3.output, h3.size, h3.block⟩

theorem Fr.drewN {w w' : World} {r : Nat} {g : Option Nat} (h : Fr w w' r g) (n : Nat) : Fr w (w'.drewN n) r g := ⟨h.os, h.tape, h.output, h.size, h.block⟩
theorem Rd.drewN {w : World} {r : Nat} {g : Option Nat} {zs : List Int} {gone : Nat} (h : Rd w r g zs gone) (n : Nat) : Rd (w.drewN n) r g zs gone := h.same rfl fun _ _ => rfl

theorem and_one (y : Int) (h : 0 ≤ y ∧ y < 256) : wrap64 (bits .and .u8 y 1) = y % 2 := by
  rw [u8_and y 1 h.1 h.2 (by omega) (by omega), show (1 : Int).toNat = 1 from rfl, nat_mask1]
  unfold wrap64
  omega
theorem div_byte (z : Int) (j : Nat) (h0 : 0 ≤ z) (h1 : z < 256) : 0 ≤ z / 2 ^ j ∧ z / 2 ^ j < 256 := by
  have hp := two_pos j
  refine ⟨Int.ediv_nonneg h0 (by omega), Int.lt_of_le_of_lt (Int.ediv_le_self _ h0) h1⟩
set_option maxHeartbeats 800000 in
theorem align_no (r : Nat) (g : Option Nat) (zs : List Int) (w : World) (h : Rd w r g zs 0) :
    Calls Try.prog 55 #[.pointer (some ⟨r, 0, none⟩)] w fun e w' => e = .returned (.int .i64 0) ∧ w' = w := by
  obtain ⟨v, hh, hs⟩ := h
  obtain ⟨q0, q1, _, _⟩ := two_cells hh
  clear hh hs
  go_enter Try.func55, Try.ntmps55
  go_wp2
  go_ret
  exact ⟨rfl, rfl⟩
def AlignPost (w : World) (r : Nat) (g : Option Nat) (zs : List Int) (k : Nat) (e : Ending) (w' : World) : Prop :=
  e = .returned (.int .i64 k) ∧ Rd w' r g zs 0 ∧ Fr w w' r g
set_option maxHeartbeats 800000 in
theorem align_yes (r : Nat) (g : Option Nat) (zs : List Int) (gone : Nat) (w : World) (h : Rd w r g zs gone) (hl : zs.length ≤ 140737488355328) (hg : gone < 8) (hp : 0 < gone) (hz : 0 < zs.length) :
    Calls Try.prog 55 #[.pointer (some ⟨r, 0, none⟩)] w fun e w' => AlignPost w r g (zs.drop 1) (8 - gone) e w' := by
  have C := pass_any r g zs gone (8 - gone) w h hl hg (by omega) (by omega)
  rw [show (gone + (8 - gone)) / 8 = 1 by omega, show (gone + (8 - gone)) % 8 = 0 by omega, show ((8 - gone : Nat) : Int) = 8 - (gone : Int) by omega] at C
  obtain ⟨v, hh, hs⟩ := h
  obtain ⟨q0, q1, _, _⟩ := two_cells hh
  have hne : ((gone : Int) == 0) = false := by simp; omega
  clear hh hs
  go_enter Try.func55, Try.ntmps55
  go_wp2_with (go_at_call 54; refine C.mono ?_; rintro e w' ⟨rfl, hr, hf⟩)
  go_ret
  exact ⟨ret_int (by omega), hr, hf⟩

def TakePost (w : World) (r : Nat) (g : Option Nat) (v : Int) (zs : List Int) (gone : Nat) (e : Ending) (w' : World) : Prop :=
  e = .returned (.tuple #[.int .i64 v, .bool true]) ∧ Rd w' r g zs gone ∧ Fr w w' r g
set_option maxHeartbeats 800000 in
theorem take_no (r : Nat) (g : Option Nat) (zs : List Int) (gone : Nat) (n : Int) (w : World) (h : Rd w r g zs gone) (hl : zs.length ≤ 140737488355328) (hg : gone < 8) (hn : n < 0 ∨ 32 < n ∨ 8 * (zs.length : Int) - gone < n) :
    Calls Try.prog 40 #[.pointer (some ⟨r, 0, none⟩), .int .i64 n] w fun e w' => e = .returned (.tuple #[.int .i64 0, .bool false]) ∧ ∃ n, w' = w.drewN n := by
  have C := have_any r g zs gone w h hl hg
  clear h
  by_cases h0 : n < 0
  · clear hn
    go_enter Try.func40, Try.ntmps40
    go_wp2
    go_ret2
    exact ⟨rfl, 0, rfl⟩
  · by_cases h1 : 32 < n
    · clear hn
      go_enter Try.func40, Try.ntmps40
      go_wp2
      go_ret2
      exact ⟨rfl, 0, rfl⟩
    · have h2 : (zs.length : Int) * 8 - gone < n := by omega
      clear hn
      go_enter Try.func40, Try.ntmps40
      go_wp2_with (go_at_call 52; refine C.mono ?_; rintro e w' ⟨rfl, nn, rfl⟩)
      go_ret2
      exact ⟨rfl, nn, rfl⟩
end Go.Proofs.Ytcbmlioeeoghkaa
