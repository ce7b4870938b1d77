/- What the program's and the reference's functions answer. -/
import Derived.Test.YtmlondjkjdlcjaaArgB
import Derived.Test.YtmlondjkjdlcjaaAdM
namespace Go.Proofs.Ytmlondjkjdlcjaa
open Go.RowKit

theorem Row.at {w : World} {a : Option Addr} {zs : List Int} (h : Row w a zs) (k : Nat) (hk : k < zs.length) : ∃ b off, a = some ⟨b, off, none⟩ ∧ w.cell? ⟨b, off + k, none⟩ = some (.int .u8 (zs[k]?.getD 0)) := by
  rcases h with h | ⟨b, off, e, hc⟩
  · subst h; simp at hk
  · exact ⟨b, off, e, hc k hk⟩
def U32 (n : Int) : Prop := 0 ≤ n ∧ n ≤ 4294967295
set_option maxHeartbeats 400000 in
theorem low_any (n : Int) (w : World) (h : U32 n) : Calls Try.prog 21 #[.int .u32 n] w fun e w' => e = .returned (.int .u32 (n % 65536)) ∧ w' = w := by
  obtain ⟨h0, h1⟩ := h
  go_enter Try.func21, Try.ntmps21
  go_wp2
  go_ret
  exact ⟨ret_int (by rw [IntKind.wrap_u16]; omega), rfl⟩
set_option maxHeartbeats 400000 in
theorem high_any (n : Int) (w : World) (h : U32 n) : Calls Try.prog 22 #[.int .u32 n] w fun e w' => e = .returned (.int .u32 (n / 65536)) ∧ w' = w := by
  obtain ⟨h0, h1⟩ := h
  go_enter Try.func22, Try.ntmps22
  go_wp2
  go_ret
  exact ⟨ret_int (by omega), rfl⟩
set_option maxHeartbeats 400000 in
theorem halves_any (n : Int) (w : World) (h : U32 n) : Calls Try.prog 19 #[.int .u32 n] w fun e w' => e = .returned (.tuple #[.int .u32 (low n), .int .u32 (high n)]) ∧ w' = w := by
  have hh := h
  obtain ⟨h0, h1⟩ := h
  go_enter Try.func19, Try.ntmps19
  go_wp2_with (first | (go_at_call 21; refine (low_any _ _ hh).mono ?_; rintro e w' ⟨rfl, rfl⟩) | (go_at_call 22; refine (high_any _ _ hh).mono ?_; rintro e w' ⟨rfl, rfl⟩))
  go_ret2
  exact ⟨rfl, rfl⟩
set_option maxHeartbeats 400000 in
theorem whole_any (s t : Int) (w : World) (h : In (s, t)) : Calls Try.prog 20 #[.int .u32 s, .int .u32 t] w fun e w' => e = .returned (.int .u32 (whole (s, t))) ∧ w' = w := by
  obtain ⟨h0, h1, h2, h3⟩ := h
  simp only at h0 h1 h2 h3
  have HO : Hid _ := or_whole s t h0 h1 h2 h3
  go_enter Try.func20, Try.ntmps20
  go_wp2
  go_ret
  exact ⟨ret_int (by rw [HO.out]; rfl), rfl⟩
set_option maxHeartbeats 800000 in
theorem more_any (n : Int) (a : Option Addr) (len cap : Nat) (zs : List Int) (w : World) (h : U32 n) (hn : zs.length = len) (hl : len ≤ 140737488355328) (hb : Bytes zs) (hr : Row w a zs) :
    Calls Try.prog 10 #[.int .u32 n, .slice a len cap] w fun e w' => e = .returned (.int .u32 (adlM n zs)) ∧ w' = w := by
  have HN : Hid (zs.length = len) := hn
  have HB : Hid (Bytes zs) := hb
  have HR : Hid (Row w a zs) := hr
  clear hn hb hr
  have HI : Hid (∀ k, In (amore (halves n) (zs.take k))) := fun k => amore_in (halves_in n) _
  go_enter Try.func10, Try.ntmps10
  go_wp2_with (go_at_call 19; refine (halves_any _ _ h).mono ?_; rintro e w' ⟨rfl, rfl⟩)
  go_loop [5, 6, 16] (fun s t i => ∃ k : Nat, k ≤ len ∧ i = .int .i64 k ∧ s = .int .u32 (amore (halves n) (zs.take k)).1 ∧ t = .int .u32 (amore (halves n) (zs.take k)).2) (fun _ _ i => len - (intOf i).toNat)
  case atStart => exact ⟨0, Nat.zero_le _, rfl, rfl, rfl⟩
  case round =>
    obtain ⟨k, hk, rfl, rfl, rfl⟩ := hrel
    have HIk : Hid (In (amore (halves n) (zs.take k))) := HI.out k
    obtain ⟨i0, i1, i2, i3⟩ := HI.out k
    by_cases hlt : k < len
    · obtain ⟨b, off, rfl, hck⟩ := HR.out.at k (by have := HN.out; omega)
      have hzk := HB.out.at k
      have HS : Hid (amore (halves n) (zs.take (k + 1)) = astep (amore (halves n) (zs.take k)) (zs[k]?.getD 0)) := by rw [take_snoc zs k (by have := HN.out; omega), amore_snoc]; trivial
      go_wp2
      go_round
      case rel => exact ⟨k + 1, by omega, by go_num, by rw [HS.out]; unfold astep; rfl, by rw [HS.out]; unfold astep; rfl⟩
      case measure => simp [intOf]; omega
    · go_wp2_with (go_at_call 20; refine (whole_any _ _ _ HIk.out).mono ?_; rintro e w' ⟨rfl, rfl⟩)
      go_ret
      exact ⟨ret_int (by rw [List.take_of_length_le (by have := HN.out; omega)]; rfl), rfl⟩
end Go.Proofs.Ytmlondjkjdlcjaa
