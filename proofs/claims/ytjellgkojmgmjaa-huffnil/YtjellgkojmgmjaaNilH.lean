import Derived.Test.YtjellgkojmgmjaaHiA
import Derived.Test.YtjellgkojmgmjaaArgI
namespace Go.Proofs.Ytjellgkojmgmjaa
open Go.RowKit

def NewAny (w : World) (e : Ending) (w' : World) : Prop :=
  (∃ c, e = .returned (.tuple #[.pointer (some ⟨c, 0, none⟩), .int .i64 0]) ∧ Below w.heap.size w w') ∨ ∃ f : Int, f ≠ 0 ∧ e = .returned (.tuple #[.pointer none, .int .i64 f]) ∧ w' = w
theorem new_shape (a : Option Addr) (len cap : Nat) (ls : List Int) (w : World) (hn : ls.length = len) (hl : len ≤ 140737488355328) (hr : IRow w a ls) :
    Calls Try.prog 10 #[.slice a len cap] w fun e w' => NewAny w e w' := by
  cases hk : okLens ls with
  | false => exact (new_arg a len cap ls w hn hl hr hk).mono fun e w' h => .inr ⟨1, by decide, h⟩
  | true => cases hw : wholeB ls with
    | false => exact (new_code a len cap ls w hn hl hr hk hw).mono fun e w' h => .inr ⟨5, by decide, h⟩
    | true => exact (new_yes a len cap ls w hn hl hr hk hw).mono fun e w' ⟨c, h1, _, _, h4⟩ => .inl ⟨c, h1, h4⟩
set_option maxHeartbeats 1600000 in
set_option maxRecDepth 20000 in
theorem nil_walk (a : Option Addr) (len cap : Nat) (a2 : Option Addr) (len2 cap2 : Nat) (sym : Int) (w : World) (h : BArg w a len cap) (h2 : IArg w a2 len2 cap2) (_ : (Lit.int .i64 sym).wf = true) :
    Calls Try.prog 8 #[.slice a len cap, .slice a2 len2 cap2, .int .i64 sym] w fun e w' => e = .returned (.bool true) ∧ Below w.heap.size w w' := by
  obtain ⟨bs, hby, hl, hc, hcap, hnone, hrow⟩ := h
  obtain ⟨ls, hl2, hc2, hcap2, _, hrow2⟩ := h2
  have HR : Hid (Row w a bs) := hrow
  have HR2 : Hid (IRow w a2 ls) := hrow2
  have HBY : Hid (Bytes bs) := hby
  have HL : Hid (bs.length = len) := hl
  have HL2 : Hid (ls.length = len2) := hl2
  clear hrow hrow2 hby hl hl2
  go_enter Try.func8, Try.ntmps8
  go_wp2_with fail
  refine (fixed_any _).mono ?_
  rintro e w1 ⟨rfl, hb1⟩
  have HB1 : Hid (Below w.heap.size w w1) := hb1
  clear hb1
  go_wp2_with fail
  refine (reader_any a len cap bs w1 HL.out hnone (HR.out.old HB1.out) (by omega)).mono ?_
  rintro e w2 ⟨r, g, rfl, hrd, _, _, hb2⟩
  have HB2 : Hid (Below w.heap.size w w2) := HB1.out.trans (hb2.mono HB1.out.size)
  have HRD : Hid (Rd w2 r g bs 0) := hrd
  clear hrd hb2 HB1
  by_cases h0 : len = 0
  · subst h0
    obtain rfl := List.length_eq_zero_iff.1 HL.out
    go_wp2_with fail
    refine (next_nilc_none r g w2 HRD.out).mono ?_
    rintro e w3 ⟨rfl, hb3⟩
    have HB3 : Hid (Below w.heap.size w w3) := HB2.out.trans (hb3.mono HB2.out.size)
    clear hb3 HB2 HRD
    go_wp2_with fail
    refine (word_nil _ _).mono ?_
    rintro e w4 ⟨rfl, hw4⟩
    rw [hw4]
    clear hw4
    go_wp2_with fail
    refine (new_shape a2 len2 cap2 ls w3 HL2.out (by omega) (HR2.out.old HB3.out)).mono ?_
    rintro e w5 (⟨c, rfl, hb5⟩ | ⟨f, hf, rfl, hw5⟩)
    · have HB5 : Hid (Below w.heap.size w w5) := HB3.out.trans (hb5.mono HB3.out.size)
      clear hb5
      go_wp2_with fail
      refine (next_nilr c w5).mono ?_
      rintro e w6 ⟨rfl, hb6⟩
      have HB6 : Hid (Below w.heap.size w w6) := HB5.out.trans (hb6.mono HB5.out.size)
      clear hb6 HB5
      go_wp2
      go_ret
      exact ⟨rfl, HB6.out⟩
    · rw [hw5]
      have hfb : (f == 0) = false := by simpa using hf
      clear hw5
      go_wp2
      go_ret
      exact ⟨rfl, HB3.out⟩
  · have h0b : ((len : Int) == 0) = false := by simp; omega
    go_wp2_with fail
    refine (next_nilc_some r g bs w2 HRD.out HBY.out (by rw [HL.out]; omega) (by rw [HL.out]; omega)).mono ?_
    rintro e w3 ⟨rfl, hb3⟩
    have HB3 : Hid (Below w.heap.size w w3) := HB2.out.trans (hb3.mono HB2.out.size)
    clear hb3 HB2 HRD
    go_wp2_with fail
    refine (word_nil _ _).mono ?_
    rintro e w4 ⟨rfl, hw4⟩
    rw [hw4]
    clear hw4
    go_wp2_with fail
    refine (new_shape a2 len2 cap2 ls w3 HL2.out (by omega) (HR2.out.old HB3.out)).mono ?_
    rintro e w5 (⟨c, rfl, hb5⟩ | ⟨f, hf, rfl, hw5⟩)
    · have HB5 : Hid (Below w.heap.size w w5) := HB3.out.trans (hb5.mono HB3.out.size)
      clear hb5
      go_wp2_with fail
      refine (next_nilr c w5).mono ?_
      rintro e w6 ⟨rfl, hb6⟩
      have HB6 : Hid (Below w.heap.size w w6) := HB5.out.trans (hb6.mono HB5.out.size)
      clear hb6 HB5
      go_wp2
      go_ret
      exact ⟨rfl, HB6.out⟩
    · rw [hw5]
      have hfb : (f == 0) = false := by simpa using hf
      clear hw5
      go_wp2
      go_ret
      exact ⟨rfl, HB3.out⟩
end Go.Proofs.Ytjellgkojmgmjaa
