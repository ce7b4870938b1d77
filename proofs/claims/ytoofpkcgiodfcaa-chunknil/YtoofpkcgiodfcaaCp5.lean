/- A nil chunk reader. -/
import Derived.Test.YtoofpkcgiodfcaaCp4
import Derived.Test.YtoofpkcgiodfcaaArgB
namespace Go.Proofs.Ytoofpkcgiodfcaa
open Go.RowKit
set_option maxHeartbeats 800000 in
theorem cnil_walk (a : Option Addr) (len cap : Nat) (w : World) (_h : BArg w a len cap) : Calls Try.prog 7 #[.slice a len cap] w fun e w' => e = .returned (.bool true) ∧ Below w.heap.size w w' := by
  have C := kfixed_any w
  clear _h
  go_enter Try.func7, Try.ntmps7
  go_wp2_with fail
  refine C.mono ?_
  clear C
  rintro e w1 ⟨rfl, hb⟩
  have HB : Hid (Below w.heap.size w w1) := hb
  clear hb
  have C2 := push_nil (.slice a len cap) w1
  have C3 := between_nil w1
  go_wp2_with (first
    | (go_at_call 10; refine C2.mono ?_; rintro e wq ⟨rfl, hwq⟩; rw [hwq]; clear hwq)
    | (go_at_call 12; refine C3.mono ?_; rintro e wq ⟨rfl, hwq⟩; rw [hwq]; clear hwq))
  go_ret
  exact ⟨rfl, HB.out⟩
end Go.Proofs.Ytoofpkcgiodfcaa
