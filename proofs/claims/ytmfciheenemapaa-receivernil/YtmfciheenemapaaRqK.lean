/- A nil receiver: the law's walk. -/
import Derived.Test.YtmfciheenemapaaRqJ
namespace Go.Proofs.Ytmfciheenemapaa
open Go.RowKit
set_option maxHeartbeats 3200000 in
theorem rnil_walk (i : Int) (a : Option Addr) (len cap : Nat) (w : World) (_hi : (Lit.int .i64 i).wf = true) (_w : BArg w a len cap) : Calls Try.prog 6 #[.int .i64 i, .slice a len cap] w fun e w' => e = .returned (.bool true) ∧ Below w.heap.size w w' := by
  have HF := rfixed_any w
  have C1 := fun u => rtake_nil i (.slice a len cap) u
  go_enter Try.func6, Try.ntmps6
  go_wp2_with (first
    | (go_at_call 7; refine Calls.mono HF ?_; rintro e w1 ⟨rfl, hb⟩; have HB : Hid (Below w.heap.size w w1) := hb; clear hb)
    | (go_at_call 11; refine Calls.mono (C1 _) ?_; rintro e w' ⟨rfl, rfl⟩)
    | (go_at_call 14; refine Calls.mono (rnext_nil _) ?_; rintro e w' ⟨rfl, rfl⟩)
    | (go_at_call 16; refine Calls.mono (rheld_nil _) ?_; rintro e w' ⟨rfl, rfl⟩)
    | (go_at_call 19; refine Calls.mono (rranges_nil _) ?_; rintro e w' ⟨rfl, rfl⟩)
    | (go_at_call 21; refine Calls.mono (rdone_nil _) ?_; rintro e w' ⟨rfl, rfl⟩))
  go_ret
  exact ⟨rfl, HB.out.trans ((below_drewR _).mono HB.out.size)⟩
end Go.Proofs.Ytmfciheenemapaa
