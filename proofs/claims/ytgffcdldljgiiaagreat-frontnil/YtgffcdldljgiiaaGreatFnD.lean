/- A front's lines of a file that has none: whole, all. -/
import Derived.Test.YtgffcdldljgiiaaGreatFnC
namespace Go.Proofs.YtgffcdldljgiiaaGreat
open Go.RowKit
attribute [local go_sem] Oper.semAt_some
theorem results_cell2N {fn : Func} {p q : Tmp} {ty tz : TypeId} (h : fn.results = #[.cell p ty, .cell q tz]) (tmps : Array Value) (P : Program) (w : World) :
    (results fn tmps).run P w = ((asAddr (tmps.getD p undef)).run P w).andThen fun a w₁ => ((loadVar ty a).run P w₁).andThen fun v w₂ => ((asAddr (tmps.getD q undef)).run P w₂).andThen fun b w₃ => ((loadVar tz b).run P w₃).andThen fun u w₄ => .ok (.tuple #[v, u]) w₄ := by
  simp only [results, h]
  simp [Sem.run_bind]
set_option maxHeartbeats 400000 in
theorem whole_any (f : Nat) (a : Option Addr) (n c : Nat) (w : World) : Calls Tryz.prog 20 #[.pointer (some ⟨f, 0, none⟩), .slice a n c] w fun e w' => e = .returned (.func (.func 27) #[] #[.pointer (some ⟨w.heap.size, 0, none⟩), .pointer (some ⟨w.heap.size + 1, 0, none⟩)]) ∧ w' = (w.alloc (.cells #[.pointer (some ⟨f, 0, none⟩)] 24)).alloc (.cells #[.slice a n c] 22) := by
  go_enter Tryz.func20, Tryz.ntmps20
  go_wp2
  go_ret
  exact ⟨rfl, rfl⟩
set_option maxRecDepth 20000 in
set_option maxHeartbeats 800000 in
theorem whole1_any {l f pf pb n c : Nat} {a : Option Addr} {E E2 : Int} {W1 : World} {R : World → Prop} (hf : W1.cell? ⟨pf, 0, none⟩ = some (.pointer (some ⟨f, 0, none⟩))) (hv : W1.cell? ⟨pb, 0, none⟩ = some (.slice a n c)) (hne : pf ≠ f) (hpl : pf < W1.heap.size)
    (CP : Calls Tryz.prog 5 #[.pointer (some ⟨f, 0, none⟩), .slice a n c] W1 fun e W2 => e = .returned (.tuple #[.slice none 0 0, .int .i64 E]) ∧ W1.grownBy W2 (some f) ∧ (E = 0 → FrB W2 f .nilIface false))
    (hE : (E = 0 ∧ E2 = 2) ∨ (E = 3 ∧ E2 = 3))
    (hy : ∀ W2, W1.grownBy W2 (some f) → YieldAt Fence.wide 3 Tryz.prog l #[.agg #[.int .i64 0, .slice none 0 0, .slice none 0 0], .int .i64 E2] W2 fun e W' => e = .returned (.bool false) ∧ R W') :
    Calls Tryz.prog 27 #[.func (.yield l) #[] #[], .pointer (some ⟨pf, 0, none⟩), .pointer (some ⟨pb, 0, none⟩)] W1 fun e W' => (∃ v, e = .returned v) ∧ R W' := by
  have HY : Hid (∀ W2, W1.grownBy W2 (some f) → YieldAt Fence.wide 3 Tryz.prog l #[.agg #[.int .i64 0, .slice none 0 0, .slice none 0 0], .int .i64 E2] W2 fun e W' => e = .returned (.bool false) ∧ R W') := hy
  have HK : Hid (∀ W2, W1.grownBy W2 (some f) → W2.cell? ⟨pf, 0, none⟩ = some (.pointer (some ⟨f, 0, none⟩))) := fun W2 hg => (World.cell?_of_block (a := ⟨pf, 0, none⟩) (hg.block pf hpl (fun e => by cases e; exact hne rfl))).trans hf
  clear hy hne hpl
  rcases hE with ⟨rfl, rfl⟩ | ⟨rfl, rfl⟩
  · go_enter Tryz.func27, Tryz.ntmps27
    go_wp2_with fail
    refine CP.mono ?_
    clear CP
    rintro e w2 ⟨rfl, hg, hfr⟩
    have CD := fDone_no (hfr (by first | rfl | trivial))
    have kf := HK.out _ hg
    obtain ⟨fn, tmps, assign, body, hyy, hR⟩ := HY.out w2 hg
    have HRd : Hid (RoundIn Fence.wide 3 Tryz.prog l fn tmps assign body w2 fun e W' => e = .returned (.bool false) ∧ R W') := hR
    clear hg hfr hf hv HK HY hR
    go_wp2_with fail
    go_loopw [16, 17] (fun i _ wr => i = .int .i64 0 ∧ wr = w2) (fun _ _ _ => 0)
    case atStart => exact ⟨rfl, rfl⟩
    case round =>
      obtain ⟨rfl, rfl⟩ := hrel
      go_wp2_with fail
      refine CD.mono ?_
      clear CD
      rintro e w3 ⟨rfl, rfl⟩
      go_upto_region 9 with fail
      refine wp_region_yield ?_
      gi_wp2_with fail
      refine HRd.out.mono ?_
      rintro e w4 ⟨rfl, hr4⟩
      have HP : Hid (R w4) := hr4
      clear HRd hyy hr4 kf
      gi_wp2
      go_wp2
      go_end0
      exact ⟨⟨_, rfl⟩, HP.out⟩
  · go_enter Tryz.func27, Tryz.ntmps27
    go_wp2_with fail
    refine CP.mono ?_
    clear CP
    rintro e w2 ⟨rfl, hg, hfr⟩
    obtain ⟨fn, tmps, assign, body, hyy, hR⟩ := HY.out w2 hg
    have HRd : Hid (RoundIn Fence.wide 3 Tryz.prog l fn tmps assign body w2 fun e W' => e = .returned (.bool false) ∧ R W') := hR
    clear hg hfr hf hv HK HY hR
    go_wp2_with fail
    go_loopw [16, 17] (fun i _ wr => i = .int .i64 0 ∧ wr = w2) (fun _ _ _ => 0)
    case atStart => exact ⟨rfl, rfl⟩
    case round =>
      obtain ⟨rfl, rfl⟩ := hrel
      go_upto_region 9 with fail
      refine wp_region_yield ?_
      gi_wp2_with fail
      refine HRd.out.mono ?_
      rintro e w4 ⟨rfl, hr4⟩
      have HP : Hid (R w4) := hr4
      clear HRd hyy hr4
      gi_wp2
      go_wp2
      go_end0
      exact ⟨⟨_, rfl⟩, HP.out⟩
end Go.Proofs.YtgffcdldljgiiaaGreat
