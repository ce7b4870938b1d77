/- A PNG's decoder: push, Push, and the nil decoder. -/
import Derived.Test.YtpjcdfinlclhoaaGreatDoorPgB
import Derived.StillTail
import Derived.Deep.DeepCutAuto
import Derived.Deep.CutBlock
import Derived.Deep.RegionHeld3
namespace Go.Proofs.YtpjcdfinlclhoaaGreatDoor
open Go.RowKit
theorem results_cellPG {fn : Func} {p q : Tmp} {ty : TypeId} (h : fn.results = #[.cell p ty, .tmp q]) (tmps : Array Value) (P : Program) (w : World) :
    (results fn tmps).run P w = ((asAddr (tmps.getD p undef)).run P w).andThen fun a w₁ => ((loadVar ty a).run P w₁).andThen fun v w₂ => .ok (.tuple #[v, tmps.getD q undef]) w₂ := by
  simp only [results, h]
  simp [Sem.run_bind]
/-- What push leaves. -/
def PuPg (w : World) (d p : Nat) (pre : List Int) (seen er : Int) (e : Ending) (w' : World) : Prop :=
  e = .returned (.tuple #[.slice none 0 0, .int .i64 er]) ∧ Fd w w' d p ∧ (er = 0 → DcM w' d 0 seen (.pointer (some ⟨p, 0, none⟩)) ∧ Rdy w' p pre)
set_option maxHeartbeats 800000 in
theorem ppush_nil (v : Value) (w : World) : Calls Tryz.prog 11 #[.pointer none, v] w fun e w' => e = .returned (.tuple #[.slice none 0 0, .int .i64 1]) ∧ w' = w := by
  go_enter Tryz.func11, Tryz.ntmps11
  go_wp2
  go_ret2
  exact ⟨rfl, rfl⟩
set_option maxHeartbeats 800000 in
theorem pPush_nil (v : Value) (w : World) : Calls Tryz.prog 5 #[.pointer none, v] w fun e w' => e = .returned (.tuple #[.slice none 0 0, .int .i64 1]) ∧ w' = w := by
  have C := ppush_nil v w
  go_enter Tryz.func5, Tryz.ntmps5
  go_wp2_with fail
  refine C.mono ?_
  clear C
  rintro e w1 ⟨rfl, rfl⟩
  go_wp2
  go_loopw [8, 10, 19] (fun o _ i wr => o = .slice none 0 0 ∧ i = .int .i64 0 ∧ wr = w1) (fun _ _ _ _ => 0)
  case atStart => exact ⟨rfl, rfl, rfl⟩
  case round =>
    obtain ⟨rfl, rfl, rfl⟩ := hrel
    go_wp2
    go_ret2
    exact ⟨rfl, rfl⟩
set_option maxHeartbeats 800000 in
theorem pHead_nil (w : World) : Calls Tryz.prog 6 #[.pointer none] w fun e w' => e = .returned (.tuple #[.agg #[.int .i64 0, .int .i64 0, .int .i64 0, .int .i64 0, .bool false], .bool false]) ∧ Below w.heap.size w w' := by
  have HB : Hid (Below w.heap.size w (w.alloc (.cells #[.int .i64 0, .int .i64 0, .int .i64 0, .int .i64 0, .bool false] 30))) := (Below.refl _ _).alloc (Nat.le_refl _) _
  go_enter Tryz.func6, Tryz.ntmps6
  go_wp2
  refine bodyPost_ret (v := .tuple #[.agg #[.int .i64 0, .int .i64 0, .int .i64 0, .int .i64 0, .bool false], .bool false]) ?_ rfl ⟨rfl, HB.out⟩
  rw [results_cellPG rfl]
  go_simp
set_option maxHeartbeats 800000 in
theorem pDone_nil (w : World) : Calls Tryz.prog 7 #[.pointer none] w fun e w' => e = .returned (.bool false) ∧ w' = w := by
  go_enter Tryz.func7, Tryz.ntmps7
  go_wp2
  go_ret
  exact ⟨rfl, rfl⟩
set_option maxHeartbeats 800000 in
theorem pTold_nil (w : World) : Calls Tryz.prog 8 #[.pointer none] w fun e w' => e = .returned (.int .i64 0) ∧ w' = w := by
  go_enter Tryz.func8, Tryz.ntmps8
  go_wp2
  go_ret
  exact ⟨rfl, rfl⟩
theorem DcM.all {w : World} {d : Nat} {er seen : Int} {cp : Value} (h : DcM w d er seen cp) : w.cell? ⟨d, 10, none⟩ = some (.int .i64 0) ∧ w.cell? ⟨d, 11, none⟩ = some (.int .i64 0) ∧ w.cell? ⟨d, 12, none⟩ = some (.int .i64 0) ∧ w.cell? ⟨d, 13, none⟩ = some (.int .i64 0) ∧ w.cell? ⟨d, 14, none⟩ = some (.bool false) ∧ w.cell? ⟨d, 19, none⟩ = some (.bool false) ∧ w.cell? ⟨d, 25, none⟩ = some (.int .i64 0) := by
  unfold DcM DcA at h
  refine ⟨?_, ?_, ?_, ?_, ?_, ?_, ?_⟩ <;> simp [World.cell?, h]
theorem Fd.sets (d p : Nat) : ∀ (vs : List Value) (i : Nat) (w : World), Fd w (w.setCells d i vs) d p
  | [], _, _ => Fd.of_below d p (Below.refl _ _)
  | v :: vs, i, w => (Fd.set w d p i v).trans (Fd.sets d p vs (i + 1) _)
theorem pic_cells {w : World} {g : Nat} {t : TypeId} (h : w.heap[g]? = some (.cells #[.int .i64 0, .int .i64 0, .int .i64 0, .int .i64 0, .bool false, .slice none 0 0, .slice none 0 0, .slice none 0 0, .slice none 0 0, .bool false] t (0, 0))) : w.cell? ⟨g, 0, none⟩ = some (.int .i64 0) ∧ w.cell? ⟨g, 1, none⟩ = some (.int .i64 0) ∧ w.cell? ⟨g, 2, none⟩ = some (.int .i64 0) ∧ w.cell? ⟨g, 3, none⟩ = some (.int .i64 0) ∧ w.cell? ⟨g, 4, none⟩ = some (.bool false) ∧ w.cell? ⟨g, 5, none⟩ = some (.slice none 0 0) ∧ w.cell? ⟨g, 6, none⟩ = some (.slice none 0 0) ∧ w.cell? ⟨g, 7, none⟩ = some (.slice none 0 0) ∧ w.cell? ⟨g, 8, none⟩ = some (.slice none 0 0) ∧ w.cell? ⟨g, 9, none⟩ = some (.bool false) := by
  refine ⟨?_, ?_, ?_, ?_, ?_, ?_, ?_, ?_, ?_, ?_⟩ <;> simp [World.cell?, h]
set_option maxHeartbeats 3200000 in
set_option maxRecDepth 20000 in
theorem pfail_any {w : World} {d : Nat} (p : Nat) {er seen : Int} {cp : Value} (x : Int) (h : DcM w d er seen cp) : Calls Tryz.prog 16 #[.pointer (some ⟨d, 0, none⟩), .int .i64 x] w fun e w' => e = .returned (.tuple #[]) ∧ Fd w w' d p := by
  obtain ⟨k10, k11, k12, k13, k14, k19, k25⟩ := h.all
  have HD : Hid (DcM w d er seen cp) := h
  have d10 : w.drew.cell? ⟨d, 10, none⟩ = _ := k10
  have d11 : w.drew.cell? ⟨d, 11, none⟩ = _ := k11
  have d12 : w.drew.cell? ⟨d, 12, none⟩ = _ := k12
  have d13 : w.drew.cell? ⟨d, 13, none⟩ = _ := k13
  have d14 : w.drew.cell? ⟨d, 14, none⟩ = _ := k14
  have d19 : w.drew.cell? ⟨d, 19, none⟩ = _ := k19
  clear h
  go_enter Tryz.func16, Tryz.ntmps16
  go_upto_region 0 with fail
  go_region_held3 (fun u => u.cell? ⟨d, 10, none⟩ = some (.int .i64 0) ∧ u.cell? ⟨d, 11, none⟩ = some (.int .i64 0) ∧ u.cell? ⟨d, 12, none⟩ = some (.int .i64 0) ∧ u.cell? ⟨d, 13, none⟩ = some (.int .i64 0) ∧ u.cell? ⟨d, 14, none⟩ = some (.bool false) ∧ u.cell? ⟨d, 19, none⟩ = some (.bool false))
    (first | (with_reducible exact ⟨by with_reducible assumption, by with_reducible assumption, by with_reducible assumption, by with_reducible assumption, by with_reducible assumption, by with_reducible assumption⟩) | go_keep) (fail)
  obtain ⟨w1, hw1⟩ : ∃ w1, (w.alloc (.cells #[.int .i64 0, .int .i64 0, .int .i64 0, .int .i64 0, .bool false, .slice none 0 0, .slice none 0 0, .slice none 0 0, .slice none 0 0, .bool false] 55)).drew = w1 := ⟨_, rfl⟩
  rw [hw1]
  have hb1 : Below w.heap.size w w1 := by rw [← hw1]; exact ((Below.refl _ _).alloc (Nat.le_refl _) _).trans ⟨rfl, rfl, rfl, Nat.le_refl _, fun _ _ => rfl⟩
  have hpb : w1.heap[w.heap.size]? = some (.cells #[.int .i64 0, .int .i64 0, .int .i64 0, .int .i64 0, .bool false, .slice none 0 0, .slice none 0 0, .slice none 0 0, .slice none 0 0, .bool false] 55 (0, 0)) := by rw [← hw1]; exact heap_alloc_newG w _
  obtain ⟨w2, hw2⟩ : ∃ w2, w1.drew = w2 := ⟨_, rfl⟩
  have hb2 : Below w.heap.size w w2 := by rw [← hw2]; exact hb1.trans ⟨rfl, rfl, rfl, Nat.le_refl _, fun _ _ => rfl⟩
  have hpb2 : w2.heap[w.heap.size]? = some (.cells #[.int .i64 0, .int .i64 0, .int .i64 0, .int .i64 0, .bool false, .slice none 0 0, .slice none 0 0, .slice none 0 0, .slice none 0 0, .bool false] 55 (0, 0)) := by rw [← hw2]; exact hpb
  have hd2 : DcM w2 d er seen cp := HD.out.same (hb2.block _ (lt_of_block HD.out))
  have HF : Hid (Fd w w2 d p) := Fd.of_below d p hb2
  have hne : w.heap.size ≠ d := by have := lt_of_block HD.out; omega
  obtain ⟨q0, q1, q2, q3, q4, q5, q6, q7, q8, q9⟩ := pic_cells hpb2
  have HG : Hid (Fd w (w2.setCells d 0 (#[.int .i64 x, .int .i64 0, .pointer none, .slice none 0 0, .bool false, .bool false, .bool false, .bool false, .bool false, .bool false, .int .i64 0, .int .i64 0, .int .i64 0, .int .i64 0, .bool false, .slice none 0 0, .slice none 0 0, .slice none 0 0, .slice none 0 0, .bool false, .pointer none, .slice none 0 0, .slice none 0 0, .slice none 0 0, .int .i64 0, .int .i64 0] : Array Value).toList) d p) := HF.out.trans (Fd.sets d p _ 0 w2)
  have HTh : Hid (w2.there d 0 26) := fun j hj => by
    have hh : w2.heap[d]? = some (.cells (DcA er seen cp) 60 (0, 0)) := hd2
    have hsz : (DcA er seen cp).size = 26 := rfl
    constructor
    · simp [World.cell?, hh, hsz, hj]
    · simp [World.frozen?, hh]
  have y25 := hd2.all.2.2.2.2.2.2
  obtain ⟨-, -, -, -, yf⟩ := hd2.cells
  clear HD hb1 hb2 hpb hpb2 hd2 hw1 k10 k11 k12 k13 k14 k19 k25 d10 d11 d12 d13 d14 d19
  go_upto_region 1 with fail
  refine wp_region_still_tail 11 (by kernel_rfl) (by kernel_rfl) ?_
  simp only [List.take_succ_cons, List.take_zero, List.drop_succ_cons, List.drop_zero]
  rw [show ({ w1 with drawn := w1.drawn + 1 } : World) = w1.drew from rfl, hw2]
  repeat still_step
  refine wpStill_nil ?_
  refine wpList_store_mid rfl _ _ _ rfl d 0 #[.int .i64 x, .int .i64 0, .pointer none, .slice none 0 0, .bool false, .bool false, .bool false, .bool false, .bool false, .bool false, .int .i64 0, .int .i64 0, .int .i64 0, .int .i64 0, .bool false, .slice none 0 0, .slice none 0 0, .slice none 0 0, .slice none 0 0, .bool false, .pointer none, .slice none 0 0, .slice none 0 0, .slice none 0 0, .int .i64 0, .int .i64 0] rfl rfl HTh.out (by kernel_rfl) (by first | kernel_rfl | simp [Value.oneCell']) ?_
  generalize w2.setCells d 0 (#[.int .i64 x, .int .i64 0, .pointer none, .slice none 0 0, .bool false, .bool false, .bool false, .bool false, .bool false, .bool false, .int .i64 0, .int .i64 0, .int .i64 0, .int .i64 0, .bool false, .slice none 0 0, .slice none 0 0, .slice none 0 0, .slice none 0 0, .bool false, .pointer none, .slice none 0 0, .slice none 0 0, .slice none 0 0, .int .i64 0, .int .i64 0] : Array Value).toList = w3 at *
  go_wp2
  go_end0
  exact ⟨rfl, HG.out⟩
set_option maxHeartbeats 1600000 in
theorem ppush_any {w : World} {d p : Nat} {pre bs : List Int} {er2 : Int} (seen : Nat) (hseen : seen ≤ 100) (hbb : Bytes bs) (av : Option Addr) (m c : Nat) (hm : bs.length = m) (hb1 : m ≤ 100) (hmc : m ≤ c) (hcm : c ≤ 100) (hc0 : av = none → c = 0) (hrow : Row w av bs) (hne : ∀ x, av = some x → bs ≠ [] → x.block ≠ p ∧ x.block ≠ d) (hpd : p ≠ d) (hd : DcM w d 0 seen (.pointer (some ⟨p, 0, none⟩))) (h : Rdy w p pre) (ho : ofAll (pre ++ bs) = ([], er2)) (he2 : er2 = 2 ∨ er2 = 3) (E : Int) (hE : (if er2 = 2 then 0 else er2) = E) :
    Calls Tryz.prog 11 #[.pointer (some ⟨d, 0, none⟩), .slice av m c] w fun e w' => PuPg w d p (pre ++ bs) ((seen : Int) + m) E e w' := by
  have CR := pread_any seen hseen hbb av m c hm hb1 hmc hcm hc0 hrow hne hpd hd h ho he2 E hE
  have hE3 : E = 0 ∨ E = 3 := by rcases he2 with h | h <;> subst h <;> simp at hE <;> omega
  obtain ⟨k0, -, -, -, -⟩ := hd.cells
  clear hd h ho he2 hE hbb hm hrow hne hpd
  rcases hE3 with rfl | rfl
  · go_enter Tryz.func11, Tryz.ntmps11
    go_wp2_with fail
    refine CR.mono ?_
    clear CR
    rintro e w1 ⟨rfl, hf, hdm, hrd⟩
    have HP : Hid (PuPg w d p (pre ++ bs) ((seen : Int) + m) 0 (.returned (.tuple #[.slice none 0 0, .int .i64 0])) w1) := ⟨rfl, hf, fun _ => ⟨hdm, hrd rfl⟩⟩
    clear hf hdm hrd
    go_wp2
    go_ret2
    exact HP.out
  · go_enter Tryz.func11, Tryz.ntmps11
    go_wp2_with fail
    refine CR.mono ?_
    clear CR
    rintro e w1 ⟨rfl, hf, hdm, hrd⟩
    have CF := pfail_any p 3 hdm
    have HF : Hid (Fd w w1 d p) := hf
    clear hf hdm hrd
    go_wp2_with fail
    refine CF.mono ?_
    clear CF
    rintro e w2 ⟨rfl, hf2⟩
    have HP : Hid (PuPg w d p (pre ++ bs) ((seen : Int) + m) 3 (.returned (.tuple #[.slice none 0 0, .int .i64 3])) w2) := ⟨rfl, HF.out.trans hf2, fun h => by omega⟩
    clear hf2
    go_wp2
    go_ret2
    exact HP.out
set_option maxHeartbeats 1600000 in
theorem pPush_of {w : World} {d p : Nat} {pre : List Int} {seen E : Int} (v : Value) (C : Calls Tryz.prog 11 #[.pointer (some ⟨d, 0, none⟩), v] w fun e w' => PuPg w d p pre seen E e w') :
    Calls Tryz.prog 5 #[.pointer (some ⟨d, 0, none⟩), v] w fun e w' => PuPg w d p pre seen E e w' := by
  go_enter Tryz.func5, Tryz.ntmps5
  go_wp2_with fail
  refine C.mono ?_
  clear C
  rintro e w1 ⟨rfl, h1, h2⟩
  have HP : Hid (PuPg w d p pre seen E (.returned (.tuple #[.slice none 0 0, .int .i64 E])) w1) := ⟨rfl, h1, h2⟩
  clear h1 h2
  go_wp2
  go_loopw [8, 10, 19] (fun o _ i wr => o = .slice none 0 0 ∧ i = .int .i64 0 ∧ wr = w1) (fun _ _ _ _ => 0)
  case atStart => exact ⟨rfl, rfl, rfl⟩
  case round =>
    obtain ⟨rfl, rfl, rfl⟩ := hrel
    go_wp2
    go_ret2
    exact HP.out
set_option maxHeartbeats 800000 in
theorem pDone_new {w : World} {d : Nat} {er seen : Int} {cp : Value} (h : DcM w d er seen cp) : Calls Tryz.prog 7 #[.pointer (some ⟨d, 0, none⟩)] w fun e w' => e = .returned (.bool false) ∧ w' = w := by
  obtain ⟨-, -, -, k9, -⟩ := h.cells
  clear h
  go_enter Tryz.func7, Tryz.ntmps7
  go_wp2
  go_ret
  exact ⟨rfl, rfl⟩
end Go.Proofs.YtpjcdfinlclhoaaGreatDoor
