/- A store: the program's. -/
import Derived.Test.YtinmkhdangknbaaTkR
namespace Go.Proofs.Ytinmkhdangknbaa
open Go.RowKit
def hPt0 : Pt := ⟨none, 0, []⟩
theorem hPt0_ok (w : World) : PtOk w hPt0 := ⟨Bytes.nil, Nat.le_refl _, by simp [hPt0], fun _ => rfl, .inl rfl⟩
theorem PtOk.old {w w' : World} {q : Pt} (h : PtOk w q) (hb : Below w.heap.size w w') : PtOk w' q := ⟨h.1, h.2.1, h.2.2.1, h.2.2.2.1, h.2.2.2.2.old hb⟩
/-- A store's cells: what is kept, what is under way, whether something is. -/
structure PS (w : World) (b : Nat) (K B : Pt) (s : Bool) : Prop where
  ce : w.heap[b]? = some (.cells #[ptV K, ptV B, .bool s] 68 (0, 0))
  k : PtOk w K
  b : PtOk w B
theorem PS.old {w w' : World} {b : Nat} {K B : Pt} {s : Bool} (h : PS w b K B s) (hb : Below w.heap.size w w') : PS w' b K B s := ⟨(hb.block _ (lt_of_block h.ce)).trans h.ce, h.k.old hb, h.b.old hb⟩
/-- Rows of bytes don't lie in a store's block. -/
theorem apart_three {w : World} {b : Nat} {q r : Pt} {s : Bool} {t : TypeId} (hc : w.heap[b]? = some (.cells #[ptV q, ptV r, .bool s] t (0, 0))) {a : Option Addr} {zs : List Int} (hr : Row w a zs) (hz : zs ≠ []) : ∀ x, a = some x → x.block ≠ b := by
  intro x hx
  subst hx
  rcases hr with e | ⟨b', off, e, hcell⟩
  · exact absurd e hz
  · simp only [Option.some.injEq] at e
    subst e
    have h0 := hcell 0 (List.length_pos_iff.2 hz)
    rintro rfl
    simp only [World.cell?, hc] at h0
    revert h0
    match off + 0 with
    | 0 => simp [ptV]
    | 1 => simp [ptV]
    | 2 => simp
    | k + 3 => simp
theorem PtOk.keep {w w' : World} {b : Nat} {q r u : Pt} {s : Bool} {t : TypeId} (hc : w.heap[b]? = some (.cells #[ptV q, ptV r, .bool s] t (0, 0))) (h : PtOk w u) (hg : w.grownBy w' (some b)) : PtOk w' u :=
  ⟨h.1, h.2.1, h.2.2.1, h.2.2.2.1, h.2.2.2.2.same fun x hx hz => hg.block x.block (h.2.2.2.2.lt x hx hz) (fun e => apart_three hc h.2.2.2.2 hz x hx (by simpa using e))⟩
theorem set_two1 {w : World} {b : Nat} {z0 z1 z2 : Value} (v1 v2 : Value) {t : TypeId} (h : w.heap[b]? = some (.cells #[z0, z1, z2] t (0, 0))) : (w.setCells b 1 [v1, v2]).heap[b]? = some (.cells #[z0, v1, v2] t (0, 0)) := by
  rw [heap_setCells _ _ _ _ h]
  simp [setArr]
/-- Below and one block. -/
theorem grown_old {w w1 w2 : World} {b : Nat} (h : Below w.heap.size w w1) (g : w1.grownBy w2 (some b)) : w.grownBy w2 (some b) :=
  ⟨g.os.trans h.os, g.tape.trans h.tape, g.output.trans h.output, Nat.le_trans h.size g.size, fun k hk hr => (g.block k (Nat.lt_of_lt_of_le hk h.size) hr).trans (h.block k hk)⟩
theorem store_new (w : World) : Calls Try.prog 18 #[] w fun e w' => ∃ b, e = .returned (.pointer (some ⟨b, 0, none⟩)) ∧ PS w' b hPt0 hPt0 false ∧ Below w.heap.size w w' ∧ w.heap.size ≤ b := by
  have HE : Hid (PS (w.alloc (.cells #[.slice none 0 0, .slice none 0 0, .bool false] 68)) w.heap.size hPt0 hPt0 false ∧ Below w.heap.size w (w.alloc (.cells #[.slice none 0 0, .slice none 0 0, .bool false] 68))) := ⟨⟨heap_alloc_newT w _, hPt0_ok _, hPt0_ok _⟩, (Below.refl _ _).alloc (Nat.le_refl _) _⟩
  go_enter Try.func18, Try.ntmps18
  go_wp2
  go_ret
  exact ⟨_, rfl, HE.out.1, HE.out.2, Nat.le_refl _⟩
theorem busy_nil (w : World) : Calls Try.prog 25 #[.pointer none] w fun e w' => e = .returned (.bool false) ∧ w' = w := by
  go_enter Try.func25, Try.ntmps25
  go_wp2
  go_ret
  exact ⟨rfl, rfl⟩
theorem busy_any {w : World} {b : Nat} {K B : Pt} {s : Bool} (h : PS w b K B s) : Calls Try.prog 25 #[.pointer (some ⟨b, 0, none⟩)] w fun e w' => e = .returned (.bool s) ∧ w' = w := by
  obtain ⟨d0, d1, d2⟩ := three_cells h.ce
  clear h
  unfold ptV at *
  cases s
  · go_enter Try.func25, Try.ntmps25
    go_wp2
    go_ret
    exact ⟨rfl, rfl⟩
  · go_enter Try.func25, Try.ntmps25
    go_wp2
    go_ret
    exact ⟨rfl, rfl⟩
theorem get_nil (w : World) : Calls Try.prog 24 #[.pointer none] w fun e w' => e = .returned (.slice none 0 0) ∧ w' = w := by
  go_enter Try.func24, Try.ntmps24
  go_wp2
  go_ret
  exact ⟨rfl, rfl⟩
theorem get_any {w : World} {b : Nat} {K B : Pt} {s : Bool} (h : PS w b K B s) : Calls Try.prog 24 #[.pointer (some ⟨b, 0, none⟩)] w fun e w' => ClB w K.z e w' := by
  obtain ⟨d0, d1, d2⟩ := three_cells h.ce
  have C : Hid _ := rclone_any (w := w) (n := K.z.length) rfl h.k.2.2.2.1 h.k.2.2.1.1 h.k.1 h.k.2.2.2.2
  obtain ⟨ka, kc, kz⟩ := K
  clear h
  unfold ptV at *
  simp only at *
  go_enter Try.func24, Try.ntmps24
  go_wp2_with fail
  refine Calls.mono C.out ?_
  rintro e w1 hq
  have HQ : Hid _ := hq
  obtain ⟨q, rfl, -⟩ := hq
  unfold ptV
  go_wp2
  go_ret
  exact HQ.out
/-- What Put comes to where nothing is under way. -/
def PutP (w : World) (b : Nat) (K : Pt) (zs : List Int) (e : Ending) (w' : World) : Prop := ∃ B, e = .returned (.int .i64 0) ∧ B.z = zs ∧ PS w' b K B true ∧ w.grownBy w' (some b) ∧ ∀ x, B.a = some x → w.heap.size ≤ x.block
theorem begin_any {w : World} {b : Nat} {K B : Pt} {s : Bool} (h : PS w b K B s) {a : Option Addr} {n c : Nat} {zs : List Int} (hb : BOk w a n c zs) : Calls Try.prog 41 #[.pointer (some ⟨b, 1, none⟩), .slice a n c] w fun e w' => e = .returned (.tuple #[]) ∧ ∃ B', B'.z = zs ∧ PS w' b K B' true ∧ w.grownBy w' (some b) ∧ ∀ x, B'.a = some x → w.heap.size ≤ x.block := by
  have C : Hid _ := rclone_any (w := w) hb.1 hb.2.2.2.2.1 hb.2.2.2.1.1 hb.2.1 hb.2.2.2.2.2
  have HP : Hid (PS w b K B s) := h
  clear h hb
  go_enter Try.func41, Try.ntmps41
  go_wp2_with fail
  refine Calls.mono C.out ?_
  rintro e w1 ⟨q, rfl, hz, hq, hb1, hf⟩
  have HP1 : Hid (PS w1 b K B s) := HP.out.old hb1
  have HE : Hid (∃ B', B'.z = zs ∧ PS (w1.setCells b 1 (Array.toList #[ptV q, .bool true])) b K B' true ∧ w.grownBy (w1.setCells b 1 (Array.toList #[ptV q, .bool true])) (some b) ∧ ∀ x, B'.a = some x → w.heap.size ≤ x.block) := by
    have gs := grownBy_setCells b (Array.toList #[ptV q, .bool true]) 1 w1
    exact ⟨q, hz, ⟨set_two1 _ _ HP1.out.ce, PtOk.keep HP1.out.ce HP1.out.k gs, PtOk.keep HP1.out.ce hq gs⟩, grown_old hb1 gs, hf⟩
  obtain ⟨d0, d1, d2⟩ := three_cells HP1.out.ce
  obtain ⟨y0, y1, y2⟩ := fz_three HP1.out.ce
  clear hz hq hb1 hf HP HP1 C
  unfold ptV at *
  go_wp2
  go_end0
  exact ⟨rfl, HE.out⟩
theorem put_nil (v : Value) (w : World) : Calls Try.prog 19 #[.pointer none, v] w fun e w' => e = .returned (.int .i64 1) ∧ w' = w := by
  go_enter Try.func19, Try.ntmps19
  go_wp2
  go_ret
  exact ⟨rfl, rfl⟩
theorem put_busy {w : World} {b : Nat} {K B : Pt} (h : PS w b K B true) (v : Value) : Calls Try.prog 19 #[.pointer (some ⟨b, 0, none⟩), v] w fun e w' => e = .returned (.int .i64 17) ∧ w' = w := by
  have C : Hid _ := busy_any h
  clear h
  go_enter Try.func19, Try.ntmps19
  go_wp2_with (go_at_call 25; refine Calls.mono C.out ?_; rintro e x ⟨rfl, hx⟩; have hx2 := hx.symm; clear hx; subst hx2)
  go_ret
  exact ⟨rfl, rfl⟩
theorem put_ok {w : World} {b : Nat} {K B : Pt} (h : PS w b K B false) {a : Option Addr} {n c : Nat} {zs : List Int} (hb : BOk w a n c zs) : Calls Try.prog 19 #[.pointer (some ⟨b, 0, none⟩), .slice a n c] w fun e w' => PutP w b K zs e w' := by
  have C : Hid _ := busy_any h
  have C2 : Hid _ := begin_any h hb
  clear h hb
  go_enter Try.func19, Try.ntmps19
  go_wp2_with (first | (go_at_call 25; refine Calls.mono C.out ?_; rintro e x ⟨rfl, hx⟩; have hx2 := hx.symm; clear hx; subst hx2) | (go_at_call 41; refine Calls.mono C2.out ?_; rintro e w1 ⟨rfl, hq⟩; have HQ : Hid _ := hq; clear hq))
  go_ret
  obtain ⟨B', h1, h2, h3, h4⟩ := HQ.out
  exact ⟨B', rfl, h1, h2, h3, h4⟩
theorem end_any {w : World} {b : Nat} {K B : Pt} {s : Bool} (h : PS w b K B s) : Calls Try.prog 42 #[.pointer (some ⟨b, 1, none⟩)] w fun e w' => e = .returned (ptV B) ∧ PS w' b K hPt0 false ∧ PtOk w' B ∧ w.grownBy w' (some b) := by
  have HE : Hid (PS (w.setCells b 1 (Array.toList #[.slice none 0 0, .bool false])) b K hPt0 false ∧ PtOk (w.setCells b 1 (Array.toList #[.slice none 0 0, .bool false])) B ∧ w.grownBy (w.setCells b 1 (Array.toList #[.slice none 0 0, .bool false])) (some b)) := by
    have gs := grownBy_setCells b (Array.toList #[Value.slice none 0 0, .bool false]) 1 w
    exact ⟨⟨set_two1 _ _ h.ce, PtOk.keep h.ce h.k gs, hPt0_ok _⟩, PtOk.keep h.ce h.b gs, gs⟩
  obtain ⟨d0, d1, d2⟩ := three_cells h.ce
  obtain ⟨y0, y1, y2⟩ := fz_three h.ce
  clear h
  unfold ptV at *
  go_enter Try.func42, Try.ntmps42
  go_wp2
  go_ret
  exact ⟨rfl, HE.out⟩
theorem crash_nil (k : Bool) (w : World) : Calls Try.prog 23 #[.pointer none, .bool k] w fun e w' => e = .returned (.tuple #[]) ∧ w' = w := by
  have C : Hid _ := busy_nil w
  go_enter Try.func23, Try.ntmps23
  go_wp2_with (go_at_call 25; refine Calls.mono C.out ?_; rintro e x ⟨rfl, hx⟩; have hx2 := hx.symm; clear hx; subst hx2)
  refine bodyPost_ret (results_none rfl _ _ _) rfl ?_
  exact ⟨rfl, rfl⟩
theorem crash_not {w : World} {b : Nat} {K B : Pt} (h : PS w b K B false) (k : Bool) : Calls Try.prog 23 #[.pointer (some ⟨b, 0, none⟩), .bool k] w fun e w' => e = .returned (.tuple #[]) ∧ w' = w := by
  have C : Hid _ := busy_any h
  clear h
  go_enter Try.func23, Try.ntmps23
  go_wp2_with (go_at_call 25; refine Calls.mono C.out ?_; rintro e x ⟨rfl, hx⟩; have hx2 := hx.symm; clear hx; subst hx2)
  refine bodyPost_ret (results_none rfl _ _ _) rfl ?_
  exact ⟨rfl, rfl⟩
theorem crash_yes {w : World} {b : Nat} {K B : Pt} (h : PS w b K B true) (k : Bool) : Calls Try.prog 23 #[.pointer (some ⟨b, 0, none⟩), .bool k] w fun e w' => e = .returned (.tuple #[]) ∧ PS w' b (if k then B else K) hPt0 false ∧ w.grownBy w' (some b) := by
  have C : Hid _ := busy_any h
  have C2 : Hid _ := end_any h
  clear h
  cases k
  · go_enter Try.func23, Try.ntmps23
    go_wp2_with (first | (go_at_call 25; refine Calls.mono C.out ?_; rintro e x ⟨rfl, hx⟩; have hx2 := hx.symm; clear hx; subst hx2) | (go_at_call 42; refine Calls.mono C2.out ?_; rintro e w1 ⟨rfl, hq⟩; have HQ : Hid _ := hq; clear hq; unfold ptV))
    go_end0
    exact ⟨rfl, HQ.out.1, HQ.out.2.2⟩
  · go_enter Try.func23, Try.ntmps23
    go_upto_region 3 with (first | (go_at_call 25; refine Calls.mono C.out ?_; rintro e x ⟨rfl, hx⟩; have hx2 := hx.symm; clear hx; subst hx2) | (go_at_call 42; refine Calls.mono C2.out ?_; rintro e w1 ⟨rfl, hq⟩; have HQ : Hid _ := hq; clear hq))
    have HE : Hid (PS (w1.setCell ⟨b, 0, none⟩ (ptV B)) b B hPt0 false ∧ w.grownBy (w1.setCell ⟨b, 0, none⟩ (ptV B)) (some b)) := by
      obtain ⟨q1, q2, q3⟩ := HQ.out
      have gs := grownBy_set w1 b 0 (ptV B)
      refine ⟨⟨?_, PtOk.keep q1.ce q2 gs, hPt0_ok _⟩, grownBy_trans q3 gs⟩
      have := heap_setCell_same w1 b 0 _ _ (ptV B) q1.ce
      simpa using this
    obtain ⟨d0, d1, d2⟩ := three_cells HQ.out.1.ce
    obtain ⟨y0, y1, y2⟩ := fz_three HQ.out.1.ce
    clear C C2 HQ
    unfold ptV at *
    go_wp2
    go_end0
    exact ⟨rfl, HE.out⟩
theorem settle_nil (w : World) : Calls Try.prog 21 #[.pointer none] w fun e w' => e = .returned (.tuple #[]) ∧ w' = w := by
  have C : Hid _ := crash_nil true w
  go_enter Try.func21, Try.ntmps21
  go_wp2_with (go_at_call 23; refine Calls.mono C.out ?_; rintro e x ⟨rfl, hx⟩; have hx2 := hx.symm; clear hx; subst hx2)
  go_end0
  exact ⟨rfl, rfl⟩
theorem settle_not {w : World} {b : Nat} {K B : Pt} (h : PS w b K B false) : Calls Try.prog 21 #[.pointer (some ⟨b, 0, none⟩)] w fun e w' => e = .returned (.tuple #[]) ∧ w' = w := by
  have C : Hid _ := crash_not h true
  clear h
  go_enter Try.func21, Try.ntmps21
  go_wp2_with (go_at_call 23; refine Calls.mono C.out ?_; rintro e x ⟨rfl, hx⟩; have hx2 := hx.symm; clear hx; subst hx2)
  go_end0
  exact ⟨rfl, rfl⟩
theorem settle_yes {w : World} {b : Nat} {K B : Pt} (h : PS w b K B true) : Calls Try.prog 21 #[.pointer (some ⟨b, 0, none⟩)] w fun e w' => e = .returned (.tuple #[]) ∧ PS w' b B hPt0 false ∧ w.grownBy w' (some b) := by
  have C : Hid _ := crash_yes h true
  clear h
  go_enter Try.func21, Try.ntmps21
  go_wp2_with (go_at_call 23; refine Calls.mono C.out ?_; rintro e w1 ⟨rfl, hq⟩; have HQ : Hid _ := hq; clear hq)
  go_end0
  exact ⟨rfl, HQ.out.1, HQ.out.2⟩
end Go.Proofs.Ytinmkhdangknbaa
