/- A canvas's image, a pixel of it, a new one. -/
import Derived.Test.YtjheipfcehddhaaCvE
namespace Go.Proofs.Ytjheipfcehddhaa
open Go.RowKit
theorem results_cellV {fn : Func} {p q : Tmp} {ty : TypeId} (h : fn.results = #[.cell p ty, .tmp q]) (tmps : Array Value) (P : Program) (w : World) :
    (results fn tmps).run P w = ((asAddr (tmps.getD p undef)).run P w).andThen fun a w₁ => ((loadVar ty a).run P w₁).andThen fun v w₂ => .ok (.tuple #[v, tmps.getD q undef]) w₂ := by
  simp only [results, h]
  simp [Sem.run_bind]
theorem cell_ne {w : World} {b i c j : Nat} {v : Value} (h : c ≠ b) : (w.setCell ⟨b, i, none⟩ v).cell? ⟨c, j, none⟩ = w.cell? ⟨c, j, none⟩ := World.cell?_of_block (a := ⟨c, j, none⟩) (Below.heap_setCell w _ v c h)
/-- An image that was told. -/
def ImT (w : World) (W H : Int) (N : Nat) (F : Nat → Col) (e : Ending) (w' : World) : Prop := ∃ g c, e = .returned (.agg #[.int .i64 W, .int .i64 H, .slice (some ⟨g, 0, none⟩) N c]) ∧ N ≤ c ∧ c ≤ maxLen ∧ PxM w' g N F ∧ w.heap.size ≤ g ∧ Below w.heap.size w w'
theorem three_cells {w : World} {c : Nat} {v0 v1 v2 : Value} {t : TypeId} (h : w.heap[c]? = some (.cells #[v0, v1, v2] t (0, 0))) :
    w.cell? ⟨c, 0, none⟩ = some v0 ∧ w.cell? ⟨c, 1, none⟩ = some v1 ∧ w.cell? ⟨c, 2, none⟩ = some v2 ∧ ∀ i, w.frozen? ⟨c, i, none⟩ = false := by
  simp [World.cell?, World.frozen?, h]
set_option maxHeartbeats 400000 in
theorem image_nil (w : World) : Calls Try.prog 18 #[.pointer none] w fun e w' => e = .returned (.agg #[.int .i64 0, .int .i64 0, .slice none 0 0]) ∧ Below w.heap.size w w' := by
  have HB := below_new w (.cells #[.int .i64 0, .int .i64 0, .slice none 0 0] 41)
  go_enter Try.func18, Try.ntmps18
  go_wp2
  refine bodyPost_ret (v := .agg #[.int .i64 0, .int .i64 0, .slice none 0 0]) ?_ rfl ⟨rfl, HB⟩
  rw [results_cellA rfl]
  go_simp
set_option maxHeartbeats 1600000 in
theorem cimage_any {w : World} {c p k : Nat} {W H : Int} {N : Nat} {F : Nat → Col} {M : Nat → Bool} {n : Int} (h : Cv w c p k W H N F M n) : Calls Try.prog 18 #[.pointer (some ⟨c, 0, none⟩)] w fun e w' => ImT w W H N F e w' := by
  have HLC : Hid (c < w.heap.size ∧ p < w.heap.size) := ⟨lt_of_block h.st, h.px.lt⟩
  have HB1 := below_new w (.cells #[.int .i64 0, .int .i64 0, .slice none 0 0] 41)
  have HX : Hid ((w.alloc (.cells #[.int .i64 0, .int .i64 0, .slice none 0 0] 41)).heap[w.heap.size]? = some (.cells #[.int .i64 0, .int .i64 0, .slice none 0 0] 41 (0, 0))) := World.alloc_heap_new w _
  go_enter Try.func18, Try.ntmps18
  go_upto_region 3 with fail
  generalize w.alloc (.cells #[.int .i64 0, .int .i64 0, .slice none 0 0] 41) = w1 at *
  have HV : Hid (Cv w1 c p k W H N F M n) := h.old HB1
  obtain ⟨k0, k1, k2, k3, k4, -⟩ := HV.out.cells
  have HBB : Hid (Below w.heap.size w w1) := HB1
  have HCL : Hid (Calls Try.prog 35 #[.slice (some ⟨p, 0, none⟩) N N] w1.drew fun e w' => ClP w1 N F e w') :=
    (cloneP_any N (HV.out.old (below_drew _)).px HV.out.sz.pos HV.out.sz.m).mono fun e w' ⟨g, cp, h1, h2, h3, h4, h5, h6⟩ => ⟨g, cp, h1, h2, h3, h4, h5, h6.os, h6.tape, h6.output, h6.size, h6.block⟩
  clear HB1 h
  have HLT : Hid (c < w.heap.size ∧ p < w.heap.size) := ⟨HLC.out.1, HLC.out.2⟩
  obtain ⟨rb, hrb⟩ : ∃ rb, w.heap.size = rb := ⟨_, rfl⟩
  have HRB : Hid (w.heap.size = rb) := hrb
  rw [hrb] at HLT HX HBB ⊢
  clear hrb HLC
  have hne : c ≠ rb := by have := HLT.out; omega
  go_region_held3 (fun u => u.cell? ⟨c, 0, none⟩ = some (.int .i64 W) ∧ u.cell? ⟨c, 1, none⟩ = some (.int .i64 H) ∧ u.cell? ⟨c, 2, none⟩ = some (.slice (some ⟨p, 0, none⟩) N N))
      (first | (with_reducible exact ⟨by with_reducible assumption, by with_reducible assumption, by with_reducible assumption⟩) | (with_reducible exact ⟨by (rw [cell_ne hne, cell_ne hne, cell_ne hne]; assumption), by (rw [cell_ne hne, cell_ne hne, cell_ne hne]; assumption), by (rw [cell_ne hne, cell_ne hne, cell_ne hne]; assumption)⟩) | go_keep)
      (first | (go_at_call 35; refine Calls.mono HCL.out ?_; rintro e w2 ⟨g, cp, rfl, q1, q2, q3, q4, q5⟩; have HB2 : Hid (Below w1.heap.size w1 w2) := q5; obtain ⟨j0, j1, j2, -⟩ := (HV.out.old q5).cells; have HQ : Hid (N ≤ cp ∧ cp ≤ maxLen ∧ PxM w2 g N F ∧ w1.heap.size ≤ g) := ⟨q1, q2, q3, q4⟩; have hx2 := (q5.block _ (lt_of_block HX.out)).trans HX.out; obtain ⟨r0, r1, r2, fz⟩ := three_cells hx2; have fz0 := fz 0; have fz1 := fz 1; have fz2 := fz 2; clear q3 q4 q5 hx2 fz) | fail)
  have HE : Hid (ImT w W H N F (.returned (.agg #[.int .i64 W, .int .i64 H, .slice (some ⟨g, 0, none⟩) N cp])) (((w2.setCell ⟨rb, 0, none⟩ (.int .i64 W)).setCell ⟨rb, 1, none⟩ (.int .i64 H)).setCell ⟨rb, 2, none⟩ (.slice (some ⟨g, 0, none⟩) N cp))) := by
    obtain ⟨h1, h2, h3, h4⟩ := HQ.out
    have hr := lt_of_block HX.out
    have hg : g ≠ rb := by omega
    have b0 : Below w.heap.size w w2 := by
      have := HBB.out
      rw [← HRB.out] at this
      exact this.trans (HB2.out.mono this.size)
    refine ⟨g, cp, rfl, h1, h2, h3.same ?_, by have := HRB.out; omega, ?_⟩
    · rw [Below.heap_setCell _ _ _ _ hg, Below.heap_setCell _ _ _ _ hg, Below.heap_setCell _ _ _ _ hg]
    · exact ((b0.setCell (p := ⟨rb, 0, none⟩) (by show w.heap.size ≤ rb; rw [HRB.out]; exact Nat.le_refl _) _).setCell (p := ⟨rb, 1, none⟩) (by show w.heap.size ≤ rb; rw [HRB.out]; exact Nat.le_refl _) _).setCell (p := ⟨rb, 2, none⟩) (by show w.heap.size ≤ rb; rw [HRB.out]; exact Nat.le_refl _) _
  clear HX HB2 HQ HBB HV HCL
  go_wp2
  refine bodyPost_ret (v := .agg #[.int .i64 W, .int .i64 H, .slice (some ⟨g, 0, none⟩) N cp]) ?_ rfl HE.out
  rw [results_cellA rfl]
  go_simp
def atB (W H : Int) (M : Nat → Bool) (s : Int × Int) : Bool := onC W H s && M (ixC W s)
def atV (W H : Int) (F : Nat → Col) (M : Nat → Bool) (s : Int × Int) : Col := if atB W H M s then F (ixC W s) else (0, 0, 0, 0)
def colV (c : Col) : Value := .agg #[.int .u16 c.1, .int .u16 c.2.1, .int .u16 c.2.2.1, .int .u16 c.2.2.2]
def AtPost (w : World) (c : Col) (b : Bool) (e : Ending) (w' : World) : Prop := e = .returned (.tuple #[colV c, .bool b]) ∧ Below w.heap.size w w'
set_option maxHeartbeats 800000 in
theorem at_nil (x y : Int) (w : World) : Calls Try.prog 24 #[.pointer none, .int .i64 x, .int .i64 y] w fun e w' => AtPost w (0, 0, 0, 0) false e w' := by
  have HB := below_new w (.cells #[.int .u16 0, .int .u16 0, .int .u16 0, .int .u16 0] 49)
  go_enter Try.func24, Try.ntmps24
  go_upto_region 1 with fail
  go_region
  go_wp2
  refine bodyPost_ret (v := .tuple #[.agg #[.int .u16 0, .int .u16 0, .int .u16 0, .int .u16 0], .bool false]) ?_ rfl ⟨rfl, ?_⟩
  · rw [results_cellV rfl]
    go_simp
  · exact HB.trans ⟨rfl, rfl, rfl, Nat.le_refl _, fun _ _ => rfl⟩
theorem four_cells {w : World} {c : Nat} {v0 v1 v2 v3 : Value} {t : TypeId} (h : w.heap[c]? = some (.cells #[v0, v1, v2, v3] t (0, 0))) :
    w.cell? ⟨c, 0, none⟩ = some v0 ∧ w.cell? ⟨c, 1, none⟩ = some v1 ∧ w.cell? ⟨c, 2, none⟩ = some v2 ∧ w.cell? ⟨c, 3, none⟩ = some v3 ∧ ∀ i, w.frozen? ⟨c, i, none⟩ = false := by
  simp [World.cell?, World.frozen?, h]
end Go.Proofs.Ytjheipfcehddhaa
