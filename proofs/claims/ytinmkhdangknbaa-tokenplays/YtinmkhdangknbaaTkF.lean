/- A token as a value; which may be. -/
import Derived.Test.YtinmkhdangknbaaTkE
namespace Go.Proofs.Ytinmkhdangknbaa
open Go.RowKit
theorem heap_alloc_newT (w : World) (o : Obj) : (w.alloc o).heap[w.heap.size]? = some o := by show (w.heap.push o)[w.heap.size]? = some o; simp
theorem three_cells {w : World} {b : Nat} {v0 v1 v2 : Value} {t : TypeId} (h : w.heap[b]? = some (.cells #[v0, v1, v2] t (0, 0))) : w.cell? ⟨b, 0, none⟩ = some v0 ∧ w.cell? ⟨b, 1, none⟩ = some v1 ∧ w.cell? ⟨b, 2, none⟩ = some v2 := by
  refine ⟨?_, ?_, ?_⟩ <;> simp [World.cell?, h]
theorem fz_three {w : World} {b : Nat} {v0 v1 v2 : Value} {t : TypeId} (h : w.heap[b]? = some (.cells #[v0, v1, v2] t (0, 0))) : w.frozen? ⟨b, 0, none⟩ = false ∧ w.frozen? ⟨b, 1, none⟩ = false ∧ w.frozen? ⟨b, 2, none⟩ = false := by
  simp [World.frozen?, h]
/-- The block of a boxed token. -/
def QT (w : World) (c : Array Value) (w' : World) : Prop := Below w.heap.size w w' ∧ w'.heap[w.heap.size]? = some (.cells c 25 (0, 0))
theorem QT.box (w : World) (c : Array Value) : QT w c (w.alloc (.cells c 25)) := ⟨(Below.refl _ w).alloc (Nat.le_refl _) _, heap_alloc_newT w _⟩
theorem QT.old {w : World} {c : Array Value} {w1 w2 : World} (h : QT w c w1) (hb : Below w1.heap.size w1 w2) : QT w c w2 := ⟨h.1.trans (hb.mono h.1.size), (hb.block _ (lt_of_block h.2)).trans h.2⟩
/-- Which tokens may be. -/
def mayT (f : Int) (n : Nat) : Bool := decide (0 ≤ f) && (decide (f < 16) && decide (n ≤ 1048576))
theorem mayT_iff {f : Int} {n : Nat} : mayT f n = true ↔ 0 ≤ f ∧ f < 16 ∧ n ≤ 1048576 := by unfold mayT; simp
/-- What is written ahead of the sum. -/
def txT (f s : Int) (D : List Int) : List Int := bg 1 f ++ bg 4 s ++ bg 4 (D.length : Int) ++ D
theorem txT_len (f s : Int) (D : List Int) : (txT f s D).length = 9 + D.length := by unfold txT; simp only [List.length_append, bg_len]
theorem txT_byte (f s : Int) {D : List Int} (h : Bytes D) : Bytes (txT f s D) := (((bg_byte 1 f).append (bg_byte 4 s)).append (bg_byte 4 _)).append h
theorem maybe_any (f s : Int) (a : Option Addr) (n c : Nat) (w : World) : Calls Try.prog 26 #[.agg #[.int .i64 f, .int .u32 s, .slice a n c]] w fun e w' => e = .returned (.bool (mayT f n)) ∧ Below w.heap.size w w' := by
  have HQ : Hid (QT w #[.int .i64 f, .int .u32 s, .slice a n c] _) := QT.box w #[.int .i64 f, .int .u32 s, .slice a n c]
  by_cases h1 : 0 ≤ f
  · by_cases h2 : f < 16
    · by_cases h3 : n ≤ 1048576
      · have h4 : (n : Int) ≤ 1048576 := by omega
        have hv : mayT f n = true := by unfold mayT; simp; omega
        rw [hv]
        go_enter Try.func26, Try.ntmps26
        obtain ⟨d0, d1, d2⟩ := three_cells HQ.out.2
        go_wp2
        go_ret
        exact ⟨by simp, HQ.out.1⟩
      · have h4 : ¬ (n : Int) ≤ 1048576 := by omega
        have hv : mayT f n = false := by unfold mayT; simp; omega
        rw [hv]
        go_enter Try.func26, Try.ntmps26
        obtain ⟨d0, d1, d2⟩ := three_cells HQ.out.2
        go_wp2
        go_ret
        exact ⟨by simp, HQ.out.1⟩
    ·
      have hv : mayT f n = false := by unfold mayT; simp; omega
      rw [hv]
      go_enter Try.func26, Try.ntmps26
      obtain ⟨d0, d1, d2⟩ := three_cells HQ.out.2
      go_wp2
      go_ret
      exact ⟨by simp, HQ.out.1⟩
  ·
    have hv : mayT f n = false := by unfold mayT; simp; omega
    rw [hv]
    go_enter Try.func26, Try.ntmps26
    obtain ⟨d0, d1, d2⟩ := three_cells HQ.out.2
    go_wp2
    go_ret
    exact ⟨by simp, HQ.out.1⟩
theorem rmay_any (f s : Int) (a : Option Addr) (n c : Nat) (w : World) : Calls Try.prog 31 #[.agg #[.int .i64 f, .int .u32 s, .slice a n c]] w fun e w' => e = .returned (.bool (mayT f n)) ∧ Below w.heap.size w w' := by
  have HQ : Hid (QT w #[.int .i64 f, .int .u32 s, .slice a n c] _) := QT.box w #[.int .i64 f, .int .u32 s, .slice a n c]
  by_cases h1 : 0 ≤ f
  · by_cases h2 : f < 16
    · by_cases h3 : n ≤ 1048576
      · have h4 : (n : Int) ≤ 1048576 := by omega
        have hv : mayT f n = true := by unfold mayT; simp; omega
        rw [hv]
        go_enter Try.func31, Try.ntmps31
        obtain ⟨d0, d1, d2⟩ := three_cells HQ.out.2
        go_wp2
        go_ret
        exact ⟨by simp, HQ.out.1⟩
      · have h4 : ¬ (n : Int) ≤ 1048576 := by omega
        have hv : mayT f n = false := by unfold mayT; simp; omega
        rw [hv]
        go_enter Try.func31, Try.ntmps31
        obtain ⟨d0, d1, d2⟩ := three_cells HQ.out.2
        go_wp2
        go_ret
        exact ⟨by simp, HQ.out.1⟩
    ·
      have hv : mayT f n = false := by unfold mayT; simp; omega
      rw [hv]
      go_enter Try.func31, Try.ntmps31
      obtain ⟨d0, d1, d2⟩ := three_cells HQ.out.2
      go_wp2
      go_ret
      exact ⟨by simp, HQ.out.1⟩
  ·
    have hv : mayT f n = false := by unfold mayT; simp; omega
    rw [hv]
    go_enter Try.func31, Try.ntmps31
    obtain ⟨d0, d1, d2⟩ := three_cells HQ.out.2
    go_wp2
    go_ret
    exact ⟨by simp, HQ.out.1⟩
end Go.Proofs.Ytinmkhdangknbaa
