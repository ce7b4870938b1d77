/- Which pictures may be; how many places a pass has. -/
import Derived.Test.YtjheipfcehddhaaRwC
import Derived.Test.YtjheipfcehddhaaAmM
namespace Go.Proofs.Ytjheipfcehddhaa
open Go.RowKit
theorem results_cellA {fn : Func} {p : Tmp} {ty : TypeId} (h : fn.results = #[.cell p ty]) (tmps : Array Value) (P : Program) (w : World) :
    (results fn tmps).run P w = ((asAddr (tmps.getD p undef)).run P w).andThen fun a w₁ => (loadVar ty a).run P w₁ := by
  simp only [results, h]
  simp [Sem.run_bind]
theorem picN_split (w h : Int) : decide (picN w h) = ((decide (1 ≤ w) && decide (w ≤ 2048)) && (decide (1 ≤ h) && decide (h ≤ 2048)) && decide (w * h ≤ 65536)) := by
  unfold picN
  by_cases a : 1 ≤ w <;> by_cases b : w ≤ 2048 <;> by_cases c : 1 ≤ h <;> by_cases d : h ≤ 2048 <;> simp [a, b, c, d]
theorem mul_bd {w h : Int} (a : 1 ≤ w) (b : w ≤ 2048) (c : 1 ≤ h) (d : h ≤ 2048) : 1 ≤ w * h ∧ w * h ≤ 4194304 := by
  have h1 : 1 * 1 ≤ w * h := Int.mul_le_mul a c (by omega) (by omega)
  have h2 : w * h ≤ 2048 * 2048 := Int.mul_le_mul b d (by omega) (by omega)
  omega
theorem bqdrew {B : Nat} {a b : World} (h : Below B a b) (n : Nat) : Below B a (b.drewN n) := ⟨h.os, h.tape, h.output, h.size, h.block⟩
def PsV (p : Stp) (W H : Int) : Value := .agg #[.int .i64 p.x, .int .i64 p.y, .int .i64 p.dx, .int .i64 p.dy, .int .i64 W, .int .i64 H]
end Go.Proofs.Ytjheipfcehddhaa
