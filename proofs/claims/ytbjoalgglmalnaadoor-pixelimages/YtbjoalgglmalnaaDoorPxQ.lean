/- A colour of the table. -/
import Derived.Test.YtbjoalgglmalnaaDoorPxP
namespace Go.Proofs.YtbjoalgglmalnaaDoor
open Go.RowKit
def alN (A : List Int) (i : Nat) : Int := if i < A.length then A[i]?.getD 0 * 257 else 65535
theorem four_below (w : World) (o1 o2 o3 o4 : Obj) : Below w.heap.size w ((((w.alloc o1).alloc o2).alloc o3).alloc o4) :=
  (((((Below.refl _ w).alloc (Nat.le_refl _) o1).alloc (by simp) o2).alloc (by simp; omega) o3).alloc (by simp; omega) o4)
set_option maxHeartbeats 3200000 in
theorem ofTable_any (r : Rs) (A K S : List Int) (w : World) (hm : RsM w r A K S) (b off i : Nat) (hta : r.ta = some ⟨b, off, none⟩) (hi : i < r.tn) (x y z : Int) (hx : 0 ≤ x ∧ x < 256) (hy : 0 ≤ y ∧ y < 256) (hz : 0 ≤ z ∧ z < 256)
    (t0 : w.cell? ⟨b, off + i * 3, none⟩ = some (.int .u8 x)) (t1 : w.cell? ⟨b, off + i * 3 + 1, none⟩ = some (.int .u8 y)) (t2 : w.cell? ⟨b, off + i * 3 + 2, none⟩ = some (.int .u8 z)) (hA : allB 256 A) :
    Calls Tryd.prog 42 #[r.V, .int .i64 i] w fun e w' => e = .returned (.agg #[.int .u16 (x * 257), .int .u16 (y * 257), .int .u16 (z * 257), .int .u16 (alN A i)]) ∧ Below w.heap.size w w' := by
  have HO : Hid (OfI w r.c9 _) := OfI.start w r.c9
  have hbl : b < w.heap.size := cell_lt t0
  obtain ⟨W, H, C, D, L, ta, tn, tc, aa, an, ac, ca, cn, cc, sa, sn, sc⟩ := r
  unfold Rs.V at *
  unfold Rs.c9 at *
  simp only at *
  subst hta
  obtain ⟨R, hR⟩ : ∃ R, alN A i = R := ⟨_, rfl⟩
  have HM : Hid (IRow w aa A ∧ A.length = an) := ⟨hm.a, hm.an⟩
  rw [hR]
  clear hm
  by_cases h : i < an
  · have hia : i < A.length := by rw [HM.out.2]; exact h
    obtain ⟨b2, o2, rfl, hc⟩ := HM.out.1.at i hia
    have hv : 0 ≤ A[i]?.getD 0 ∧ A[i]?.getD 0 < 256 := by rw [List.getElem?_eq_getElem hia]; exact hA _ (List.getElem_mem hia)
    have hR2 : A[i]?.getD 0 * 257 = R := by rw [← hR, alN, if_pos hia]
    generalize A[i]?.getD 0 = v at *
    have hbl2 : b2 < w.heap.size := cell_lt hc
    have hq : ((((w.alloc (.cells #[.int .i64 W, .int .i64 H, .int .i64 C, .int .i64 D, .bool L, .slice (some ⟨b, off, none⟩) tn tc, .slice (some ⟨b2, o2, none⟩) an ac, .slice ca cn cc, .slice sa sn sc] 40)).alloc (.cells #[.int .u16 0, .int .u16 0, .int .u16 0, .int .u16 0] 45)).alloc (.cells #[.int .u8 x, .int .u8 y, .int .u8 z] 64)).alloc (.cells #[.int .u16 (x * 257), .int .u16 (y * 257), .int .u16 (z * 257), .int .u16 65535] 45)).cell? ⟨b2, o2 + i, none⟩ = some (.int .i64 v) := (World.cell?_of_block (a := ⟨b2, o2 + i, none⟩) ((four_below w _ _ _ _).block b2 hbl2)).trans hc
    clear hR hA
    go_enter Tryd.func42, Tryd.ntmps42
    go_wp2
    refine bodyPost_ret (v := .agg #[.int .u16 (x * 257), .int .u16 (y * 257), .int .u16 (z * 257), .int .u16 R]) ?_ rfl ⟨rfl, four_below w _ _ _ _⟩
    rw [results_cellX rfl]
    go_simp
  · have hR2 : R = 65535 := by rw [← hR, alN, if_neg (by rw [HM.out.2]; exact h)]
    subst hR2
    clear hR hA
    go_enter Tryd.func42, Tryd.ntmps42
    go_wp2
    refine bodyPost_ret (v := .agg #[.int .u16 (x * 257), .int .u16 (y * 257), .int .u16 (z * 257), .int .u16 65535]) ?_ rfl ⟨rfl, four_below w _ _ _ _⟩
    rw [results_cellX rfl]
    go_simp
end Go.Proofs.YtbjoalgglmalnaaDoor
