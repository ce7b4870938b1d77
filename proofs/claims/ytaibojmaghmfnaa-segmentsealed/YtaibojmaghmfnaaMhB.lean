/- The document's Same, of messages that say the same. -/
import Derived.Test.YtaibojmaghmfnaaMgZ
import Derived.Deep.RegionHeld3
namespace Go.Proofs.Ytaibojmaghmfnaa
open Go.RowKit
theorem Try.isArr2 : Try.prog.underlying 53 = some (.array 2 3) := by kernel_rfl
theorem eq_arr2 (a b a' b' : Int) (w : World) : (Op.equalIn 10000 53 (.agg #[.int .i64 a, .int .i64 b]) (.agg #[.int .i64 a', .int .i64 b'])).run Try.prog w = .ok (a == a' && b == b') w := by
  have u3 := Try.underlying3
  have a3 := Try.isAgg3
  have z3 := Try.sizeOf3
  rw [show (10000 : Nat) = 9999 + 1 from rfl, Op.equalIn]
  simp only [Sem.run_bind, run_underlying Try.isArr2, Result.andThen_ok]
  simp only [Std.Legacy.Range.forIn_eq_forIn_range', Std.Legacy.Range.size, Nat.sub_zero, Nat.add_sub_cancel, Nat.div_one, List.range'_succ, List.range'_zero, List.forIn_cons, List.forIn_nil]
  go_simp
  by_cases h1 : a = a' <;> by_cases h2 : b = b' <;> simp [h1, h2]
/-- The blocks of two boxed messages. -/
def QT (w : World) (c1 c2 : Array Value) (w' : World) : Prop := Below w.heap.size w w' ∧ w'.heap[w.heap.size]? = some (.cells c1 26 (0, 0)) ∧ w'.heap[w.heap.size + 1]? = some (.cells c2 26 (0, 0))
theorem QT.box (w : World) (c1 c2 : Array Value) : QT w c1 c2 ((w.alloc (.cells c1 26)).alloc (.cells c2 26)) := by
  refine ⟨((Below.refl _ w).alloc (Nat.le_refl _) _).alloc (by simp) _, ?_, ?_⟩
  · rw [Below.heap_alloc _ _ _ (by simp)]; exact heap_alloc_newM w _
  · have := heap_alloc_newM (w.alloc (.cells c1 26)) (.cells c2 26)
    simpa using this
theorem QT.old {w : World} {c1 c2 : Array Value} {w1 w2 : World} (h : QT w c1 c2 w1) (hb : Below w1.heap.size w1 w2) : QT w c1 c2 w2 := ⟨h.1.trans (hb.mono h.1.size), (hb.block _ (lt_of_block h.2.1)).trans h.2.1, (hb.block _ (lt_of_block h.2.2)).trans h.2.2⟩
set_option maxHeartbeats 12800000 in
theorem rsame_yes (m l : Ms) (G : List (Int × Int)) (D : List Int) (w : World) (he : m.k = l.k ∧ m.bo = l.bo ∧ m.fi = l.fi ∧ m.su = l.su ∧ m.si = l.si ∧ m.ap = l.ap ∧ m.bd = l.bd ∧ m.ix = l.ix ∧ m.pa = l.pa ∧ m.co = l.co ∧ m.rn = l.rn ∧ m.dn = l.dn) (hg : G.length = m.rn) (hd : D.length = m.dn) (hr : m.rn ≤ 70368744177664) (r1 : RgR w m.ra G) (r2 : RgR w l.ra G) (d1 : Row w m.da D) (d2 : Row w l.da D) :
    Calls Try.prog 12 #[m.V, l.V] w fun e w' => e = .returned (.bool true) ∧ Below w.heap.size w w' := by
  have HQ : Hid (QT w m.c12 l.c12 _) := QT.box w m.c12 l.c12
  have c1 := conv_row (c := m.dc) hd (d1.old HQ.out.1)
  have c2 := conv_row (n := l.dn) (c := l.dc) (hd.trans he.2.2.2.2.2.2.2.2.2.2.2) (d2.old HQ.out.1)
  have HR1 : Hid (∀ u, Below w.heap.size w u → RgR u m.ra G) := fun u hu => r1.old hu
  have HR2 : Hid (∀ u, Below w.heap.size w u → RgR u l.ra G) := fun u hu => r2.old hu
  have HN : Hid (G.length = m.rn) := hg
  obtain ⟨e0, e1, e2, e3, e4, e5, e6, e7, e8, e9, e10, e11⟩ := he
  generalize strOfNums D = s at *
  clear hg hd r1 r2 d1 d2
  obtain ⟨k, bo, fi, su, si, ap, bd, ix, pa, co, ra, rn, rc, da, dn, dc⟩ := m
  obtain ⟨k', bo', fi', su', si', ap', bd', ix', pa', co', ra', rn', rc', da', dn', dc'⟩ := l
  unfold Ms.V at *
  unfold Ms.c12 at *
  simp only at *
  subst e0 e1 e2 e3 e4 e5 e6 e7 e8 e9 e10 e11
  obtain ⟨w2, hw2⟩ : ∃ w2, (w.alloc (.cells #[.int .i64 k, .int .u32 bo, .int .i64 fi, .int .u32 su, .int .i64 si, .int .i64 ap, .int .i64 bd, .int .i64 ix, .int .i64 pa, .int .i64 co, .slice ra rn rc, .slice da dn dc] 26)).alloc (.cells #[.int .i64 k, .int .u32 bo, .int .i64 fi, .int .u32 su, .int .i64 si, .int .i64 ap, .int .i64 bd, .int .i64 ix, .int .i64 pa, .int .i64 co, .slice ra' rn rc', .slice da' dn dc'] 26) = w2 := ⟨_, rfl⟩
  rw [hw2] at HQ c1 c2
  go_enter Try.func12, Try.ntmps12
  go_upto_region 1 with fail
  clear hw2
  obtain ⟨fa0, fa1, fa2, fa3, fa4, fa5, fa6, fa7, fa8, fa9, fa10, fa11⟩ := twelve_cells HQ.out.2.1
  obtain ⟨fb0, fb1, fb2, fb3, fb4, fb5, fb6, fb7, fb8, fb9, fb10, fb11⟩ := twelve_cells HQ.out.2.2
  go_upto_region 3 with fail
  go_wp2
  go_loopw [5, 95] (fun _ t wr => ∃ j : Nat, j ≤ rn ∧ t = .int .i64 j ∧ QT w #[.int .i64 k, .int .u32 bo, .int .i64 fi, .int .u32 su, .int .i64 si, .int .i64 ap, .int .i64 bd, .int .i64 ix, .int .i64 pa, .int .i64 co, .slice ra rn rc, .slice da dn dc] #[.int .i64 k, .int .u32 bo, .int .i64 fi, .int .u32 su, .int .i64 si, .int .i64 ap, .int .i64 bd, .int .i64 ix, .int .i64 pa, .int .i64 co, .slice ra' rn rc', .slice da' dn dc'] wr) (fun _ t _ => rn - (intOf t).toNat)
  case atStart => exact ⟨0, Nat.zero_le _, rfl, HQ.out⟩
  case round =>
    clear fa0 fa1 fa2 fa3 fa4 fa5 fa6 fa7 fa8 fa9 fa10 fa11 fb0 fb1 fb2 fb3 fb4 fb5 fb6 fb7 fb8 fb9 fb10 fb11 HQ c1 c2
    obtain ⟨j, hj, rfl, hq⟩ := hrel
    have HQr : Hid (QT w #[.int .i64 k, .int .u32 bo, .int .i64 fi, .int .u32 su, .int .i64 si, .int .i64 ap, .int .i64 bd, .int .i64 ix, .int .i64 pa, .int .i64 co, .slice ra rn rc, .slice da dn dc] #[.int .i64 k, .int .u32 bo, .int .i64 fi, .int .u32 su, .int .i64 si, .int .i64 ap, .int .i64 bd, .int .i64 ix, .int .i64 pa, .int .i64 co, .slice ra' rn rc', .slice da' dn dc'] wr) := hq
    clear hq
    by_cases hlt : j < rn
    · obtain ⟨b1, o1, rfl, q1⟩ : ∃ b off, ra = some ⟨b, off, none⟩ ∧ ∀ i, i < G.length → wr.cell? ⟨b, off + i * 2, none⟩ = some (.int .i64 (gx G i)) ∧ wr.cell? ⟨b, off + i * 2 + 1, none⟩ = some (.int .i64 (gy G i)) := by
        rcases HR1.out wr HQr.out.1 with e | e
        · have := HN.out; rw [e] at this; simp at this; omega
        · exact e
      obtain ⟨b2, o2, rfl, q2⟩ : ∃ b off, ra' = some ⟨b, off, none⟩ ∧ ∀ i, i < G.length → wr.cell? ⟨b, off + i * 2, none⟩ = some (.int .i64 (gx G i)) ∧ wr.cell? ⟨b, off + i * 2 + 1, none⟩ = some (.int .i64 (gy G i)) := by
        rcases HR2.out wr HQr.out.1 with e | e
        · have := HN.out; rw [e] at this; simp at this; omega
        · exact e
      obtain ⟨x0, x1⟩ := q1 j (by rw [HN.out]; exact hlt)
      obtain ⟨y0, y1⟩ := q2 j (by rw [HN.out]; exact hlt)
      clear q1 q2
      generalize gx G j = X at *
      generalize gy G j = Y at *
      have heq : ∀ u : World, (Op.equalIn 10000 53 (.agg #[.int .i64 X, .int .i64 Y]) (.agg #[.int .i64 X, .int .i64 Y])).run Try.prog u = .ok true u := fun u => by rw [eq_arr2]; simp
      obtain ⟨fa0, fa1, fa2, fa3, fa4, fa5, fa6, fa7, fa8, fa9, fa10, fa11⟩ := twelve_cells HQr.out.2.1
      obtain ⟨fb0, fb1, fb2, fb3, fb4, fb5, fb6, fb7, fb8, fb9, fb10, fb11⟩ := twelve_cells HQr.out.2.2
      go_upto_region 6 with fail
      have HQd : Hid (QT w #[.int .i64 k, .int .u32 bo, .int .i64 fi, .int .u32 su, .int .i64 si, .int .i64 ap, .int .i64 bd, .int .i64 ix, .int .i64 pa, .int .i64 co, .slice (some ⟨b1, o1, none⟩) rn rc, .slice da dn dc] #[.int .i64 k, .int .u32 bo, .int .i64 fi, .int .u32 su, .int .i64 si, .int .i64 ap, .int .i64 bd, .int .i64 ix, .int .i64 pa, .int .i64 co, .slice (some ⟨b2, o2, none⟩) rn rc', .slice da' dn dc'] wr.drew) := HQr.out.old ⟨rfl, rfl, rfl, Nat.le_refl _, fun _ _ => rfl⟩
      go_region_held3 (fun u => u.cell? ⟨w.heap.size, 10, none⟩ = some (.slice (some ⟨b1, o1, none⟩) rn rc) ∧ u.cell? ⟨w.heap.size + 1, 10, none⟩ = some (.slice (some ⟨b2, o2, none⟩) rn rc') ∧ u.cell? ⟨b1, o1 + j * 2, none⟩ = some (.int .i64 X) ∧ u.cell? ⟨b1, o1 + j * 2 + 1, none⟩ = some (.int .i64 Y) ∧ u.cell? ⟨b2, o2 + j * 2, none⟩ = some (.int .i64 X) ∧ u.cell? ⟨b2, o2 + j * 2 + 1, none⟩ = some (.int .i64 Y)) (go_keep) (fail)
      go_wp2
      go_roundw
      case rel => exact ⟨j + 1, by omega, by go_num, HQd.out⟩
      case measure => simp [intOf]; omega
    · obtain ⟨fa0, fa1, fa2, fa3, fa4, fa5, fa6, fa7, fa8, fa9, fa10, fa11⟩ := twelve_cells HQr.out.2.1
      go_wp2
      go_ret
      exact ⟨rfl, HQr.out.1⟩
end Go.Proofs.Ytaibojmaghmfnaa
