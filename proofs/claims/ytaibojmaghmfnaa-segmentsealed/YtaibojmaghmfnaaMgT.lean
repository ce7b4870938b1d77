/- Write: the program. -/
import Derived.Test.YtaibojmaghmfnaaMgS
namespace Go.Proofs.Ytaibojmaghmfnaa
open Go.RowKit
theorem set_four {w : World} {b : Nat} {v0 v1 v2 v3 x0 x1 x2 x3 : Value} {t : TypeId} (h : w.heap[b]? = some (.cells #[v0, v1, v2, v3] t (0, 0))) : ((((w.setCell ⟨b, 0, none⟩ x0).setCell ⟨b, 1, none⟩ x1).setCell ⟨b, 2, none⟩ x2).setCell ⟨b, 3, none⟩ x3).heap[b]? = some (.cells #[x0, x1, x2, x3] t (0, 0)) := by
  simp [World.setCell, Array.getElem?_modify, h]
theorem fz_four {w : World} {b : Nat} {v0 v1 v2 v3 : Value} {t : TypeId} (h : w.heap[b]? = some (.cells #[v0, v1, v2, v3] t (0, 0))) : w.frozen? ⟨b, 0, none⟩ = false ∧ w.frozen? ⟨b, 1, none⟩ = false ∧ w.frozen? ⟨b, 2, none⟩ = false ∧ w.frozen? ⟨b, 3, none⟩ = false := by
  simp [World.frozen?, h]
theorem QM.sets {w u : World} {c : Array Value} {b : Nat} {x0 x1 x2 x3 : Value} (h : QM w c u) (hb : w.heap.size < b) : QM w c ((((u.setCell ⟨b, 0, none⟩ x0).setCell ⟨b, 1, none⟩ x1).setCell ⟨b, 2, none⟩ x2).setCell ⟨b, 3, none⟩ x3) := by
  refine ⟨(((h.1.setCell (p := ⟨b, 0, none⟩) (by show w.heap.size ≤ b; omega) _).setCell (p := ⟨b, 1, none⟩) (by show w.heap.size ≤ b; omega) _).setCell (p := ⟨b, 2, none⟩) (by show w.heap.size ≤ b; omega) _).setCell (p := ⟨b, 3, none⟩) (by show w.heap.size ≤ b; omega) _, ?_⟩
  rw [Below.heap_setCell _ _ _ _ (by show w.heap.size ≠ b; omega), Below.heap_setCell _ _ _ _ (by show w.heap.size ≠ b; omega), Below.heap_setCell _ _ _ _ (by show w.heap.size ≠ b; omega), Below.heap_setCell _ _ _ _ (by show w.heap.size ≠ b; omega)]
  exact h.2
theorem QM.lt {w u : World} {c : Array Value} (h : QM w c u) : w.heap.size < u.heap.size := lt_of_block h.2
/-- What looking for a kind comes to, at region 1 of Write. -/
def KcR (w : World) (c : Array Value) (kk : Array Value) (ok : Bool) (v4 v5 : Value) (wx : World) : Prop := ∃ B, v4 = .pointer (some ⟨B, 0, none⟩) ∧ v5 = .bool ok ∧ wx.heap[B]? = some (.cells kk 45 (0, 0)) ∧ QM w c wx
/-- The map of all kinds, from a world where a boxed message stands. -/
theorem kinds_qm (w : World) (c : Array Value) (k : Int) (hk : (Lit.int .i64 k).wf = true) (V : Value) (ok : Bool) (hV : kdV k = V) (hok : isKd k = ok) : ∀ u, QM w c u → Calls Try.prog 17 #[] u fun e w' => ∃ b, e = .returned (.map (some b)) ∧ (∀ w2, Below w'.heap.size w' w2 → (Instr.lookup 47 (.map (some b)) (.int .i64 k) true).run Try.prog w2 = .ok (.tuple #[V, .bool ok]) w2) ∧ QM w c w' ∧ Below u.heap.size u w' := fun u h => (kinds_any u).mono fun e w' ⟨b, h1, h2, _, h4⟩ => ⟨b, h1, fun w2 hb => by rw [← hV, ← hok]; exact KdM.look (MapI.old h2 hb) k hk, h.old h4, h4⟩
/-- What Write comes to: its bytes. -/
def sealM (L : List Int) : List Int := L ++ octs ((crcM (BitVec.ofNat 32 0) L).toNat : Int) 4
def txM (m : Ms) (G : List (Int × Int)) (D : List Int) : List Int := bg 1 m.k ++ bg 4 m.bo ++ bdM m G D
set_option maxHeartbeats 6400000 in
theorem write_unknown (m : Ms) (w : World) (hk : (Lit.int .i64 m.k).wf = true) (hn : isKd m.k = false) : Calls Try.prog 9 #[m.V] w fun e w' => e = .returned (.tuple #[.slice none 0 0, .int .i64 1]) ∧ Below w.heap.size w w' := by
  have HQ : Hid (QM w m.c12 _) := QM.box w m.c12
  have hV : kdV m.k = kd_zero := by
    have h := of_decide_eq_false hn
    unfold kdV
    rw [if_neg (by omega), if_neg (by omega), if_neg (by omega), if_neg (by omega), if_neg (by omega)]
  have HK : Hid _ := kinds_qm w m.c12 m.k hk _ _ hV hn
  clear hV hn hk
  unfold kd_zero at HK
  obtain ⟨k, bo, fi, su, si, ap, bd, ix, pa, co, ra, rn, rc, da, dn, dc⟩ := m
  unfold Ms.V at *
  unfold Ms.c12 at *
  simp only at *
  go_enter Try.func9, Try.ntmps9
  go_upto_region 1 with fail
  go_cut [4, 5] (fun v4 v5 wx => KcR w #[.int .i64 k, .int .u32 bo, .int .i64 fi, .int .u32 su, .int .i64 si, .int .i64 ap, .int .i64 bd, .int .i64 ix, .int .i64 pa, .int .i64 co, .slice ra rn rc, .slice da dn dc] #[.nilFunc, .nilFunc, .nilFunc, .nilFunc] false v4 v5 wx)
  case first =>
    have HQa : Hid (QM w #[.int .i64 k, .int .u32 bo, .int .i64 fi, .int .u32 su, .int .i64 si, .int .i64 ap, .int .i64 bd, .int .i64 ix, .int .i64 pa, .int .i64 co, .slice ra rn rc, .slice da dn dc] (w.alloc (.cells #[.int .i64 k, .int .u32 bo, .int .i64 fi, .int .u32 su, .int .i64 si, .int .i64 ap, .int .i64 bd, .int .i64 ix, .int .i64 pa, .int .i64 co, .slice ra rn rc, .slice da dn dc] 26)).drew) := HQ.out.old ⟨rfl, rfl, rfl, Nat.le_refl _, fun _ _ => rfl⟩
    have HQb : Hid (QM w #[.int .i64 k, .int .u32 bo, .int .i64 fi, .int .u32 su, .int .i64 si, .int .i64 ap, .int .i64 bd, .int .i64 ix, .int .i64 pa, .int .i64 co, .slice ra rn rc, .slice da dn dc] ((w.alloc (.cells #[.int .i64 k, .int .u32 bo, .int .i64 fi, .int .u32 su, .int .i64 si, .int .i64 ap, .int .i64 bd, .int .i64 ix, .int .i64 pa, .int .i64 co, .slice ra rn rc, .slice da dn dc] 26)).alloc (.cells #[.nilFunc, .nilFunc, .nilFunc, .nilFunc] 45)).drew) := (HQ.out.old ((Below.refl _ _).alloc (Nat.le_refl _) _)).old ⟨rfl, rfl, rfl, Nat.le_refl _, fun _ _ => rfl⟩
    have HKB : Hid (((w.alloc (.cells #[.int .i64 k, .int .u32 bo, .int .i64 fi, .int .u32 su, .int .i64 si, .int .i64 ap, .int .i64 bd, .int .i64 ix, .int .i64 pa, .int .i64 co, .slice ra rn rc, .slice da dn dc] 26)).alloc (.cells #[.nilFunc, .nilFunc, .nilFunc, .nilFunc] 45)).drew.heap[w.heap.size + 1]? = some (.cells #[.nilFunc, .nilFunc, .nilFunc, .nilFunc] 45 (0, 0))) := by
      have := heap_alloc_newM (w.alloc (.cells #[.int .i64 k, .int .u32 bo, .int .i64 fi, .int .u32 su, .int .i64 si, .int .i64 ap, .int .i64 bd, .int .i64 ix, .int .i64 pa, .int .i64 co, .slice ra rn rc, .slice da dn dc] 26)) (.cells #[.nilFunc, .nilFunc, .nilFunc, .nilFunc] 45)
      have e : (w.alloc (.cells #[.int .i64 k, .int .u32 bo, .int .i64 fi, .int .u32 su, .int .i64 si, .int .i64 ap, .int .i64 bd, .int .i64 ix, .int .i64 pa, .int .i64 co, .slice ra rn rc, .slice da dn dc] 26)).heap.size = w.heap.size + 1 := by simp
      rw [e] at this
      exact this
    obtain ⟨f0, f1, f2, f3, f4, f5, f6, f7, f8, f9, f10, f11⟩ := twelve_cells HQa.out.2
    obtain ⟨g0, g1, g2, g3, g4, g5, g6, g7, g8, g9, g10, g11⟩ := twelve_cells HQb.out.2
    go_region_held3 (fun u => u.cell? ⟨w.heap.size, 0, none⟩ = some (.int .i64 k))
      (first | (with_reducible assumption) | go_keep) (first
      | (go_at_call 17; (with_reducible refine Calls.mono (HK.out _ HQa.out) ?_); rintro e x1 ⟨mb, rfl, lk, q, bl⟩; have HQx : Hid (QM w #[.int .i64 k, .int .u32 bo, .int .i64 fi, .int .u32 su, .int .i64 si, .int .i64 ap, .int .i64 bd, .int .i64 ix, .int .i64 pa, .int .i64 co, .slice ra rn rc, .slice da dn dc] x1) := q; have hlx := q.lt; obtain ⟨e0, e1, e2, e3, e4, e5, e6, e7, e8, e9, e10, e11⟩ := twelve_cells q.2; have lk0 := lk x1 (Below.refl _ _); have lk1 := lk (x1.alloc (.cells #[.nilFunc, .nilFunc, .nilFunc, .nilFunc] 45)) ((Below.refl _ _).alloc (Nat.le_refl _) _); clear lk q bl)
      | (go_at_call 17; (with_reducible refine Calls.mono (HK.out _ HQb.out) ?_); rintro e x2 ⟨mb, rfl, lk, q, bl⟩; have HQx : Hid (QM w #[.int .i64 k, .int .u32 bo, .int .i64 fi, .int .u32 su, .int .i64 si, .int .i64 ap, .int .i64 bd, .int .i64 ix, .int .i64 pa, .int .i64 co, .slice ra rn rc, .slice da dn dc] x2) := q; have hlx := q.lt; obtain ⟨e0, e1, e2, e3, e4, e5, e6, e7, e8, e9, e10, e11⟩ := twelve_cells q.2; have lk0 := lk x2 (Below.refl _ _); have lk1 := lk (x2.alloc (.cells #[.nilFunc, .nilFunc, .nilFunc, .nilFunc] 45)) ((Below.refl _ _).alloc (Nat.le_refl _) _); have hkb := (bl.block (w.heap.size + 1) (by simp)).trans HKB.out; obtain ⟨s0, s1, s2, s3⟩ := kd_cells hkb; obtain ⟨z0, z1, z2, z3⟩ := fz_four hkb; have HKX : Hid (x2.heap[w.heap.size + 1]? = some (.cells #[.nilFunc, .nilFunc, .nilFunc, .nilFunc] 45 (0, 0))) := hkb; clear hkb; clear lk q bl)
      | fail)
    all_goals go_wp2
    all_goals go_meet
    all_goals first
      | exact ⟨x1.heap.size, rfl, rfl, heap_alloc_newM _ _, HQx.out.old ((Below.refl _ _).alloc (Nat.le_refl _) _)⟩
      | exact ⟨w.heap.size + 1, rfl, rfl, HKX.out, HQx.out⟩
      | exact ⟨w.heap.size + 1, rfl, rfl, set_four HKX.out, HQx.out.sets (by omega)⟩
  case rest =>
    obtain ⟨B, rfl, rfl, hkB, hq⟩ := hcut
    have HB : Hid (Below w.heap.size w wc) := hq.1
    clear hkB hq
    go_wp2
    go_ret2
    exact ⟨rfl, HB.out⟩
end Go.Proofs.Ytaibojmaghmfnaa
