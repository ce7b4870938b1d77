/- The receiver: the law's fixed. -/
import Derived.Test.YtmfciheenemapaaRqI
import Derived.Lib.SlBytesConst
import Derived.Lib.SmallJoins
namespace Go.Proofs.Ytmfciheenemapaa
open Go.RowKit
theorem lit_row (w : World) (x : Int) : Row (w.alloc (.cells #[.int .u8 x] 5 (1, 2))) (some ⟨w.heap.size, 0, none⟩) [x] := by
  refine .inr ⟨w.heap.size, 0, rfl, fun i hi => ?_⟩
  have : i = 0 := by simp at hi; omega
  subst this
  rw [World.cell?_alloc_mark]
  rfl
theorem lit_pt (w : World) (x : Int) (hx : 0 ≤ x ∧ x < 256) : PtOk (w.alloc (.cells #[.int .u8 x] 5 (1, 2))) ⟨some ⟨w.heap.size, 0, none⟩, 1, [x]⟩ :=
  ⟨(fun z hz => by simp at hz; subst hz; exact hx), Nat.le_refl _, (by simp), (fun h => by cases h), lit_row w x⟩
theorem lit_parts (w : World) (x : Int) (hx : 0 ≤ x ∧ x < 256) : PsM ((w.alloc (.cells #[.int .u8 x] 5 (1, 2))).alloc (.cells #[.slice (some ⟨w.heap.size, 0, none⟩) 1 1] 32)) (some ⟨w.heap.size + 1, 0, none⟩) [⟨some ⟨w.heap.size, 0, none⟩, 1, [x]⟩] := by
  refine .inr ⟨_, 0, rfl, fun i q hq => ?_⟩
  have hi : i = 0 := by
    obtain ⟨h, _⟩ := List.getElem?_eq_some_iff.1 hq
    simp at h; omega
  subst hi
  simp only [List.getElem?_cons_zero, Option.some.injEq] at hq
  subst hq
  refine ⟨?_, pt_old (lit_pt w x hx) (below_allocR _ _)⟩
  have := World.cell?_alloc_mark (w.alloc (.cells #[.int .u8 x] 5 (1, 2))) #[.slice (some ⟨w.heap.size, 0, none⟩) 1 1] 32 (0, 0) 0
  rw [show (w.alloc (.cells #[.int .u8 x] 5 (1, 2))).heap.size = w.heap.size + 1 by simp] at this
  exact this
theorem lit_parts2 (w : World) (x y : Int) (hx : 0 ≤ x ∧ x < 256) (hy : 0 ≤ y ∧ y < 256) : PsM (((w.alloc (.cells #[.int .u8 x] 5 (1, 2))).alloc (.cells #[.int .u8 y] 5 (1, 2))).alloc (.cells #[.slice (some ⟨w.heap.size, 0, none⟩) 1 1, .slice (some ⟨w.heap.size + 1, 0, none⟩) 1 1] 32)) (some ⟨w.heap.size + 2, 0, none⟩) [⟨some ⟨w.heap.size, 0, none⟩, 1, [x]⟩, ⟨some ⟨w.heap.size + 1, 0, none⟩, 1, [y]⟩] := by
  refine .inr ⟨_, 0, rfl, fun i q hq => ?_⟩
  have hi : i = 0 ∨ i = 1 := by
    obtain ⟨h, _⟩ := List.getElem?_eq_some_iff.1 hq
    simp at h; omega
  have hc := fun j => World.cell?_alloc_mark ((w.alloc (.cells #[.int .u8 x] 5 (1, 2))).alloc (.cells #[.int .u8 y] 5 (1, 2))) #[.slice (some ⟨w.heap.size, 0, none⟩) 1 1, .slice (some ⟨w.heap.size + 1, 0, none⟩) 1 1] 32 (0, 0) j
  rw [show ((w.alloc (.cells #[.int .u8 x] 5 (1, 2))).alloc (.cells #[.int .u8 y] 5 (1, 2))).heap.size = w.heap.size + 2 by simp] at hc
  rcases hi with rfl | rfl
  · simp only [List.getElem?_cons_zero, Option.some.injEq] at hq
    subst hq
    exact ⟨hc 0, pt_old (pt_old (lit_pt w x hx) (below_allocR _ _)) (below_allocR _ _)⟩
  · simp only [List.getElem?_cons_succ, List.getElem?_cons_zero, Option.some.injEq] at hq
    subst hq
    have h2 := lit_pt (w.alloc (.cells #[.int .u8 x] 5 (1, 2))) y hy
    have e : (w.alloc (.cells #[.int .u8 x] 5 (1, 2))).heap.size = w.heap.size + 1 := by simp
    rw [e] at h2
    exact ⟨hc 1, pt_old h2 (below_allocR _ _)⟩
theorem lit_rg (w : World) (x y : Int) : RgR (w.alloc (.cells #[.int .i64 x, .int .i64 y] 48)) (some ⟨w.heap.size, 0, none⟩) [(x, y)] := by
  refine .inr ⟨_, 0, rfl, fun i hi => ?_⟩
  have : i = 0 := by simp at hi; omega
  subst this
  have hc := fun j => World.cell?_alloc_mark w #[.int .i64 x, .int .i64 y] 48 (0, 0) j
  exact ⟨hc 0, hc 1⟩
theorem RgR.f2 {w w' : World} {a : Option Addr} {G : List (Int × Int)} {b m : Nat} (h : RgR w a G) (f : F2 b m w w') (hn : ∀ x, a = some x → x.block ≠ b ∧ x.block ≠ m) : RgR w' a G := by
  rcases h with h | ⟨k, off, rfl, hc⟩
  · exact .inl h
  · obtain ⟨n1, n2⟩ := hn _ rfl
    exact .inr ⟨k, off, rfl, fun i hi => ⟨(World.cell?_of_block (a := ⟨k, off + i * 2, none⟩) (f.block _ (cell_lt (hc i hi).1) n1 n2)).trans (hc i hi).1, (World.cell?_of_block (a := ⟨k, off + i * 2 + 1, none⟩) (f.block _ (cell_lt (hc i hi).2) n1 n2)).trans (hc i hi).2⟩⟩
theorem wfR (i : Int) (h : -1000 ≤ i ∧ i ≤ 1000) : (Lit.int .i64 i).wf = true := WalkArith.wf_i64 ⟨by omega, by omega⟩
theorem byte1 (x : Int) (h : 0 ≤ x ∧ x < 256) : Bytes [x] := fun z hz => by simp at hz; subst hz; exact h
/-- Take, where what it leaves is plain. -/
def TkX (w : World) (b m : Nat) (n W : Int) (zs : List Int) (L : Nat) (P : Pt → List Pt) (nx : Int) (H : Pt → List (Int × Pt)) (e : Ending) (w' : World) : Prop :=
  ∃ (q : Pt) (a : Option Addr) (c : Nat), q.z = zs ∧ e = .returned (.tuple #[.slice a L c, .bool true]) ∧ TdM w' b m (.slice a L c) (P q) ∧ F2 b m w w' ∧ Rc w' b m n W nx (H q)
theorem take_x {w : World} {b m : Nat} {n W nx : Int} {H : List (Int × Pt)} (h : Rc w b m n W nx H) (i : Int) (hi : (Lit.int .i64 i).wf = true) (x : Int) (hx : 0 ≤ x ∧ x < 256) (hmc : mcB n W nx H i = true) (L : Nat) (P : Pt → List Pt) (nx' : Int) (H' : Pt → List (Int × Pt)) (hX : ∀ q, relN nx (hIns i q H) = (P q, nx', H' q)) (hL : ∀ q, (P q).length = L) :
    Calls Try.prog 11 #[.pointer (some ⟨b, 0, none⟩), .int .i64 i, .slice (some ⟨w.heap.size, 0, none⟩) 1 1] (w.alloc (.cells #[.int .u8 x] 5 (1, 2))) fun e w' => TkX w b m n W [x] L P nx' H' e w' := by
  refine (take_z (zs := [x]) (h.old (below_allocR _ _)) i hi rfl (by intro h; cases h) (by simp) (byte1 x hx) (lit_row _ _) hmc).mono ?_
  rintro e w' ⟨q, a, c, q1, -, rfl, q2, q3, q4⟩
  rw [hX] at q2 q4
  rw [hX]
  simp only [hL] at q2 q4 ⊢
  exact ⟨q, a, c, q1, rfl, q2, (F2.of_below (below_allocR _ _)).trans q3, q4⟩
theorem conv2 (w : World) : (convert 32 32 (.slice (some ⟨w.heap.size + 1, 0, none⟩) 1 1)).run Try.prog ((w.alloc (.cells #[.int .u8 122] 5 (1, 2))).alloc (.cells #[.int .u8 120] 5)) = .ok (.slice (some ⟨w.heap.size + 1, 0, none⟩) 1 1) ((w.alloc (.cells #[.int .u8 122] 5 (1, 2))).alloc (.cells #[.int .u8 120] 5 (1, 2))) :=
  Joins.run_convert_bytes_const_at (P := Try.prog) (w.alloc (.cells #[.int .u8 122] 5 (1, 2))) 32 5 #[.int .u8 120] 1 1 (w.heap.size + 1) (by simp) Try.underlying32 Try.underlying5
set_option maxHeartbeats 16000000 in
theorem rfixed_any (w : World) : Calls Try.prog 7 #[] w fun e w' => e = .returned (.bool true) ∧ Below w.heap.size w w' := by
  have HN : Hid (Calls Try.prog 8 #[.int .i64 4, .int .i64 3] w fun e w' => NwP w 4 3 e w') := rnew_yes 4 3 w (by omega)
  have kc := fun (w : World) (C : Array Value) (n c : Nat) => Lib.run_convert_bytes_const (P := Try.prog) w 32 5 C n c Try.underlying32 Try.underlying5
  go_enter Try.func7, Try.ntmps7
  go_wp2_with fail
  refine Calls.mono HN.out ?_
  rintro e w1 ⟨b, m, rfl, h1, h2, h3, h4⟩
  have HR1 : Hid (Rc w1 b m 4 3 0 [] ∧ Below w.heap.size w w1 ∧ w.heap.size ≤ b ∧ w.heap.size ≤ m) := ⟨h1, h2, h3, h4⟩
  clear HN h1 h2 h3 h4
  have C1 : Hid _ := take_x HR1.out.1 2 (wfR 2 (by omega)) 120 (by omega) (by decide) 0 (fun _ => []) 0 (fun q => [(2, q)]) (fun q => by simp [relN, hIns]) (fun _ => rfl)
  go_upto_region 3 with (go_at_call 11; refine Calls.mono C1.out ?_; rintro e w2 ⟨q, a2, c2, e1, rfl, -, f2, r2⟩)
  have HR2 : Hid (q.z = [120] ∧ Rc w2 b m 4 3 0 [(2, q)] ∧ F2 b m w1 w2) := ⟨e1, r2, f2⟩
  clear e1 f2 r2 C1
  have C2 : Hid _ := ranges_any HR2.out.2.1
  go_upto_region 4 with (go_at_call 19; refine Calls.mono C2.out ?_; rintro e w3 ⟨v3, rfl, o3, b3⟩; obtain ⟨a3, c3, rfl, g3, n3⟩ := owns_rgR o3)
  have HR3 : Hid (RgR w3 a3 [(2, 3)] ∧ (∀ x, a3 = some x → x.block ≠ b ∧ x.block ≠ m) ∧ Below w2.heap.size w2 w3) := ⟨g3, fun x hx => ⟨by have := n3 x hx; have := lt_of_block HR2.out.2.1.c; omega, by have := n3 x hx; have := HR2.out.2.1.m.lt; omega⟩, b3⟩
  clear o3 b3 g3 n3 C2
  have C3 : Hid _ := take_x (HR2.out.2.1.old HR3.out.2.2) 0 (wfR 0 (by omega)) 121 (by omega) (by simp [mcB, hHas]) 1 (fun p => [p]) 1 (fun _ => [(2, q)]) (fun p => by simp [relN, hIns]) (fun _ => rfl)
  go_upto_region 5 with (go_at_call 11; refine Calls.mono C3.out ?_; rintro e w4 ⟨q1, a4, c4, e1, rfl, t4, f4, r4⟩)
  have HR4 : Hid (q1.z = [121] ∧ TdM w4 b m (.slice a4 1 c4) [q1] ∧ F2 b m w3 w4 ∧ Rc w4 b m 4 3 1 [(2, q)]) := ⟨e1, t4, f4, r4⟩
  clear e1 f4 r4 C3 t4
  have C4 : Hid _ := take_x HR4.out.2.2.2 1 (wfR 1 (by omega)) 122 (by omega) (by simp [mcB, hHas]) 2 (fun p => [p, q]) 3 (fun _ => []) (fun p => by simp [relN, hIns]) (fun _ => rfl)
  go_upto_region 6 with (go_at_call 11; refine Calls.mono C4.out ?_; rintro e w5 ⟨q2, a5, c5, e1, rfl, t5, f5, r5⟩)
  have HR5 : Hid (q2.z = [122] ∧ TdM w5 b m (.slice a5 2 c5) [q2, q] ∧ F2 b m w4 w5 ∧ Rc w5 b m 4 3 3 []) := ⟨e1, t5, f5, r5⟩
  clear e1 f5 r5 C4 t5
  have C5 : Hid _ := take_no (HR5.out.2.2.2.old (below_allocR w5 (.cells #[.int .u8 122] 5 (1, 2)))) 1 (wfR 1 (by omega)) (.slice (some ⟨w5.heap.size, 0, none⟩) 1 1) (by decide)
  go_upto_region 7 with (go_at_call 11; refine Calls.mono C5.out ?_; rintro e w6 ⟨rfl, b6⟩)
  have hb6 : Below w5.heap.size w5 w6 := (below_allocR w5 _).trans (b6.mono (below_allocR w5 _).size)
  have HB6 : Hid (Below w.heap.size w w6) := by
    have g1 := HR1.out.2.1.size
    have g2 := HR2.out.2.2.size
    have g3 := HR3.out.2.2.size
    have g4 := HR4.out.2.2.1.size
    have g5 := HR5.out.2.2.1.size
    have k1 := F2.below HR1.out.2.1 HR2.out.2.2 HR1.out.2.2.1 HR1.out.2.2.2 g1
    have k2 := k1.trans (HR3.out.2.2.mono k1.size)
    have k3 := F2.below k2 HR4.out.2.2.1 HR1.out.2.2.1 HR1.out.2.2.2 k2.size
    have k4 := F2.below k3 HR5.out.2.2.1 HR1.out.2.2.1 HR1.out.2.2.2 k3.size
    exact k4.trans (hb6.mono k4.size)
  have HG : Hid (RgR w6 a3 [(2, 3)]) := ((HR3.out.1.f2 HR4.out.2.2.1 HR3.out.2.1).f2 HR5.out.2.2.1 HR3.out.2.1).old hb6
  have HP : Hid (PsM w6 a4 [q1] ∧ PsM w6 a5 [q2, q] ∧ q1.z = [121] ∧ q2.z = [122] ∧ q.z = [120]) :=
    ⟨((HR4.out.2.1.f2 HR4.out.2.2.2 HR5.out.2.2.1).old hb6).ps, (HR5.out.2.1.old hb6).ps, HR4.out.1, HR5.out.1, HR2.out.1⟩
  have HRc : Hid (Rc w6 b m 4 3 3 []) := HR5.out.2.2.2.old hb6
  clear HR1 HR2 HR3 HR4 HR5 C5 b6 hb6
  have C6 : Hid _ := sameR_yes a3 (some ⟨w6.heap.size, 0, none⟩) 1 c3 1 [(2, 3)] _ rfl (by omega) (HG.out.old (below_allocR w6 (.cells #[.int .i64 2, .int .i64 3] 48))) (lit_rg w6 2 3)
  have C7 : Hid (∀ u, Below w6.heap.size w6 u → Calls Try.prog 13 #[.slice a4 1 c4, .slice (some ⟨u.heap.size + 1, 0, none⟩) 1 1] ((u.alloc (.cells #[.int .u8 121] 5 (1, 2))).alloc (.cells #[.slice (some ⟨u.heap.size, 0, none⟩) 1 1] 32)) fun e w' => e = .returned (.bool true) ∧ Below w6.heap.size w6 w') := fun u hu => by
    have hl : Below w6.heap.size w6 ((u.alloc (.cells #[.int .u8 121] 5 (1, 2))).alloc (.cells #[.slice (some ⟨u.heap.size, 0, none⟩) 1 1] 32)) := (hu.trans ((below_allocR u _).mono hu.size)).trans ((below_allocR _ _).mono (Nat.le_trans hu.size (below_allocR u _).size))
    refine (sameP_yes a4 _ 1 c4 1 [q1] [⟨some ⟨u.heap.size, 0, none⟩, 1, [121]⟩] _ (by omega) rfl rfl (fun i => ?_) (HP.out.1.old hl) (lit_parts u 121 (by omega))).mono fun e w' q => ⟨q.1, hl.trans (q.2.mono hl.size)⟩
    match i with
    | 0 => simp [HP.out.2.2.1]
    | i + 1 => simp
  have C8 : Hid (∀ u, Below w6.heap.size w6 u → Calls Try.prog 13 #[.slice a5 2 c5, .slice (some ⟨u.heap.size + 2, 0, none⟩) 2 2] (((u.alloc (.cells #[.int .u8 122] 5 (1, 2))).alloc (.cells #[.int .u8 120] 5 (1, 2))).alloc (.cells #[.slice (some ⟨u.heap.size, 0, none⟩) 1 1, .slice (some ⟨u.heap.size + 1, 0, none⟩) 1 1] 32)) fun e w' => e = .returned (.bool true) ∧ Below w6.heap.size w6 w') := fun u hu => by
    have h1 : Below w6.heap.size w6 ((u.alloc (.cells #[.int .u8 122] 5 (1, 2))).alloc (.cells #[.int .u8 120] 5 (1, 2))) := (hu.trans ((below_allocR u _).mono hu.size)).trans ((below_allocR _ _).mono (Nat.le_trans hu.size (below_allocR u _).size))
    have hl := h1.trans ((below_allocR _ (.cells #[.slice (some ⟨u.heap.size, 0, none⟩) 1 1, .slice (some ⟨u.heap.size + 1, 0, none⟩) 1 1] 32)).mono h1.size)
    refine (sameP_yes a5 _ 2 c5 2 [q2, q] [⟨some ⟨u.heap.size, 0, none⟩, 1, [122]⟩, ⟨some ⟨u.heap.size + 1, 0, none⟩, 1, [120]⟩] _ (by omega) rfl rfl (fun i => ?_) (HP.out.2.1.old hl) (lit_parts2 u 122 120 (by omega) (by omega))).mono fun e w' q => ⟨q.1, hl.trans (q.2.mono hl.size)⟩
    match i with
    | 0 => simp [HP.out.2.2.2.1]
    | 1 => simp [HP.out.2.2.2.2]
    | i + 2 => simp
  have C9 : Hid (∀ u, Below w6.heap.size w6 u → Calls Try.prog 14 #[.pointer (some ⟨b, 0, none⟩)] u fun e w' => e = .returned (.int .i64 3) ∧ w' = u) := fun u hu => rnext_any (HRc.out.old hu)
  go_wp2_with (first
    | (go_at_call 18; refine Calls.mono C6.out ?_; rintro e w7 ⟨rfl, b7⟩; have HB7 : Hid (Below w6.heap.size w6 w7) := (below_allocR w6 _).trans (b7.mono (below_allocR w6 _).size); clear b7)
    | (go_at_call 13; refine Calls.mono (C7.out _ HB7.out) ?_; rintro e w8 ⟨rfl, b8⟩; have HB8 : Hid (Below w6.heap.size w6 w8) := b8; clear b8 C7; have kc2 := conv2 w8)
    | (go_at_call 13; refine Calls.mono (C8.out _ HB8.out) ?_; rintro e w9 ⟨rfl, b9⟩; have HB9 : Hid (Below w6.heap.size w6 w9) := b9; clear b9)
    | (go_at_call 14; refine Calls.mono (C9.out _ HB9.out) ?_; rintro e w10 ⟨rfl, rfl⟩))
  go_ret
  exact ⟨rfl, HB6.out.trans (HB9.out.mono HB6.out.size)⟩
end Go.Proofs.Ytmfciheenemapaa
