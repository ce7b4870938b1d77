/- Calls whose answers the document fixes. -/
import Derived.Test.YtchaggngdfioeaaFlF
namespace Go.Proofs.Ytchaggngdfioeaa
open Go.RowKit
theorem row_arrF {w : World} {s : Nat} (hs : s = w.heap.size) (l : List Int) (cs : Array Value) (fr : Nat × Nat) (hc : cs = (vals l).toArray) : Row (w.alloc (.cells cs 5 fr)) (some ⟨s, 0, none⟩) l := by
  subst hs hc
  refine .inr ⟨_, 0, rfl, fun i hi => ?_⟩
  rw [World.cell?_alloc_mark, Nat.zero_add, ← vals_at l i hi]
  simp
def wantN : Nat → List Int
  | 0 => [5, 7, 9]
  | 1 => [5, 2, 2]
  | 2 => [4, 5, 6]
  | 3 => [5, 4, 4]
  | _ => [4, 2, 2]
theorem want_do (j : Nat) (h : j < 5) : doN j [5, 7, 9] [1, 2, 3] 1 = wantN j := by
  match j, h with
  | 0, _ => decide
  | 1, _ => decide
  | 2, _ => decide
  | 3, _ => decide
  | 4, _ => decide
structure FxI (w wr : World) : Prop where
  be : Below w.heap.size w wr
  r : Row wr (some ⟨w.heap.size, 0, none⟩) [5, 7, 9]
  u : Row wr (some ⟨w.heap.size + 1, 0, none⟩) [1, 2, 3]
  h : ∀ j, j < 5 → Row wr (some ⟨w.heap.size + 2 + j, 0, none⟩) (wantN j)
  c : ∀ j, j < 5 → wr.cell? ⟨w.heap.size + 7, j, none⟩ = some (.slice (some ⟨w.heap.size + 2 + j, 0, none⟩) 3 3)
theorem FxI.old {w wr w' : World} (H : FxI w wr) (hb : Below wr.heap.size wr w') : FxI w w' :=
  ⟨H.be.trans (hb.mono H.be.size), H.r.old hb, H.u.old hb, fun j hj => (H.h j hj).old hb, fun j hj => (World.cell?_of_block (a := ⟨w.heap.size + 7, j, none⟩) (hb.block _ (cell_lt (H.c j hj)))).trans (H.c j hj)⟩
theorem fx_chain {w w1 w2 w3 w4 w5 w6 w7 w8 : World} (e1 : w1 = w.alloc (.cells #[.int .u8 5, .int .u8 7, .int .u8 9] 5)) (e2 : w2 = w1.alloc (.cells #[.int .u8 1, .int .u8 2, .int .u8 3] 5)) (e3 : w3 = w2.alloc (.cells #[.int .u8 5, .int .u8 7, .int .u8 9] 5)) (e4 : w4 = w3.alloc (.cells #[.int .u8 5, .int .u8 2, .int .u8 2] 5)) (e5 : w5 = w4.alloc (.cells #[.int .u8 4, .int .u8 5, .int .u8 6] 5)) (e6 : w6 = w5.alloc (.cells #[.int .u8 5, .int .u8 4, .int .u8 4] 5)) (e7 : w7 = w6.alloc (.cells #[.int .u8 4, .int .u8 2, .int .u8 2] 5)) (e8 : w8 = w7.alloc (.cells #[.slice (some ⟨w.heap.size + 2, 0, none⟩) 3 3, .slice (some ⟨w.heap.size + 3, 0, none⟩) 3 3, .slice (some ⟨w.heap.size + 4, 0, none⟩) 3 3, .slice (some ⟨w.heap.size + 5, 0, none⟩) 3 3, .slice (some ⟨w.heap.size + 6, 0, none⟩) 3 3] 22)) : FxI w w8 := by
  have s1 : w1.heap.size = w.heap.size + 1 := by rw [e1]; simp
  have s2 : w2.heap.size = w.heap.size + 2 := by rw [e2]; simp [s1]
  have s3 : w3.heap.size = w.heap.size + 3 := by rw [e3]; simp [s2]
  have s4 : w4.heap.size = w.heap.size + 4 := by rw [e4]; simp [s3]
  have s5 : w5.heap.size = w.heap.size + 5 := by rw [e5]; simp [s4]
  have s6 : w6.heap.size = w.heap.size + 6 := by rw [e6]; simp [s5]
  have s7 : w7.heap.size = w.heap.size + 7 := by rw [e7]; simp [s6]
  have a1 : Below w.heap.size w w1 := by rw [e1]; exact (Below.refl _ _).alloc (Nat.le_refl _) _
  have a2 : Below w1.heap.size w1 w2 := by rw [e2]; exact (Below.refl _ _).alloc (Nat.le_refl _) _
  have a3 : Below w2.heap.size w2 w3 := by rw [e3]; exact (Below.refl _ _).alloc (Nat.le_refl _) _
  have a4 : Below w3.heap.size w3 w4 := by rw [e4]; exact (Below.refl _ _).alloc (Nat.le_refl _) _
  have a5 : Below w4.heap.size w4 w5 := by rw [e5]; exact (Below.refl _ _).alloc (Nat.le_refl _) _
  have a6 : Below w5.heap.size w5 w6 := by rw [e6]; exact (Below.refl _ _).alloc (Nat.le_refl _) _
  have a7 : Below w6.heap.size w6 w7 := by rw [e7]; exact (Below.refl _ _).alloc (Nat.le_refl _) _
  have a8 : Below w7.heap.size w7 w8 := by rw [e8]; exact (Below.refl _ _).alloc (Nat.le_refl _) _
  have r1 : Row w1 (some ⟨w.heap.size, 0, none⟩) [5, 7, 9] := by rw [e1]; exact row_arrF rfl [5, 7, 9] _ _ rfl
  have r2 : Row w2 (some ⟨w.heap.size + 1, 0, none⟩) [1, 2, 3] := by rw [e2]; exact row_arrF s1.symm [1, 2, 3] _ _ rfl
  have r3 : Row w3 (some ⟨w.heap.size + 2, 0, none⟩) [5, 7, 9] := by rw [e3]; exact row_arrF s2.symm [5, 7, 9] _ _ rfl
  have r4 : Row w4 (some ⟨w.heap.size + 3, 0, none⟩) [5, 2, 2] := by rw [e4]; exact row_arrF s3.symm [5, 2, 2] _ _ rfl
  have r5 : Row w5 (some ⟨w.heap.size + 4, 0, none⟩) [4, 5, 6] := by rw [e5]; exact row_arrF s4.symm [4, 5, 6] _ _ rfl
  have r6 : Row w6 (some ⟨w.heap.size + 5, 0, none⟩) [5, 4, 4] := by rw [e6]; exact row_arrF s5.symm [5, 4, 4] _ _ rfl
  have r7 : Row w7 (some ⟨w.heap.size + 6, 0, none⟩) [4, 2, 2] := by rw [e7]; exact row_arrF s6.symm [4, 2, 2] _ _ rfl
  refine ⟨?_, (((((((r1.old a2).old a3).old a4).old a5).old a6).old a7).old a8), ((((((r2.old a3).old a4).old a5).old a6).old a7).old a8), ?_, ?_⟩
  · have b2 := a1.trans (a2.mono a1.size)
    have b3 := b2.trans (a3.mono b2.size)
    have b4 := b3.trans (a4.mono b3.size)
    have b5 := b4.trans (a5.mono b4.size)
    have b6 := b5.trans (a6.mono b5.size)
    have b7 := b6.trans (a7.mono b6.size)
    have b8 := b7.trans (a8.mono b7.size)
    exact b8
  · intro j hj
    match j, hj with
    | 0, _ => exact (((((r3.old a4).old a5).old a6).old a7).old a8)
    | 1, _ => exact ((((r4.old a5).old a6).old a7).old a8)
    | 2, _ => exact (((r5.old a6).old a7).old a8)
    | 3, _ => exact ((r6.old a7).old a8)
    | 4, _ => exact (r7.old a8)
  · intro j hj
    have hb : ∀ (cs : Array Value) (t : TypeId), (w7.alloc (.cells cs t)).cell? ⟨w.heap.size + 7, j, none⟩ = cs[j]? := by
      intro cs t
      rw [← s7, World.cell?_alloc_mark]
    rw [e8, hb]
    match j, hj with
    | 0, _ => rfl
    | 1, _ => rfl
    | 2, _ => rfl
    | 3, _ => rfl
    | 4, _ => rfl
theorem fx_start (w : World) : FxI w ((((((((w.alloc (.cells #[.int .u8 5, .int .u8 7, .int .u8 9] 5)).alloc (.cells #[.int .u8 1, .int .u8 2, .int .u8 3] 5)).alloc (.cells #[.int .u8 5, .int .u8 7, .int .u8 9] 5)).alloc (.cells #[.int .u8 5, .int .u8 2, .int .u8 2] 5)).alloc (.cells #[.int .u8 4, .int .u8 5, .int .u8 6] 5)).alloc (.cells #[.int .u8 5, .int .u8 4, .int .u8 4] 5)).alloc (.cells #[.int .u8 4, .int .u8 2, .int .u8 2] 5)).alloc
    (.cells #[.slice (some ⟨w.heap.size + 2, 0, none⟩) 3 3, .slice (some ⟨w.heap.size + 3, 0, none⟩) 3 3, .slice (some ⟨w.heap.size + 4, 0, none⟩) 3 3, .slice (some ⟨w.heap.size + 5, 0, none⟩) 3 3, .slice (some ⟨w.heap.size + 6, 0, none⟩) 3 3] 22)) := fx_chain rfl rfl rfl rfl rfl rfl rfl rfl
theorem fx_bytes (l : List Int) (h : (l.all fun z => decide (0 ≤ z) && decide (z < 256)) = true) : Bytes l := by
  intro z hz
  simp at h
  exact h z hz
set_option maxHeartbeats 1600000 in
theorem fixed_any (w : World) : Calls Try.prog 8 #[] w fun e w' => e = .returned (.bool true) ∧ Below w.heap.size w w' := by
  have HF : Hid (FxI w _) := fx_start w
  have HC : Hid (∀ (wr : World) (j : Nat), FxI w wr → j < 5 → Calls Try.prog 9 #[.int .i64 j, .slice (some ⟨w.heap.size, 0, none⟩) 3 3, .slice (some ⟨w.heap.size + 1, 0, none⟩) 3 3, .int .i64 1] wr fun e w' => NewB2 wr (wantN j) e w') := fun wr j H hj => by
    rw [← want_do j hj]
    exact do_any j _ 3 3 _ 3 3 1 [5, 7, 9] [1, 2, 3] wr rfl rfl (fx_bytes _ (by decide)) (fx_bytes _ (by decide)) H.r H.u (by omega) (ckN_yes (by omega) (by omega) (by omega) (by omega))
  have HL : Hid (∀ j, j < 5 → (wantN j).length = 3) := fun j hj => by rw [← want_do j hj, doN_len]; rfl
  go_enter Try.func8, Try.ntmps8
  go_wp2
  go_loopw [3, 4, 5, 6, 16] (fun _ _ _ _ i wr => ∃ j : Nat, j ≤ 5 ∧ i = .int .i64 j ∧ Hid (FxI w wr)) (fun _ _ _ _ i _ => 5 - (intOf i).toNat)
  case atStart => exact ⟨0, by omega, rfl, HF⟩
  case round =>
    clear HF
    obtain ⟨j, hj, rfl, HI⟩ := hrel
    by_cases hlt : j < 5
    · have C := HC.out wr j HI.out hlt
      have hc := HI.out.c j hlt
      generalize hK : w.heap.size + 2 + j = K at *
      have HK : Hid (w.heap.size + 2 + j = K) := hK
      clear hK
      go_wp2_with fail
      refine C.mono ?_
      clear C
      rintro e w1 ⟨a1, c1, rfl, q1, q2, q3, q4, q5⟩
      have HI1 : Hid (FxI w w1) := HI.out.old q5
      have C := same_any a1 (some ⟨K, 0, none⟩) 3 c1 3 (wantN j) w1 (HL.out j hlt) q4 (HK.out ▸ HI1.out.h j hlt)
      have hl := HL.out j hlt
      rw [hl]
      clear q1 q2 q3 q4 q5 hl
      go_wp2_with fail
      refine C.mono ?_
      clear C
      rintro e w2 ⟨rfl, rfl⟩
      go_wp2
      go_roundw
      case rel => exact ⟨j + 1, by omega, by go_num, HI1⟩
      case measure => simp [intOf]; omega
    · have HB : Hid (Below w.heap.size w wr) := HI.out.be
      go_wp2
      go_ret
      exact ⟨rfl, HB.out⟩
end Go.Proofs.Ytchaggngdfioeaa
