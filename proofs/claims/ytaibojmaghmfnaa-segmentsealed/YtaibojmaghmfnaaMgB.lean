/- The library's Grow and Concat of slices of bytes. -/
import Derived.Test.YtaibojmaghmfnaaOpC
import Derived.Test.YtaibojmaghmfnaaCrF
import Derived.Test.YtaibojmaghmfnaaRwC
import Derived.Shelf.Spec.SlicesGrow
namespace Go.Proofs.Ytaibojmaghmfnaa
open Go.RowKit
def ren53 : Shelf.Ren := { f := fun x => match x with | 4 => 41 | n => n, t := fun x => match x with | 22 => 24 | 25 => 5 | n => n, g := fun n => n }
theorem l53 : Lays8.n4 Try.prog ren53 :=
  { mixed := by kernel_rfl
    f4 := ⟨Try.f41.name, of_decide_eq_true (by kernel_rfl), Eq.trans Try.func41 (congrArg some (by kernel_rfl))⟩
    t0 := Try.underlying0
    a0 := Try.isAgg0
    z0 := Try.sizeOf0
    v0 := Try.zeroValue0
    t3 := Try.underlying3
    a3 := Try.isAgg3
    z3 := Try.sizeOf3
    v3 := Try.zeroValue3
    t4 := Try.underlying4
    a4 := Try.isAgg4
    z4 := Try.sizeOf4
    v4 := Try.zeroValue4
    t9 := Try.underlying9
    a9 := Try.isAgg9
    z9 := Try.sizeOf9
    v9 := Try.zeroValue9
    t20 := Try.underlying20
    a20 := Try.isAgg20
    z20 := Try.sizeOf20
    v20 := Try.zeroValue20
    t22 := Try.underlying24
    a22 := Try.isAgg24
    z22 := Try.sizeOf24
    v22 := Try.zeroValue24 }
def GrP (w : World) (e : Ending) (w' : World) : Prop := ∃ v g, e = .returned v ∧ Sl w' 5 v g (vals []) ∧ (∀ k, g = some k → w.heap.size ≤ k) ∧ Below w.heap.size w w'
theorem grow_any (n : Nat) (w : World) (h1 : 1 ≤ n) (h2 : n ≤ 1000000) :
    Calls Try.prog 41 #[.slice none 0 0, .int .i64 n] w fun e w' => GrP w e w' := by
  obtain ⟨i0, hi, hz0, hz1, hz2⟩ := info_parts Try.info5
  refine (Any8.slices_Grow_grow l53 i0 (.int .u8 0) hi hz0 (by rw [hz1]; exact Nat.one_pos) none 0 0 n [] w (Nat.le_refl _) (by omega) (by rw [hz2]; omega) (by omega) (by rw [hz1]; rfl) (fun _ => rfl) (by intro a h; cases h)).mono ?_
  rintro e w' ⟨rfl, rfl⟩
  have hb : ∀ o : Obj, Below w.heap.size w (w.drew.alloc o) := fun o => ⟨rfl, rfl, rfl, by simp, fun k hk => ((Below.refl w.drew.heap.size w.drew).alloc (Nat.le_refl _) o).block k hk⟩
  have hcap := grownCap_ge w n 0 (ren53.t 25)
  refine ⟨_, some w.heap.size, rfl, .inr ⟨w.heap.size, 0, _, _, rfl, rfl, heap_alloc_new _ _, ?_, Nat.zero_le _, grownCap_le_maxLen _ _ _ _ (by unfold maxLen; omega), fun i hi => by simp [vals] at hi⟩, fun k hk => by cases hk; exact Nat.le_refl _, hb _⟩
  simp [Builtin.zeroCells, Value.cells]
  omega
theorem size_cat (F : Nat → Pt) : ∀ k, (catF F k).length + (F k).z.length = (catF F (k + 1)).length := fun k => by show _ = (catF F k ++ (F k).z).length; rw [List.length_append]
theorem cat_mono (F : Nat → Pt) {k n : Nat} (h : k ≤ n) : (catF F k).length ≤ (catF F n).length := by
  induction n with
  | zero => obtain rfl : k = 0 := by omega
            exact Nat.le_refl _
  | succ m ih =>
    by_cases e : k = m + 1
    · subst e; exact Nat.le_refl _
    · have := size_cat F m; have := ih (by omega); omega
def ConRel (w : World) (F : Nat → Pt) (k : Nat) (v : Value) (wr : World) : Prop := ∃ g, Sl wr 5 v g (vals (catF F k)) ∧ (∀ j, g = some j → w.heap.size ≤ j) ∧ Below w.heap.size w wr
set_option maxHeartbeats 1600000 in
theorem concat_any (a : Option Addr) (len cap : Nat) (F : Nat → Pt) (w : World) (h : PtArg w a len cap F) (h1 : 1 ≤ (catF F len).length) (h2 : (catF F len).length ≤ 1000000) :
    Calls Try.prog 19 #[.slice a len cap] w fun e w' => NewBytes w (catF F len) e w' := by
  obtain ⟨hl, hm, hF⟩ := h
  unfold maxLen at hm
  have HF : Hid (0 < len → ∃ b off, a = some ⟨b, off, none⟩ ∧ ∀ i, i < len → w.cell? ⟨b, off + i, none⟩ = some (.slice (F i).a (F i).z.length (F i).c) ∧ PtOk w (F i)) := hF
  have HS : Hid (1 ≤ (catF F len).length ∧ (catF F len).length ≤ 1000000) := ⟨h1, h2⟩
  clear hF h1 h2
  go_enter Try.func19, Try.ntmps19
  go_wp2
  go_loop [3, 5, 11] (fun s _ t => ∃ k : Nat, k ≤ len ∧ t = .int .i64 k ∧ s = .int .i64 ((catF F k).length : Nat)) (fun _ _ t => len - (intOf t).toNat)
  case atStart => exact ⟨0, Nat.zero_le _, rfl, rfl⟩
  case round =>
    obtain ⟨k, hk, rfl, rfl⟩ := hrel
    have hck := cat_mono F hk
    have hS2 := HS.out.2
    obtain ⟨N, hN⟩ : ∃ N, (catF F k).length = N := ⟨_, rfl⟩
    have HN : Hid ((catF F k).length = N) := hN
    rw [hN] at hck ⊢
    clear hN
    by_cases hlt : k < len
    · obtain ⟨b, off, rfl, hc⟩ := HF.out (by omega)
      obtain ⟨hcl, hq1, hq2, hq3, hq4, hq5⟩ := hc k hlt
      have HA : Hid ((catF F (k + 1)).length = N + (F k).z.length) := (by rw [← size_cat, HN.out] : (catF F (k + 1)).length = N + (F k).z.length)
      have hb2 : N + (F k).z.length ≤ 1000000 := by have := cat_mono F (show k + 1 ≤ len by omega); have := HA.out; omega
      clear hc hq1 hq5 hck hS2
      obtain ⟨L, hL⟩ : ∃ L, (F k).z.length = L := ⟨_, rfl⟩
      rw [hL] at hcl hb2
      rw [hL] at HA
      clear hL hq2 hq3 hq4
      go_wp2
      go_round
      case rel => exact ⟨k + 1, by omega, by go_num, by rw [HA.out]; go_num⟩
      case measure => simp [intOf]; omega
    · obtain rfl : k = len := by omega
      have hn1 : 1 ≤ N := by have := HS.out.1; have := HN.out; omega
      have hn2 : N ≤ 1000000 := by have := HS.out.2; have := HN.out; omega
      clear hck hS2
      go_wp2_with fail
      refine (grow_any N w hn1 hn2).mono ?_
      rintro e w1 ⟨v, g, rfl, s1, g1, b1⟩
      have HR : Hid (ConRel w F 0 v w1) := ⟨g, s1, g1, b1⟩
      clear s1 g1 b1
      go_wp2
      go_loopw [6, 8, 27] (fun v _ t wr => ∃ j : Nat, j ≤ k ∧ t = .int .i64 j ∧ ConRel w F j v wr) (fun _ _ t _ => k - (intOf t).toNat)
      case atStart => exact ⟨0, Nat.zero_le _, rfl, HR.out⟩
      case round =>
        clear HR
        obtain ⟨j, hj, rfl, g, s1, g1, b1⟩ := hrel
        by_cases hjl : j < k
        · obtain ⟨b, off, rfl, hc⟩ := HF.out (by omega)
          obtain ⟨hcl, hq⟩ := hc j hjl
          have hcl' := (b1.cell (p := ⟨b, off + j, none⟩) (cell_lt hcl)).trans hcl
          have HQ : Hid (PtOk w (F j)) := hq
          have HG : Hid (∀ i, g = some i → w.heap.size ≤ i) := g1
          have HL : Hid ((catF F j).length + (F j).z.length ≤ 1000000) := (by rw [size_cat]; have := cat_mono F (show j + 1 ≤ k by omega); have := HS.out.2; omega : (catF F j).length + (F j).z.length ≤ 1000000)
          have HC : Hid (catF F (j + 1) = catF F j ++ (F j).z) := rfl
          have HB : Hid (Below w.heap.size w wr) := b1
          clear hc hq g1 b1 hcl
          go_wp2_with (at_builtin; refine wpList_more rfl _ _ rfl _ g (catF F j) rfl s1 (F j).a (F j).z.length (F j).c (F j).z rfl HQ.out.2.2.2.1 rfl (HQ.out.2.2.2.2.old HB.out) (by have := HL.out; omega) ?_; intro v2 w2 g2 s2 hg2 hw2)
          have HR2 : Hid (ConRel w F (j + 1) v2 w2) := ⟨g2, by rw [HC.out]; exact s2, (by
            intro i hi
            rcases hg2 with rfl | ⟨q, rfl, hq⟩
            · exact HG.out i hi
            · cases hi; exact Nat.le_trans HB.out.size hq), HB.out.grown hw2 HB.out.size (fun i hi => HG.out i hi)⟩
          clear s1 s2 hg2 hw2
          go_wp2
          go_roundw
          case rel => exact ⟨j + 1, by omega, by go_num, HR2.out⟩
          case measure => simp [intOf]; omega
        · obtain rfl : j = k := by omega
          obtain ⟨a', c', rfl, q1, q2, q3⟩ := s1.shape
          have HE : Hid (NewBytes w (catF F j) (.returned (.slice a' (vals (catF F j)).length c')) wr) := ⟨a', c', by rw [vals_len], by rw [← vals_len]; exact q1, q2, q3, s1.row rfl, b1⟩
          clear s1 g1 b1 q1 q2 q3
          go_wp2
          go_ret
          exact HE.out
end Go.Proofs.Ytaibojmaghmfnaa
