/- Places on a canvas; which are known: hasAll, unmark, mark. -/
import Derived.Test.YtjheipfcehddhaaCvA
namespace Go.Proofs.Ytjheipfcehddhaa
open Go.RowKit
def spA (S : List (Int × Int)) (i : Nat) : Int × Int := S[i]?.getD (0, 0)
/-- Places in memory. -/
def SpRow (w : World) (a : Option Addr) (S : List (Int × Int)) : Prop :=
  S = [] ∨ ∃ b off, a = some ⟨b, off, none⟩ ∧ ∀ i, i < S.length → w.cell? ⟨b, off + i * 2, none⟩ = some (.int .i64 (spA S i).1) ∧ w.cell? ⟨b, off + i * 2 + 1, none⟩ = some (.int .i64 (spA S i).2)
theorem SpRow.at {w : World} {a : Option Addr} {S : List (Int × Int)} (h : SpRow w a S) {i : Nat} (hi : i < S.length) : ∃ b off, a = some ⟨b, off, none⟩ ∧ w.cell? ⟨b, off + i * 2, none⟩ = some (.int .i64 (spA S i).1) ∧ w.cell? ⟨b, off + i * 2 + 1, none⟩ = some (.int .i64 (spA S i).2) := by
  rcases h with rfl | ⟨b, off, e, hc⟩
  · simp at hi
  · exact ⟨b, off, e, hc i hi⟩
theorem SpRow.take {w : World} {a : Option Addr} {S : List (Int × Int)} (h : SpRow w a S) (k : Nat) : SpRow w a (S.take k) := by
  rcases h with rfl | ⟨b, off, e, hc⟩
  · exact .inl (by simp)
  · refine .inr ⟨b, off, e, fun i hi => ?_⟩
    rw [List.length_take] at hi
    have e : spA (S.take k) i = spA S i := by unfold spA; rw [List.getElem?_take, if_pos (by omega)]
    rw [e]
    exact hc i (by omega)
theorem SpRow.old {w w' : World} {a : Option Addr} {S : List (Int × Int)} (h : SpRow w a S) (hb : Below w.heap.size w w') : SpRow w' a S := by
  rcases h with rfl | ⟨b, off, e, hc⟩
  · exact .inl rfl
  · refine .inr ⟨b, off, e, fun i hi => ?_⟩
    have hlt := cell_lt (hc i hi).1
    exact ⟨(World.cell?_of_block (a := ⟨b, off + i * 2, none⟩) (hb.block b hlt)).trans (hc i hi).1, (World.cell?_of_block (a := ⟨b, off + i * 2 + 1, none⟩) (hb.block b hlt)).trans (hc i hi).2⟩
theorem all_at {W H : Int} {S : List (Int × Int)} (h : S.all (onC W H) = true) {i : Nat} (hi : i < S.length) : onC W H (spA S i) = true := by
  unfold spA
  rw [List.getElem?_eq_getElem hi]
  exact List.all_eq_true.1 h _ (List.getElem_mem hi)
theorem all_take {W H : Int} {S : List (Int × Int)} (h : S.all (onC W H) = true) (k : Nat) : (S.take k).all (onC W H) = true := by
  rw [List.all_eq_true] at h ⊢
  exact fun s hs => h s (List.mem_of_mem_take hs)
theorem all_of {W H : Int} {S : List (Int × Int)} (h : ∀ i, i < S.length → onC W H (spA S i) = true) : S.all (onC W H) = true := by
  rw [List.all_eq_true]
  intro s hs
  obtain ⟨i, hi, rfl⟩ := List.getElem_of_mem hs
  have := h i hi
  unfold spA at this
  rw [List.getElem?_eq_getElem hi] at this
  exact this
theorem not_all {W H : Int} {S : List (Int × Int)} {i : Nat} (hi : i < S.length) (h : onC W H (spA S i) = false) : S.all (onC W H) = false := by
  cases hq : S.all (onC W H) with
  | false => rfl
  | true => rw [all_at hq hi] at h; cases h
/-- Two numbers in a new block. -/
theorem two_new (w : World) (x y : Value) (t : TypeId) : (w.alloc (.cells #[x, y] t)).cell? ⟨w.heap.size, 0, none⟩ = some x ∧ (w.alloc (.cells #[x, y] t)).cell? ⟨w.heap.size, 1, none⟩ = some y := by
  have h : (w.alloc (.cells #[x, y] t)).heap[w.heap.size]? = some (.cells #[x, y] t (0, 0)) := World.alloc_heap_new w _
  exact ⟨(two_cells h).1, (two_cells h).2.1⟩
theorem below_new (w : World) (o : Obj) : Below w.heap.size w (w.alloc o) := (Below.refl _ w).alloc (Nat.le_refl _) _
theorem below_drew (w : World) : Below w.heap.size w w.drew := ⟨rfl, rfl, rfl, Nat.le_refl _, fun _ _ => rfl⟩
set_option maxHeartbeats 800000 in
theorem hasAll_any {w : World} {c p k : Nat} {W H : Int} {N : Nat} {F : Nat → Col} {M : Nat → Bool} {n : Int} (h : Cv w c p k W H N F M n) (S : List (Int × Int)) (a : Option Addr) (cap : Nat) (hs : SpRow w a S) (hl : S.length ≤ 1000000) :
    Calls Try.prog 27 #[.pointer (some ⟨c, 0, none⟩), .slice a S.length cap] w fun e w' => e = .returned (.bool (S.all (onC W H))) ∧ Below w.heap.size w w' := by
  have HC : Hid (Cv w c p k W H N F M n) := h
  have HS : Hid (SpRow w a S) := hs
  clear h hs
  obtain ⟨L, hL⟩ : ∃ L, S.length = L := ⟨_, rfl⟩
  have HL : Hid (S.length = L) := hL
  rw [hL] at hl ⊢
  clear hL
  go_enter Try.func27, Try.ntmps27
  go_wp2
  go_loopw [6, 9] (fun _ v wr => ∃ i : Nat, i ≤ L ∧ v = .int .i64 i ∧ Hid (Below w.heap.size w wr ∧ ∀ j, j < i → onC W H (spA S j) = true)) (fun _ v _ => L - (intOf v).toNat)
  case atStart => exact ⟨0, Nat.zero_le _, rfl, Below.refl _ _, fun j hj => absurd hj (by omega)⟩
  case round =>
    obtain ⟨i, hi, rfl, HB⟩ := hrel
    by_cases hlt : i < L
    · have hsr : SpRow wr a S := HS.out.old HB.out.1
      obtain ⟨b, off, rfl, c0, c1⟩ := hsr.at (i := i) (by have := HL.out; omega)
      have CH := fun (w1 : World) (hb : Below wr.heap.size wr w1) => chas_any ((HC.out.old HB.out.1).old hb) (spA S i).1 (spA S i).2
      obtain ⟨o, ho⟩ : ∃ o, onC W H (spA S i) = o := ⟨_, rfl⟩
      have HO : Hid (onC W H (spA S i) = o) := ho
      have he : onC W H ((spA S i).1, (spA S i).2) = o := ho
      simp only [he] at CH
      clear he
      clear ho
      generalize (spA S i).1 = x at *
      generalize (spA S i).2 = y at *
      clear hsr
      go_upto_region 4 with fail
      obtain ⟨m0, m1⟩ := two_new wr (.int .i64 x) (.int .i64 y) 58
      have CH2 := CH _ (below_new wr (.cells #[.int .i64 x, .int .i64 y] 58))
      have HB2 : Hid (Below wr.heap.size wr (wr.alloc (.cells #[.int .i64 x, .int .i64 y] 58))) := below_new _ _
      clear CH c0 c1
      generalize wr.alloc (.cells #[.int .i64 x, .int .i64 y] 58) = w2 at *
      go_wp2_with fail
      refine CH2.mono ?_
      clear CH2
      rintro e w3 ⟨rfl, rfl⟩
      cases o with
      | true =>
        go_wp2
        go_roundw
        case rel =>
          refine ⟨i + 1, by omega, by go_num, HB.out.1.trans (HB2.out.mono HB.out.1.size), fun j hj => ?_⟩
          by_cases hji : j < i
          · exact HB.out.2 j hji
          · obtain rfl : j = i := by omega
            exact HO.out
        case measure => simp [intOf]; omega
      | false =>
        go_wp2
        go_ret
        exact ⟨by rw [not_all (by rw [HL.out]; exact hlt) HO.out]; rfl, HB.out.1.trans (HB2.out.mono HB.out.1.size)⟩
    · obtain rfl : i = L := by omega
      go_wp2
      go_ret
      exact ⟨by rw [all_of (fun j hj => HB.out.2 j (by rw [HL.out] at hj; exact hj))]; rfl, HB.out.1⟩
/-- Which are known when the first places were made so, one by one. -/
def mkM (W : Int) (M : Nat → Bool) (S : List (Int × Int)) : Nat → Nat → Bool
  | 0 => M
  | j + 1 => upd (mkM W M S j) (ixC W (spA S j)) true
/-- None of the first places was known when its turn came. -/
def frB (W : Int) (M : Nat → Bool) (S : List (Int × Int)) : Nat → Bool
  | 0 => true
  | j + 1 => frB W M S j && !(mkM W M S j (ixC W (spA S j)))
def unM (W : Int) (M : Nat → Bool) (S : List (Int × Int)) : Nat → Nat → Bool
  | 0 => M
  | j + 1 => upd (unM W M S j) (ixC W (spA S j)) false
theorem unM_false {W : Int} {M : Nat → Bool} {S : List (Int × Int)} {q : Nat} (h : M q = false) : ∀ j, unM W M S j q = false
  | 0 => h
  | j + 1 => by
    unfold unM upd
    split
    · rfl
    · exact unM_false h j
theorem unM_hit {W : Int} {M : Nat → Bool} {S : List (Int × Int)} {q : Nat} : ∀ (j i : Nat), i < j → ixC W (spA S i) = q → unM W M S j q = false
  | 0, i, h, _ => absurd h (by omega)
  | j + 1, i, h, e => by
    unfold unM upd
    split
    · rfl
    · rename_i hn
      exact unM_hit j i (by have : i ≠ j := (fun q => by subst q; exact hn e.symm); omega) e
theorem unM_miss {W : Int} {M : Nat → Bool} {S : List (Int × Int)} {q : Nat} : ∀ j, (∀ i, i < j → ixC W (spA S i) ≠ q) → unM W M S j q = M q
  | 0, _ => rfl
  | j + 1, h => by
    unfold unM upd
    rw [if_neg (fun e => h j (by omega) e.symm)]
    exact unM_miss j fun i hi => h i (by omega)
theorem mkM_miss {W : Int} {M : Nat → Bool} {S : List (Int × Int)} {q : Nat} : ∀ j, (∀ i, i < j → ixC W (spA S i) ≠ q) → mkM W M S j q = M q
  | 0, _ => rfl
  | j + 1, h => by
    unfold mkM upd
    rw [if_neg (fun e => h j (by omega) e.symm)]
    exact mkM_miss j fun i hi => h i (by omega)
theorem mkM_hit {W : Int} {M : Nat → Bool} {S : List (Int × Int)} {q : Nat} : ∀ (j i : Nat), i < j → ixC W (spA S i) = q → mkM W M S j q = true
  | 0, i, h, _ => absurd h (by omega)
  | j + 1, i, h, e => by
    unfold mkM upd
    split
    · rfl
    · rename_i hn
      exact mkM_hit j i (by have : i ≠ j := (fun q => by subst q; exact hn e.symm); omega) e
theorem mkM_mono {W : Int} {M : Nat → Bool} {S : List (Int × Int)} {q : Nat} (h : M q = true) : ∀ j, mkM W M S j q = true
  | 0 => h
  | j + 1 => by
    unfold mkM upd
    split
    · rfl
    · exact mkM_mono h j
theorem frB_at {W : Int} {M : Nat → Bool} {S : List (Int × Int)} : ∀ {j : Nat}, frB W M S j = true → ∀ i, i < j → frB W M S i = true ∧ mkM W M S i (ixC W (spA S i)) = false
  | 0, _, i, hi => absurd hi (by omega)
  | j + 1, h, i, hi => by
    unfold frB at h
    simp only [Bool.and_eq_true, Bool.not_eq_true'] at h
    by_cases hij : i = j
    · subst hij; exact h
    · exact frB_at h.1 i (by omega)
theorem spA_take {S : List (Int × Int)} {k i : Nat} (h : i < k) : spA (S.take k) i = spA S i := by unfold spA; rw [List.getElem?_take, if_pos h]
/-- What was made known and then unknown again is as it was. -/
theorem un_mk {W : Int} {M : Nat → Bool} {S : List (Int × Int)} {j : Nat} (h : frB W M S j = true) (q : Nat) : unM W (mkM W M S j) (S.take j) j q = M q := by
  by_cases hq : ∃ i, i < j ∧ ixC W (spA S i) = q
  · obtain ⟨i, hi, e⟩ := hq
    rw [unM_hit j i hi (by rw [spA_take hi]; exact e)]
    have h2 := (frB_at h i hi).2
    rw [e] at h2
    cases hM : M q with
    | false => rfl
    | true => rw [mkM_mono hM i] at h2; cases h2
  · have hn : ∀ i, i < j → ixC W (spA S i) ≠ q := fun i hi e => hq ⟨i, hi, e⟩
    rw [unM_miss j (fun i hi => by rw [spA_take hi]; exact hn i hi), mkM_miss j hn]
set_option maxHeartbeats 1600000 in
theorem unmark_any {w : World} {c p k : Nat} {W H : Int} {N : Nat} {F : Nat → Col} {M : Nat → Bool} {n : Int} (h : Cv w c p k W H N F M n) (S : List (Int × Int)) (a : Option Addr) (cap : Nat) (hs : ∀ w', F3 c p k w w' → SpRow w' a S) (hl : S.length ≤ 1000000) (ha : S.all (onC W H) = true) :
    Calls Try.prog 40 #[.pointer (some ⟨c, 0, none⟩), .slice a S.length cap] w fun e w' => (∃ v, e = .returned v) ∧ F3 c p k w w' ∧ Cv w' c p k W H N F (unM W M S S.length) n := by
  have HS : Hid (∀ w', F3 c p k w w' → SpRow w' a S) := hs
  have HA : Hid (S.all (onC W H) = true) := ha
  have HC : Hid (Cv w c p k W H N F M n) := h
  clear h hs ha
  obtain ⟨L, hL⟩ : ∃ L, S.length = L := ⟨_, rfl⟩
  have HL : Hid (S.length = L) := hL
  rw [hL] at hl ⊢
  clear hL
  go_enter Try.func40, Try.ntmps40
  go_wp2
  go_loopw [5, 8] (fun _ v wr => ∃ i : Nat, i ≤ L ∧ v = .int .i64 i ∧ Hid (F3 c p k w wr ∧ Cv wr c p k W H N F (unM W M S i) n)) (fun _ v _ => L - (intOf v).toNat)
  case atStart => exact ⟨0, Nat.zero_le _, rfl, F3.refl _ _ _ _, HC.out⟩
  case round =>
    obtain ⟨i, hi, rfl, HB⟩ := hrel
    by_cases hlt : i < L
    · have hsr : SpRow wr a S := HS.out _ HB.out.1
      have hi' : i < S.length := by have := HL.out; omega
      obtain ⟨b, off, rfl, c0, c1⟩ := hsr.at hi'
      have hon := all_at HA.out hi'
      obtain ⟨-, -, -, hI⟩ := HB.out.2.sz.ix hon
      have CH := fun (w1 : World) (hb : Below wr.heap.size wr w1) => cindex_any (HB.out.2.old hb) (spA S i).1 (spA S i).2 hon
      have hN := HB.out.2.sz.m
      have HU : Hid (∀ I, I = ixC W (spA S i) → upd (unM W M S i) I false = unM W M S (i + 1)) := fun I e => by subst e; rfl
      have e0 : ixC W ((spA S i).1, (spA S i).2) = ixC W (spA S i) := rfl
      simp only [e0] at CH
      have HIx : Hid (ixC W (spA S i) = ixC W (spA S i)) := rfl
      obtain ⟨I, hIe⟩ : ∃ I, I = ixC W (spA S i) := ⟨_, rfl⟩
      have HU2 : Hid (upd (unM W M S i) I false = unM W M S (i + 1)) := HU.out I hIe
      rw [← hIe] at CH hI
      clear hIe e0 HU HIx hon hi' hsr
      generalize (spA S i).1 = x at *
      generalize (spA S i).2 = y at *
      go_upto_region 3 with fail
      obtain ⟨m0, m1⟩ := two_new wr (.int .i64 x) (.int .i64 y) 58
      have HB2 : Hid (Below wr.heap.size wr (wr.alloc (.cells #[.int .i64 x, .int .i64 y] 58))) := below_new _ _
      have CH2 := CH _ (HB2.out.trans ((below_drew _).mono HB2.out.size))
      clear CH c0 c1
      generalize wr.alloc (.cells #[.int .i64 x, .int .i64 y] 58) = w2 at *
      obtain ⟨k0, k1, k2, k3, k4, -⟩ := (HB.out.2.old HB2.out).cells
      have kk := (HB.out.2.old HB2.out).kn.cell hI
      have kf := (HB.out.2.old HB2.out).kn.frozen I
      have hI0 : (I : Int) < (N : Int) := by omega
      refine wp_region_still_tail 11 (by kernel_rfl) (by kernel_rfl) ?_
      simp only [List.take_succ_cons, List.take_zero, List.drop_succ_cons, List.drop_zero]
      rw [show ({ w2 with drawn := w2.drawn + 1 } : World) = w2.drew from rfl]
      repeat still_step
      still_call CH2
      repeat still_step
      refine wpStill_nil ?_
      go_wp2
      go_roundw
      case rel =>
        refine ⟨i + 1, by omega, by go_num, HB.out.1.trans ((F3.of_below (HB2.out.trans ((below_drew _).mono HB2.out.size))).trans (F3.set _ k _ _ (.inr (.inr rfl)))), ?_⟩
        rw [← HU2.out]
        exact ((HB.out.2.old HB2.out).old (below_drew _)).mark hI false
      case measure => simp [intOf]; omega
    · obtain rfl : i = L := by omega
      go_wp2
      go_end0
      exact ⟨⟨_, rfl⟩, HB.out⟩
end Go.Proofs.Ytjheipfcehddhaa
