/- The reference's sorted. -/
import Derived.Test.YtjellgkojmgmjaaHmA
import Derived.Test.YtjellgkojmgmjaaRfH
import Derived.StillTail
namespace Go.Proofs.Ytjellgkojmgmjaa
open Go.RowKit

def gi (l : List Int) (i : Nat) : Int := l[i]?.getD 0
def swp (l : List Int) (k : Nat) : List Int := (l.set (k - 1) (gi l k)).set k (gi l (k - 1))
theorem gi_set (l : List Int) (i j : Nat) (x : Int) (hi : i < l.length) : gi (l.set i x) j = if i = j then x else gi l j := by
  unfold gi
  rw [List.getElem?_set]
  by_cases h : i = j
  · subst h; simp [hi]
  · simp [h]
theorem swp_len (l : List Int) (k : Nat) : (swp l k).length = l.length := by simp [swp]
theorem swp_at (l : List Int) (k j : Nat) (h1 : 1 ≤ k) (hk : k < l.length) : gi (swp l k) j = if j = k then gi l (k - 1) else if j = k - 1 then gi l k else gi l j := by
  unfold swp
  rw [gi_set _ _ _ _ (by simpa using hk), gi_set _ _ _ _ (by omega)]
  by_cases e1 : k = j
  · rw [if_pos e1, if_pos e1.symm]
  · rw [if_neg e1]
    by_cases e2 : k - 1 = j
    · rw [if_pos e2, if_neg (by omega), if_pos e2.symm]
    · rw [if_neg e2, if_neg (by omega), if_neg (by omega)]
theorem swp_perm (l : List Int) (k : Nat) (h1 : 1 ≤ k) (hk : k < l.length) : (swp l k).Perm l := by
  unfold swp gi
  rw [List.getElem?_eq_getElem hk, List.getElem?_eq_getElem (by omega : k - 1 < l.length)]
  exact List.set_set_perm (by omega) hk
/-- The first i are rising, but for the k-th, which is no greater than those behind it. -/
def Ins (l : List Int) (i k : Nat) : Prop := (∀ p q, p < q → q ≤ i → p ≠ k → q ≠ k → gi l p ≤ gi l q) ∧ ∀ q, k < q → q ≤ i → gi l k ≤ gi l q
def Ris (l : List Int) (i : Nat) : Prop := ∀ p q, p < q → q < i → gi l p ≤ gi l q
theorem Ins.start {l : List Int} {i : Nat} (h : Ris l i) : Ins l i i := ⟨fun p q h1 h2 _ h4 => h p q h1 (by omega), fun q h1 h2 => by omega⟩
theorem Ins.done {l : List Int} {i k : Nat} (h : Ins l i k) (hk : k = 0 ∨ gi l (k - 1) ≤ gi l k) : Ris l (i + 1) := fun p q h1 h2 => by
  by_cases e1 : p = k
  · subst e1; exact h.2 q h1 (by omega)
  · by_cases e2 : q = k
    · subst e2
      rcases hk with hk | hk
      · omega
      · by_cases e3 : p = q - 1
        · rw [e3]; exact hk
        · have := h.1 p (q - 1) (by omega) (by omega) e1 (by omega)
          omega
    · exact h.1 p q h1 (by omega) e1 e2
theorem Ins.step {l : List Int} {i k : Nat} (h : Ins l i k) (h1 : 1 ≤ k) (hk : k ≤ i) (hi : i < l.length) (hgt : gi l k < gi l (k - 1)) : Ins (swp l k) i (k - 1) := by
  refine ⟨fun p q hpq hq hp1 hq1 => ?_, fun q hq1 hq2 => ?_⟩
  · rw [swp_at l k p h1 (by omega), swp_at l k q h1 (by omega), if_neg hp1, if_neg hq1]
    by_cases e1 : p = k
    · rw [if_pos e1, if_neg (by omega)]
      exact h.1 (k - 1) q (by omega) hq (by omega) (by omega)
    · rw [if_neg e1]
      by_cases e2 : q = k
      · rw [if_pos e2]
        exact h.1 p (k - 1) (by omega) (by omega) e1 (by omega)
      · rw [if_neg e2]
        exact h.1 p q hpq hq e1 e2
  · rw [swp_at l k (k - 1) h1 (by omega), swp_at l k q h1 (by omega), if_neg (by omega), if_pos rfl]
    by_cases e2 : q = k
    · rw [if_pos e2]; omega
    · rw [if_neg e2, if_neg (by omega)]
      exact h.2 q (by omega) hq2
theorem ivals_set (l : List Int) (j : Nat) (x : Int) : (ivals l).set j (.int .i64 x) = ivals (l.set j x) := by simp [ivals, List.map_set]
/-- A store into a slice of the call's own ints. -/
theorem Sl.storedI {w : World} {g : Option Nat} {zs : List Int} {b off n cap : Nat} (h : Sl w 3 (.slice (some ⟨b, off, none⟩) n cap) g (ivals zs)) (k : Nat) (hk : k < zs.length) (y : Int) : Sl (w.setCell ⟨b, off + k, none⟩ (.int .i64 y)) 3 (.slice (some ⟨b, off, none⟩) n cap) g (ivals (zs.set k y)) := by
  rcases h with ⟨h, _⟩ | ⟨b', off', cap', cur, h, hg, hh, h1, h2, h3, hc⟩
  · cases h
  · simp at h
    obtain ⟨⟨rfl, rfl⟩, rfl, rfl⟩ := h
    refine .inr ⟨b, off, cap, cur.setIfInBounds (off + k) (.int .i64 y), by simp [ivals], hg, heap_setCell_same w b (off + k) cur 3 _ hh, by simpa using h1, by simpa [ivals] using h2, h3, fun i hi => ?_⟩
    rw [ivals_len, List.length_set] at hi
    rw [← ivals_set, List.getElem?_set]
    rw [ivals_len] at h2 hc
    by_cases hik : k = i
    · subst hik
      rw [Array.getElem?_setIfInBounds_self_of_lt (by omega)]
      simp [ivals_len, hi]
    · rw [Array.getElem?_setIfInBounds_ne (by omega), hc i hi]
      simp [hik]
def SoRel (w : World) (l : List Int) (b off n cap : Nat) (m : List Int) (wr : World) : Prop :=
  Sl wr 3 (.slice (some ⟨b, off, none⟩) n cap) (some b) (ivals m) ∧ m.Perm l ∧ Below w.heap.size w wr
theorem SoRel.drewN {w : World} {l : List Int} {b off n cap : Nat} {m : List Int} {wr : World} (h : SoRel w l b off n cap m wr) (k : Nat) : SoRel w l b off n cap m (wr.drewN k) := ⟨h.1.same fun _ _ => rfl, h.2.1, below_drewN' h.2.2 k⟩
def SortedPost (w : World) (l : List Int) (e : Ending) (w' : World) : Prop :=
  ∃ a c m g, e = .returned (.slice a l.length c) ∧ Sl w' 3 (.slice a l.length c) g (ivals m) ∧ m.Perm l ∧ Ris m l.length ∧ (∀ k, g = some k → w.heap.size ≤ k) ∧ Below w.heap.size w w'
set_option maxHeartbeats 1600000 in
set_option maxRecDepth 20000 in
theorem sorted_any (x : Addr) (n c : Nat) (l : List Int) (w : World) (hn : l.length = n) (h0 : 0 < n) (hs : n ≤ 100000) (hr : IRow w (some x) l) :
    Calls Try.prog 44 #[.slice (some x) n c] w fun e w' => SortedPost w l e w' := by
  have HN : Hid (l.length = n) := hn
  have HR : Hid (IRow w (some x) l) := hr
  clear hn hr
  have mixed := Try.mixed
  go_enter Try.func44, Try.ntmps44
  obtain ⟨i0, hi, hz0, hz1, hz2⟩ := info_parts Try.info3
  have HS0 : Hid (Sl (w.alloc (.cells #[] 3)) 3 (.slice (some ⟨w.heap.size, 0, none⟩) 0 0) (some w.heap.size) []) := .inr ⟨w.heap.size, 0, 0, #[], rfl, rfl, heap_alloc_new _ _, by simp, Nat.le_refl _, by decide, fun i hi => by simp at hi⟩
  have HB0 : Hid (Below w.heap.size w (w.alloc (.cells #[] 3))) := (Below.refl _ _).alloc (Nat.le_refl _) _
  go_wp2_with (at_builtin; refine wpList_append_sl rfl _ _ _ rfl 3 i0 (.int .i64 0) 8 Try.underlying22 hi hz0 hz1 hz2 rfl _ (some w.heap.size) [] rfl HS0.out x n c (ivals l) rfl (by rw [ivals_len]; exact HN.out) (inews_row (HR.out.old HB0.out)) (by intro y hy; simp only [ivals, List.mem_map] at hy; obtain ⟨z, _, rfl⟩ := hy; rfl) (by simp; omega) (by simp; unfold maxLen; omega) ?_)
  intro v1 w1 g1 hs1 hg1 hgr
  obtain ⟨b, off, cap, hv1, hgb, hwb⟩ : ∃ b off cap, v1 = .slice (some ⟨b, off, none⟩) n cap ∧ g1 = some b ∧ w.heap.size ≤ b := by
    rcases hs1 with ⟨_, _, h⟩ | ⟨b, off, cap, cur, h1, h2, _⟩
    · have := congrArg List.length h
      rw [ivals_len, HN.out] at this
      simp at this
      omega
    · refine ⟨b, off, cap, by rw [h1, ivals_len, HN.out], h2, ?_⟩
      rcases hg1 with e | ⟨k, e, hk⟩
      · rw [e] at h2; cases h2; exact Nat.le_refl _
      · rw [e] at h2; cases h2; omega
  subst hv1 hgb
  have HS1 : Hid (SoRel w l b off n cap l w1) := ⟨hs1, List.Perm.refl _, Fr.below HB0.out (Fr.grown (r := w.heap.size) hgr) (Nat.le_refl _) (by intro q hq; cases hq; exact Nat.le_refl _) HB0.out.size⟩
  have HWB : Hid (w.heap.size ≤ b) := hwb
  clear hs1 hg1 hgr HS0 HB0 hwb
  go_wp2
  go_loopw [11] (fun i wr => ∃ I : Nat, ∃ m : List Int, I ≤ n ∧ i = .int .i64 I ∧ SoRel w l b off n cap m wr ∧ Ris m I) (fun i _ => n - (intOf i).toNat)
  case atStart => exact ⟨0, l, Nat.zero_le _, rfl, HS1.out, fun p q _ h => by omega⟩
  case round =>
    clear HS1
    obtain ⟨I, m, hI, rfl, hso, hris⟩ := hrel
    have HSO : Hid (SoRel w l b off n cap m wr ∧ Ris m I) := ⟨hso, hris⟩
    clear hso hris
    by_cases hlt : I < n
    · have HIN : Hid (SoRel w l b off n cap m wr ∧ Ins m I I) := ⟨HSO.out.1, Ins.start HSO.out.2⟩
      clear HSO
      go_wp2
      go_loopw [5] (fun k wr => ∃ K : Nat, ∃ m : List Int, K ≤ I ∧ k = .int .i64 K ∧ SoRel w l b off n cap m wr ∧ Ins m I K) (fun k _ => (intOf k).toNat)
      case atStart => exact ⟨I, m, Nat.le_refl _, rfl, HIN.out⟩
      case round =>
        clear HIN
        obtain ⟨K, m, hK, rfl, hso, hins⟩ := hrel
        have HSO : Hid (SoRel w l b off n cap m wr ∧ Ins m I K) := ⟨hso, hins⟩
        have HML : Hid (m.length = n) := by show _ = _; rw [hso.2.1.length_eq]; exact HN.out
        cases K with
        | zero =>
          have HD : Hid (SoRel w l b off n cap m wr ∧ Ris m (I + 1)) := ⟨hso, hins.done (.inl rfl)⟩
          clear hso hins HSO
          go_wp2
          go_quiet (fail)
          go_wp2
          go_roundw
          case rel => exact ⟨I + 1, m, by omega, by go_num, HD.out.1.drewN _, HD.out.2⟩
          case measure => simp [intOf]; omega
        | succ K =>
          have hc1 : wr.cell? ⟨b, off + K, none⟩ = some (.int .i64 (gi m K)) := by
            have := hso.1.cell K (by rw [ivals_len, HML.out]; omega)
            rw [this, ivals_at m K (by rw [HML.out]; omega)]; rfl
          have hc2 : wr.cell? ⟨b, off + (K + 1), none⟩ = some (.int .i64 (gi m (K + 1))) := by
            have := hso.1.cell (K + 1) (by rw [ivals_len, HML.out]; omega)
            rw [this, ivals_at m (K + 1) (by rw [HML.out]; omega)]; rfl
          have hf1 := hso.1.frozen (off + K)
          have hf2 := hso.1.frozen (off + (K + 1))
          rw [show (((K + 1 : Nat) : Int)) = (K : Int) + 1 from by omega]
          by_cases hgt : gi m (K + 1) < gi m K
          · have HST : Hid (SoRel w l b off n cap (swp m (K + 1)) ((wr.setCell ⟨b, off + K, none⟩ (.int .i64 (gi m (K + 1)))).setCell ⟨b, off + (K + 1), none⟩ (.int .i64 (gi m K))) ∧ Ins (swp m (K + 1)) I K) := by
              have hst := hins.step (by omega) hK (by rw [HML.out]; omega) (by rw [Nat.add_sub_cancel]; exact hgt)
              rw [Nat.add_sub_cancel] at hst
              refine ⟨⟨?_, (swp_perm m (K + 1) (by omega) (by rw [HML.out]; omega)).trans hso.2.1, (hso.2.2.setCell HWB.out _).setCell HWB.out _⟩, hst⟩
              have h1 := (hso.1.storedI K (by rw [HML.out]; omega) (gi m (K + 1))).storedI (K + 1) (by rw [List.length_set, HML.out]; omega) (gi m K)
              unfold swp
              rw [Nat.add_sub_cancel]
              exact h1
            clear hso hins HSO
            generalize gi m (K + 1) = y at *
            generalize gi m K = z at *
            go_wp2
            go_quiet (fail)
            go_wp2
            go_big_region_o
            go_wp2
            go_roundw
            case rel => exact ⟨K, swp m (K + 1), by omega, by go_num, HST.out.1.drewN (nq + 1), HST.out.2⟩
            case measure => simp [intOf]
          · have HD : Hid (SoRel w l b off n cap m wr ∧ Ris m (I + 1)) := ⟨hso, hins.done (.inr (by rw [Nat.add_sub_cancel]; omega))⟩
            clear hso hins HSO
            go_wp2
            go_quiet (fail)
            go_wp2
            go_roundw
            case rel => exact ⟨I + 1, m, by omega, by go_num, HD.out.1.drewN _, HD.out.2⟩
            case measure => simp [intOf]; omega
    · obtain rfl : I = n := by omega
      have R : Hid (SortedPost w l (.returned (.slice (some ⟨b, off, none⟩) I cap)) wr) := by
        obtain ⟨⟨h1, h2, h3⟩, h4⟩ := HSO.out
        exact ⟨some ⟨b, off, none⟩, cap, m, some b, by rw [HN.out], by rw [HN.out]; exact h1, h2, by rw [HN.out]; exact h4, (by intro k hk; cases hk; exact HWB.out), h3⟩
      clear HSO
      go_wp2
      go_ret
      exact R.out
end Go.Proofs.Ytjellgkojmgmjaa
