/- How much the first colours cover is read: the program's readAlpha; rows of int of the call's own. -/
import Derived.Test.YticdpibaojhpiaaDoorHdY
namespace Go.Proofs.YticdpibaojhpiaaDoor
open Go.RowKit
theorem Tryd.info3H : (Tryd.prog.info? 3).map (fun i => (i.zero, i.size, i.bytes)) = some (some (.int .i64 0), 1, 8) := by kernel_rfl
def ivals (l : List Int) : List Value := l.map (Value.int .i64)
theorem ivals_len (l : List Int) : (ivals l).length = l.length := by simp [ivals]
theorem ivals_append (l m : List Int) : ivals (l ++ m) = ivals l ++ ivals m := by simp [ivals]
theorem ivals_at (l : List Int) (i : Nat) (hi : i < l.length) : (ivals l)[i]? = some (.int .i64 (l[i]?.getD 0)) := by simp [ivals, hi]
theorem ivals_set (l : List Int) (k : Nat) (v : Int) : ivals (l.set k v) = (ivals l).set k (.int .i64 v) := by simp [ivals]
theorem ivals_one (l : List Int) : ∀ u ∈ ivals l, u.oneCell' = true := by
  intro u hu
  simp only [ivals, List.mem_map] at hu
  obtain ⟨z, _, rfl⟩ := hu
  rfl
theorem Sl.irow {w : World} {v : Value} {g : Option Nat} {l : List Int} (h : Sl w 3 v g (ivals l)) {a : Option Addr} {n cap : Nat} (hv : v = .slice a n cap) : IRow w a l := by
  subst hv
  rcases h with ⟨_, _, h⟩ | ⟨b, off, cap', cur, h, _, hh, _, _, _, hc⟩
  · exact .inl (by simpa [ivals] using h)
  · simp only [Value.slice.injEq] at h
    obtain ⟨rfl, _, _⟩ := h
    refine .inr ⟨b, off, rfl, fun i hi => ?_⟩
    rw [← ivals_at l i hi, ← hc i (by rw [ivals_len]; exact hi)]
    simp [World.cell?, hh]
/-- What ReadClear and its kin answer. -/
def RcPost (w : World) (A S : List Int) (er : Int) (e : Ending) (w' : World) : Prop :=
  ∃ a1 c1 a2 c2, e = .returned (.tuple #[.slice a1 A.length c1, .slice a2 S.length c2, .int .i64 er]) ∧ IRow w' a1 A ∧ IRow w' a2 S ∧ Below w.heap.size w w'
def R1Post (w : World) (A : List Int) (er : Int) (e : Ending) (w' : World) : Prop :=
  ∃ a1 c1, e = .returned (.tuple #[.slice a1 A.length c1, .int .i64 er]) ∧ IRow w' a1 A ∧ Below w.heap.size w w'
abbrev alOk (t : Int) (b : List Int) : Prop := b ≠ [] ∧ (b.length : Int) ≤ t
def fillI (f : Nat → Int) (m j : Nat) : List Int := (List.range m).map fun i => if i < j then f i else 0
theorem fillI_zero (f : Nat → Int) (m : Nat) : fillI f m 0 = List.replicate m 0 := by
  apply List.ext_getElem?; intro i; by_cases h : i < m <;> simp [fillI, h]
theorem fillI_step (f : Nat → Int) (m k : Nat) (hk : k < m) : (fillI f m k).set k (f k) = fillI f m (k + 1) := by
  apply List.ext_getElem?; intro i
  rw [List.getElem?_set]
  by_cases h : k = i
  · subst h; simp [fillI, hk]
  · by_cases h1 : i < m
    · by_cases h2 : i < k
      · have h3 : i < k + 1 := by omega
        simp [fillI, h, h1, h2, h3]
      · have h3 : ¬ i < k + 1 := by omega
        simp [fillI, h, h1, h2, h3]
    · simp [fillI, h, h1]
theorem fillI_full (l : List Int) : fillI (fun i => l[i]?.getD 0) l.length l.length = l := by
  apply List.ext_getElem?; intro i
  by_cases h : i < l.length
  · simp [fillI, h]
  · simp [fillI, h]
theorem made_ivals (m : Nat) : (madeCells #[Value.int .i64 0] m).toList = ivals (List.replicate m 0) := by
  rw [toList_madeCells_one]; simp [ivals]
theorem store_stepI {w wr : World} {B g m j : Nat} {l l' : List Int} {x : Int} (hown : wr.ownsRow B 3 1 (.slice (some ⟨g, 0, none⟩) m m) m (ivals l)) (hbel : Below B w wr) (hw : B ≤ w.heap.size) (hl : l.set j x = l') :
    (wr.setCell ⟨g, j, none⟩ (.int .i64 x)).ownsRow B 3 1 (.slice (some ⟨g, 0, none⟩) m m) m (ivals l') ∧ Below B w (wr.setCell ⟨g, j, none⟩ (.int .i64 x)) := by
  have h := hown.stored j (.int .i64 x)
  refine ⟨by rw [← hl, ivals_set]; exact h.1, hbel.grown h.2 (by have := hbel.size; omega) fun k hk => (hown.lt k hk).1⟩
theorem own_cellI {wr : World} {B g m j : Nat} {l : List Int} (hown : wr.ownsRow B 3 1 (.slice (some ⟨g, 0, none⟩) m m) m (ivals l)) (hj : j < m) : wr.cell? ⟨g, j, none⟩ = some (.int .i64 (l[j]?.getD 0)) := by
  rw [hown.cellAt j (by omega)]
  have hl : l.length = m := by have := hown.1; simpa [ivals] using this
  simp [ivals, show j < l.length by omega]
theorem Row.atH {w : World} {a : Option Addr} {zs : List Int} (h : Row w a zs) (k : Nat) (hk : k < zs.length) : ∃ b off, a = some ⟨b, off, none⟩ ∧ w.cell? ⟨b, off + k, none⟩ = some (.int .u8 (zs[k]?.getD 0)) := by
  rcases h with h | ⟨b, off, e, hc⟩
  · subst h; simp at hk
  · exact ⟨b, off, e, hc k hk⟩
set_option maxHeartbeats 400000 in
theorem alpha_no (t : Int) (a : Option Addr) (n cap : Nat) (b : List Int) (w : World) (hn : b.length = n) (h : ¬ alOk t b) : Calls Tryd.prog 37 #[.int .i64 t, .slice a n cap] w fun e w' => R1Post w [] 12 e w' := by
  have HP : Hid (R1Post w [] 12 (.returned (.tuple #[.slice none 0 0, .int .i64 12])) w) := ⟨none, 0, rfl, .inl rfl, Below.refl _ _⟩
  by_cases h0 : n = 0
  · subst h0
    go_enter Tryd.func37, Tryd.ntmps37
    go_wp2
    go_ret2
    exact HP.out
  · have h1 : t < (n : Int) := by
      by_cases hq : (n : Int) ≤ t
      · exact absurd ⟨fun e => h0 (by rw [← hn, e]; rfl), by rw [hn]; exact hq⟩ h
      · omega
    have h2 : ((n : Int) == 0) = false := by simpa using h0
    clear h hn
    go_enter Tryd.func37, Tryd.ntmps37
    go_wp2
    go_ret2
    exact HP.out
set_option maxHeartbeats 800000 in
theorem alpha_yes (t : Int) (a : Option Addr) (n cap : Nat) (x : List Int) (w : World) (hx : x.length = n) (hb : Bytes x) (rx : Row w a x) (hn : n ≤ 2000000) (h : alOk t x) : Calls Tryd.prog 37 #[.int .i64 t, .slice a n cap] w fun e w' => R1Post w x 0 e w' := by
  obtain ⟨B, hB⟩ : ∃ B, B = w.heap.size := ⟨_, rfl⟩
  have HB : Hid (B = w.heap.size) := hB
  obtain ⟨i0, hi, hz0, hz1, hz2⟩ := info_parts Tryd.info3H
  have HX : Hid (x.length = n ∧ Bytes x ∧ Row w a x) := ⟨hx, hb, rx⟩
  have h0 : ¬ n = 0 := fun e => h.1 (List.length_eq_zero_iff.1 (by rw [hx, e]))
  have h1 : ¬ t < (n : Int) := by have := h.2; omega
  have h2 : ((n : Int) == 0) = false := by simpa using h0
  clear hx hb rx hB h
  go_enter Tryd.func37, Tryd.ntmps37
  go_wp2_with (at_make; refine wpList_make_full _ rfl _ _ 41 rfl B 3 i0 (.int .i64 0) 1 Tryd.underlying41 hi hz0 hz1 .i64 .i64 _ _ n rfl rfl rfl rfl ?b2 ?b3 ?b4 ?_)
  case b2 => omega
  case b3 => unfold maxLen; omega
  case b4 => rw [HB.out]; exact Nat.le_refl _
  intro w2 hown hgrow
  rw [made_ivals] at hown
  have hbel : Below B w w2 := (Below.refl _ _).grown hgrow (by rw [HB.out]; exact Nat.le_refl _) (fun k hk => by cases hk)
  obtain ⟨g, hg⟩ : ∃ g, g = w.heap.size := ⟨_, rfl⟩
  rw [← hg]
  rw [← hg] at hown
  clear hg hgrow
  go_wp2
  go_loopw [7, 8, 23] (fun _ _ c wr => ∃ j : Nat, j ≤ n ∧ c = .int .i64 j ∧ wr.ownsRow B 3 1 (.slice (some ⟨g, 0, none⟩) n n) n (ivals (fillI (fun i => x[i]?.getD 0) n j)) ∧ Below B w wr) (fun _ _ c _ => n - (intOf c).toNat)
  case atStart => exact ⟨0, Nat.zero_le _, rfl, by rw [fillI_zero]; exact hown, hbel⟩
  case round =>
    clear hown hbel
    obtain ⟨j, hj, rfl, hown, hbel⟩ := hrel
    by_cases hlt : j < n
    · obtain ⟨b, off, rfl, hc⟩ := (HX.out.2.2.old (by rw [← HB.out]; exact hbel)).atH j (by rw [HX.out.1]; exact hlt)
      have hcell := own_cellI hown hlt
      have hfz := hown.frozenAt j
      have HR : Hid _ := store_stepI hown hbel (by rw [HB.out]; exact Nat.le_refl _) (fillI_step (fun i => x[i]?.getD 0) n j hlt)
      have hzb := HX.out.2.1.at j
      generalize x[j]?.getD 0 = z at *
      clear hown hbel
      go_wp2
      go_roundw
      case rel => exact ⟨j + 1, by omega, by go_num, HR.out.1, HR.out.2⟩
      case measure => simp [intOf]; omega
    · have : j = n := by omega
      subst this
      have HF : Hid (R1Post w x 0 (.returned (.tuple #[.slice (some ⟨g, 0, none⟩) j j, .int .i64 0])) wr) := by
        have e := HX.out.1
        obtain ⟨_, hs, _⟩ := Sl.of_owns hown
        refine ⟨some ⟨g, 0, none⟩, j, by rw [e], ?_, by rw [← HB.out]; exact hbel⟩
        have := hs.irow rfl
        rw [← e, fillI_full] at this
        exact this
      clear hown hbel
      go_wp2
      go_ret2
      exact HF.out
end Go.Proofs.YticdpibaojhpiaaDoor
