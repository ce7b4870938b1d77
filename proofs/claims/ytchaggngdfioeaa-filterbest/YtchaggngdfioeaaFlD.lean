/- The program's filters, there and back. -/
import Derived.Test.YtchaggngdfioeaaFlC
namespace Go.Proofs.Ytchaggngdfioeaa
open Go.RowKit
/-- Bytes of the call's own and no error. -/
def NewB2 (w : World) (zs : List Int) (e : Ending) (w' : World) : Prop :=
  ∃ a cap, e = .returned (.tuple #[.slice a zs.length cap, .int .i64 0]) ∧ zs.length ≤ cap ∧ cap ≤ maxLen ∧ (a = none → cap = 0) ∧ Row w' a zs ∧ Below w.heap.size w w'
theorem newB2_of_owns {w w' : World} {base : Nat} {v : Value} {n : Nat} {zs : List Int} (h : w'.ownsRow base 5 1 v n (vals zs)) (hb : Below w.heap.size w w') : NewB2 w zs (.returned (.tuple #[v, .int .i64 0])) w' := by
  obtain ⟨g, hs, _⟩ := Sl.of_owns h
  obtain ⟨a, cap, rfl, h1, h2, h3⟩ := hs.shape
  rw [vals_len] at h1
  exact ⟨a, cap, by rw [vals_len], h1, h2, h3, hs.row rfl, hb⟩
theorem newB2_of_sl {w w' : World} {v : Value} {g : Option Nat} {zs : List Int} (hs : Sl w' 5 v g (vals zs)) (hb : Below w.heap.size w w') : NewB2 w zs (.returned (.tuple #[v, .int .i64 0])) w' := by
  obtain ⟨a, cap, rfl, h1, h2, h3⟩ := hs.shape
  rw [vals_len] at h1
  exact ⟨a, cap, by rw [vals_len], h1, h2, h3, hs.row rfl, hb⟩
def fillP (f : Nat → Int) (m j : Nat) : List Int := (List.range m).map fun i => if i < j then f i else 0
theorem fillP_len (f : Nat → Int) (m j : Nat) : (fillP f m j).length = m := by simp [fillP]
theorem fillP_zero (f : Nat → Int) (m : Nat) : fillP f m 0 = List.replicate m 0 := by
  apply List.ext_getElem?; intro i; by_cases h : i < m <;> simp [fillP, h]
theorem fillP_step (f : Nat → Int) (m k : Nat) (hk : k < m) : (fillP f m k).set k (f k) = fillP f m (k + 1) := by
  apply List.ext_getElem?; intro i
  rw [List.getElem?_set]
  by_cases h : k = i
  · subst h; simp [fillP, hk]
  · by_cases h1 : i < m
    · by_cases h2 : i < k
      · have h3 : i < k + 1 := by omega
        simp [fillP, h, h1, h2, h3]
      · have h3 : ¬ i < k + 1 := by omega
        simp [fillP, h, h1, h2, h3]
    · simp [fillP, h, h1]
theorem fillP_full (f : Nat → Int) (m : Nat) : fillP f m m = (List.range m).map f := by
  apply List.ext_getElem?; intro i; by_cases h : i < m <;> simp [fillP, h]
theorem made_valsF (m : Nat) : (madeCells #[Value.int .u8 0] m).toList = vals (List.replicate m 0) := by
  rw [toList_madeCells_one]; simp [vals]
theorem vals_setF (l : List Int) (k : Nat) (v : Int) : vals (l.set k v) = (vals l).set k (.int .u8 v) := by simp [vals]
theorem store_stepF {w wr : World} {B g m j : Nat} {l l' : List Int} {x : Int} (hown : wr.ownsRow B 5 1 (.slice (some ⟨g, 0, none⟩) m m) m (vals l)) (hbel : Below B w wr) (hw : B ≤ w.heap.size) (hl : l.set j x = l') :
    (wr.setCell ⟨g, j, none⟩ (.int .u8 x)).ownsRow B 5 1 (.slice (some ⟨g, 0, none⟩) m m) m (vals l') ∧ Below B w (wr.setCell ⟨g, j, none⟩ (.int .u8 x)) := by
  have h := hown.stored j (.int .u8 x)
  refine ⟨by rw [← hl, vals_setF]; exact h.1, hbel.grown h.2 (by have := hbel.size; omega) fun k hk => (hown.lt k hk).1⟩
theorem own_cellF {wr : World} {B g m j : Nat} {l : List Int} (hown : wr.ownsRow B 5 1 (.slice (some ⟨g, 0, none⟩) m m) m (vals l)) (hj : j < m) : wr.cell? ⟨g, j, none⟩ = some (.int .u8 (l[j]?.getD 0)) := by
  rw [hown.cellAt j (by omega)]
  have hl : l.length = m := by have := hown.1; simpa [vals] using this
  simp [vals, show j < l.length by omega]
theorem own_row {wr : World} {B g m : Nat} {l : List Int} (hown : wr.ownsRow B 5 1 (.slice (some ⟨g, 0, none⟩) m m) m (vals l)) : Row wr (some ⟨g, 0, none⟩) l := by
  obtain ⟨_, hs, _⟩ := Sl.of_owns hown
  exact hs.row rfl
set_option maxHeartbeats 400000 in
theorem do_no (k s : Int) (v u : Value) (w : World) (h : ckN k s ≠ 0) : Calls Try.prog 9 #[.int .i64 k, v, u, .int .i64 s] w fun e w' => e = .returned (.tuple #[.slice none 0 0, .int .i64 (ckN k s)]) ∧ w' = w := by
  have C := check_any k s w
  generalize ckN k s = E at *
  go_enter Try.func9, Try.ntmps9
  go_wp2_with fail
  refine C.mono ?_
  rintro e w1 ⟨rfl, rfl⟩
  go_wp2
  go_ret2
  exact ⟨rfl, rfl⟩
set_option maxHeartbeats 400000 in
theorem undo_no (k s : Int) (v u : Value) (w : World) (h : ckN k s ≠ 0) : Calls Try.prog 12 #[.int .i64 k, v, u, .int .i64 s] w fun e w' => e = .returned (.tuple #[.slice none 0 0, .int .i64 (ckN k s)]) ∧ w' = w := by
  have C := check_any k s w
  generalize ckN k s = E at *
  go_enter Try.func12, Try.ntmps12
  go_wp2_with fail
  refine C.mono ?_
  rintro e w1 ⟨rfl, rfl⟩
  go_wp2
  go_ret2
  exact ⟨rfl, rfl⟩
theorem ckN_ok {k s : Int} (h : ckN k s = 0) : 1 ≤ s ∧ s ≤ 8 ∧ 0 ≤ k ∧ k ≤ 4 := by
  unfold ckN at h
  by_cases h1 : s < 1 ∨ 8 < s
  · rw [if_pos h1] at h; omega
  · rw [if_neg h1] at h
    by_cases h2 : k < 0 ∨ 4 < k
    · rw [if_pos h2] at h; omega
    · omega
set_option maxHeartbeats 800000 in
theorem do_any (k : Int) (a : Option Addr) (n cap : Nat) (a' : Option Addr) (n' cap' : Nat) (s : Int) (x y : List Int) (w : World) (hx : x.length = n) (hy : y.length = n') (bx : Bytes x) (bY : Bytes y) (rx : Row w a x) (ry : Row w a' y)
    (hn : n ≤ 140737488351232) (h : ckN k s = 0) : Calls Try.prog 9 #[.int .i64 k, .slice a n cap, .slice a' n' cap', .int .i64 s] w fun e w' => NewB2 w (doN k x y s) e w' := by
  have C := check_any k s w
  rw [h] at C
  have HS := ckN_ok h
  obtain ⟨B, hB⟩ : ∃ B, B = w.heap.size := ⟨_, rfl⟩
  have HB : Hid (B = w.heap.size) := hB
  obtain ⟨i0, hi, hz0, hz1, hz2⟩ := info_parts Try.info5
  have HG : Hid (∀ (wr : World) (j : Nat), Below B w wr → j < n → Calls Try.prog 18 #[.int .i64 k, .slice a n cap, .slice a' n' cap', .int .i64 j, .int .i64 s] wr fun e w' => e = .returned (.int .i64 (gsN k x y j s)) ∧ w' = wr) := fun wr j hb hj =>
    guess_any k a n cap a' n' cap' j s x y wr hx hy bx bY (rx.old (hB ▸ hb)) (ry.old (hB ▸ hb)) (by omega) (by omega) (by omega) (by omega)
  have HGb : Hid (∀ j : Nat, 0 ≤ gsN k x y j s ∧ gsN k x y j s < 256) := fun j => gsN_byte k bx bY j s
  have HX : Hid (x.length = n ∧ Bytes x ∧ Row w a x) := ⟨hx, bx, rx⟩
  clear hx hy bx bY rx ry hB HS h
  go_enter Try.func9, Try.ntmps9
  go_wp2_with fail
  refine C.mono ?_
  rintro e w1 ⟨rfl, rfl⟩
  clear C
  go_wp2_with (at_make; refine wpList_make_full _ rfl _ _ 22 rfl B 5 i0 (.int .u8 0) 1 Try.underlying22 hi hz0 hz1 .i64 .i64 _ _ n rfl rfl rfl rfl ?b2 ?b3 ?b4 ?_)
  case b2 => rw [hz2]; omega
  case b3 => unfold maxLen; omega
  case b4 => rw [HB.out]; exact Nat.le_refl _
  intro w2 hown hgrow
  rw [made_valsF] at hown
  have hbel : Below B w1 w2 := (Below.refl _ _).grown hgrow (by rw [HB.out]; exact Nat.le_refl _) (fun k hk => by cases hk)
  obtain ⟨g, hg⟩ : ∃ g, g = w1.heap.size := ⟨_, rfl⟩
  rw [← hg]
  rw [← hg] at hown
  clear hg hgrow
  go_wp2
  go_loopw [12, 13, 25] (fun _ _ c wr => ∃ j : Nat, j ≤ n ∧ c = .int .i64 j ∧ wr.ownsRow B 5 1 (.slice (some ⟨g, 0, none⟩) n n) n (vals (fillP (doAt k x y s) n j)) ∧ Below B w1 wr) (fun _ _ c _ => n - (intOf c).toNat)
  case atStart => exact ⟨0, Nat.zero_le _, rfl, by rw [fillP_zero]; exact hown, hbel⟩
  case round =>
    clear hown hbel
    obtain ⟨j, hj, rfl, hown, hbel⟩ := hrel
    by_cases hlt : j < n
    · obtain ⟨b, off, rfl, hc⟩ := (HX.out.2.2.old (by rw [← HB.out]; exact hbel)).at j (by rw [HX.out.1]; exact hlt)
      have hcell := own_cellF hown hlt
      have hfz := hown.frozenAt j
      have HR : Hid _ := store_stepF hown hbel (by rw [HB.out]; exact Nat.le_refl _) (fillP_step (doAt k x y s) n j hlt)
      have G := HG.out wr j hbel hlt
      have hGb := HGb.out j
      have hzb := HX.out.2.1.at j
      unfold doAt at HR
      generalize gsN k x y (j : Int) s = G0 at *
      generalize x[j]?.getD 0 = z at *
      clear hown hbel
      go_wp2_with fail
      refine G.mono ?_
      rintro e w3 ⟨rfl, rfl⟩
      clear G
      go_wp2
      go_roundw
      case rel => exact ⟨j + 1, by omega, by go_num, HR.out.1, HR.out.2⟩
      case measure => simp [intOf]; omega
    · have : j = n := by omega
      subst this
      go_wp2
      go_ret2
      rw [fillP_full, show List.map (doAt k x y s) (List.range j) = doN k x y s from by unfold doN; rw [HX.out.1]] at hown
      exact newB2_of_owns hown (by rw [← HB.out]; exact hbel)
def unF (k : Int) (x y : List Int) (s : Int) (m j : Nat) : List Int := unP k x y s j ++ List.replicate (m - j) 0
theorem unF_len (k : Int) (x y : List Int) (s : Int) {m j : Nat} (h : j ≤ m) : (unF k x y s m j).length = m := by simp [unF, unP_len]; omega
theorem unF_bytes (k : Int) (x y : List Int) (s : Int) (m j : Nat) : Bytes (unF k x y s m j) := (unP_bytes k x y s j).append (fun z hz => by simp at hz; omega)
theorem unF_gs (k : Int) (x y : List Int) {s : Int} (hs : 1 ≤ s) (m j : Nat) : gsN k (unF k x y s m j) y j s = gsN k (unP k x y s j) y j s :=
  gsN_of_take k y hs (by unfold unF; rw [List.take_append_of_le_length (by rw [unP_len]; exact Nat.le_refl _)])
theorem unF_step (k : Int) (x y : List Int) (s : Int) (m j : Nat) (h : j < m) : (unF k x y s m j).set j ((x[j]?.getD 0 + gsN k (unP k x y s j) y j s) % 256) = unF k x y s m (j + 1) := by
  unfold unF
  rw [unP, List.set_append_right _ _ (by rw [unP_len]; exact Nat.le_refl _), unP_len, Nat.sub_self, show m - j = (m - (j + 1)) + 1 by omega, List.replicate_succ]
  simp
set_option maxHeartbeats 800000 in
theorem undo_any (k : Int) (a : Option Addr) (n cap : Nat) (a' : Option Addr) (n' cap' : Nat) (s : Int) (x y : List Int) (w : World) (hx : x.length = n) (hy : y.length = n') (bx : Bytes x) (bY : Bytes y) (rx : Row w a x) (ry : Row w a' y)
    (hn : n ≤ 140737488351232) (h : ckN k s = 0) : Calls Try.prog 12 #[.int .i64 k, .slice a n cap, .slice a' n' cap', .int .i64 s] w fun e w' => NewB2 w (unN k x y s) e w' := by
  have C := check_any k s w
  rw [h] at C
  have HS := ckN_ok h
  obtain ⟨B, hB⟩ : ∃ B, B = w.heap.size := ⟨_, rfl⟩
  have HB : Hid (B = w.heap.size) := hB
  obtain ⟨i0, hi, hz0, hz1, hz2⟩ := info_parts Try.info5
  have HG : Hid (∀ (wr : World) (g j : Nat), Below B w wr → j < n → wr.ownsRow B 5 1 (.slice (some ⟨g, 0, none⟩) n n) n (vals (unF k x y s n j)) → Calls Try.prog 18 #[.int .i64 k, .slice (some ⟨g, 0, none⟩) n n, .slice a' n' cap', .int .i64 j, .int .i64 s] wr fun e w' => e = .returned (.int .i64 (gsN k (unP k x y s j) y j s)) ∧ w' = wr) := fun wr g j hb hj ho => by
    rw [← unF_gs k x y (by omega) n j]
    exact guess_any k _ n n a' n' cap' j s _ y wr (unF_len k x y s (by omega)) hy (unF_bytes k x y s n j) bY (own_row ho) (ry.old (hB ▸ hb)) (by omega) (by omega) (by omega) (by omega)
  have HGb : Hid (∀ j : Nat, 0 ≤ gsN k (unP k x y s j) y j s ∧ gsN k (unP k x y s j) y j s < 256) := fun j => gsN_byte k (unP_bytes k x y s j) bY j s
  have HX : Hid (x.length = n ∧ Bytes x ∧ Row w a x) := ⟨hx, bx, rx⟩
  clear hx hy bx bY rx ry hB HS h
  go_enter Try.func12, Try.ntmps12
  go_wp2_with fail
  refine C.mono ?_
  rintro e w1 ⟨rfl, rfl⟩
  clear C
  go_wp2_with (at_make; refine wpList_make_full _ rfl _ _ 22 rfl B 5 i0 (.int .u8 0) 1 Try.underlying22 hi hz0 hz1 .i64 .i64 _ _ n rfl rfl rfl rfl ?b2 ?b3 ?b4 ?_)
  case b2 => rw [hz2]; omega
  case b3 => unfold maxLen; omega
  case b4 => rw [HB.out]; exact Nat.le_refl _
  intro w2 hown hgrow
  rw [made_valsF] at hown
  have hbel : Below B w1 w2 := (Below.refl _ _).grown hgrow (by rw [HB.out]; exact Nat.le_refl _) (fun k hk => by cases hk)
  obtain ⟨g, hg⟩ : ∃ g, g = w1.heap.size := ⟨_, rfl⟩
  rw [← hg]
  rw [← hg] at hown
  clear hg hgrow
  go_wp2
  go_loopw [12, 13, 25] (fun _ _ c wr => ∃ j : Nat, j ≤ n ∧ c = .int .i64 j ∧ wr.ownsRow B 5 1 (.slice (some ⟨g, 0, none⟩) n n) n (vals (unF k x y s n j)) ∧ Below B w1 wr) (fun _ _ c _ => n - (intOf c).toNat)
  case atStart => exact ⟨0, Nat.zero_le _, rfl, by rw [show unF k x y s n 0 = List.replicate n 0 from by simp [unF, unP]]; exact hown, hbel⟩
  case round =>
    clear hown hbel
    obtain ⟨j, hj, rfl, hown, hbel⟩ := hrel
    by_cases hlt : j < n
    · obtain ⟨b, off, rfl, hc⟩ := (HX.out.2.2.old (by rw [← HB.out]; exact hbel)).at j (by rw [HX.out.1]; exact hlt)
      have hcell := own_cellF hown hlt
      have hfz := hown.frozenAt j
      have HR : Hid _ := store_stepF hown hbel (by rw [HB.out]; exact Nat.le_refl _) (unF_step k x y s n j hlt)
      have G := HG.out wr g j hbel hlt hown
      have hGb := HGb.out j
      have hzb := HX.out.2.1.at j
      generalize gsN k (unP k x y s j) y (j : Int) s = G0 at *
      generalize x[j]?.getD 0 = z at *
      clear hown hbel
      go_wp2_with fail
      refine G.mono ?_
      rintro e w3 ⟨rfl, rfl⟩
      clear G
      go_wp2
      go_roundw
      case rel => exact ⟨j + 1, by omega, by go_num, HR.out.1, HR.out.2⟩
      case measure => simp [intOf]; omega
    · have : j = n := by omega
      subst this
      go_wp2
      go_ret2
      rw [show unF k x y s j j = unN k x y s from by simp [unF, unN, HX.out.1]] at hown
      exact newB2_of_owns hown (by rw [← HB.out]; exact hbel)
end Go.Proofs.Ytchaggngdfioeaa
