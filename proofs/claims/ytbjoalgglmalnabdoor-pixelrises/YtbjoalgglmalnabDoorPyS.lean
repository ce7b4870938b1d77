/- PixelRises: the walk. -/
import Derived.Test.YtbjoalgglmalnabDoorPyM
import Derived.Test.YtbjoalgglmalnabDoorMaskJ
namespace Go.Proofs.YtbjoalgglmalnabDoor
open Go.RowKit
theorem five_d {d : Nat} (hd : isDp d) : d = 1 ∨ d = 2 ∨ d = 4 ∨ d = 8 ∨ d = 16 := by unfold isDp at hd; omega
theorem of_grey (d : Nat) (hd : isDp d) (v : Int) (h0 : 0 ≤ v) (h1 : v < 2 ^ d) (la : Option Addr) (w : World) (ht : Tab w) (hl : IRow w la [v]) :
    Calls Tryd.prog 5 #[.agg #[.int .i64 1, .int .i64 1, .int .i64 0, .int .i64 d, .bool false, .slice none 0 0, .slice none 0 0, .slice none 0 0, .slice none 0 0], .slice la 1 1] w fun e w' => e = .returned (.tuple #[.agg #[.int .u16 (lvN d v), .int .u16 (lvN d v), .int .u16 (lvN d v), .int .u16 65535], .int .i64 0]) ∧ Below w.heap.size w w' := by
  have hk : ckE 1 1 0 d 0 [] [] = 0 := by rcases five_d hd with rfl | rfl | rfl | rfl | rfl <;> decide
  have hs : smE 0 d 0 [v] 1 = 0 := by
    have ha : allB (2 ^ (d : Int).toNat) [v] := fun z hz => by
      have : z = v := by simpa using hz
      subst this; exact ⟨h0, h1⟩
    unfold smE
    rw [if_pos ⟨rfl, ha⟩, if_neg (by intro q; omega)]
  have := of_good ⟨1, 1, 0, d, false, none, 0, 0, none, 0, 0, none, 0, 0, none, 0, 0⟩ [] [] [] la 1 1 d [v] w ht ⟨.inl rfl, rfl, .inl rfl, rfl, .inl rfl, rfl, ⟨Nat.zero_le _, Nat.zero_le _, Nat.zero_le _, Nat.zero_le _⟩⟩ hl rfl (.inl rfl) rfl hk hs
  exact this
theorem lv_le {d : Nat} (hd : isDp d) {x y : Int} (h : x ≤ y) : lvN d x ≤ lvN d y := by
  unfold lvN
  rcases five_d hd with rfl | rfl | rfl | rfl | rfl <;> simp <;> omega
theorem lv_eq {d : Nat} (hd : isDp d) {x y : Int} : lvN d x = lvN d y ↔ x = y := by
  unfold lvN
  rcases five_d hd with rfl | rfl | rfl | rfl | rfl <;> simp <;> omega
theorem lv_full {d : Nat} (hd : isDp d) : lvN d (2 ^ d - 1) = 65535 := by
  rcases five_d hd with rfl | rfl | rfl | rfl | rfl <;> decide
theorem lv_zero (d : Nat) : lvN d 0 = 0 := by unfold lvN; simp
theorem irow_one {w : World} {s : Nat} (hs : s = w.heap.size) (v : Int) (fr : Nat × Nat) : IRow (w.alloc (.cells #[.int .i64 v] 3 fr)) (some ⟨s, 0, none⟩) [v] := irow_arr hs [v] _ fr rfl
def dL : List Int := [1, 2, 4, 8, 16]
/-- The law's raster stands, and nothing below is changed. -/
def RsQ (w : World) (B d : Nat) (u : World) : Prop := Below w.heap.size w u ∧ u.heap[B]? = some (.cells #[.int .i64 1, .int .i64 1, .int .i64 0, .int .i64 d, .bool false, .slice none 0 0, .slice none 0 0, .slice none 0 0, .slice none 0 0] 30 (0, 0))
theorem RsQ.old {w : World} {B d : Nat} {u u' : World} (h : RsQ w B d u) (hb : Below u.heap.size u u') : RsQ w B d u' := ⟨h.1.trans (hb.mono h.1.size), (hb.block _ (lt_of_block h.2)).trans h.2⟩
def ColQ (b : Nat) (v : Int) (u : World) : Prop := u.heap[b]? = some (.cells #[.int .u16 v, .int .u16 v, .int .u16 v, .int .u16 65535] 32 (0, 0))
theorem ColQ.old {b : Nat} {v : Int} {u u' : World} (h : ColQ b v u) (hb : Below u.heap.size u u') : ColQ b v u' := (hb.block _ (lt_of_block h)).trans h
theorem ColQ.cell {b : Nat} {v : Int} {u : World} (h : ColQ b v u) : u.cell? ⟨b, 0, none⟩ = some (.int .u16 v) := by
  unfold ColQ at h
  simp [World.cell?, h]
theorem two_allocs (u : World) (v m : Int) : Below u.heap.size u ((u.alloc (.cells #[.int .u16 v, .int .u16 v, .int .u16 v, .int .u16 65535] 32)).alloc (.cells #[.int .i64 m] 3)) ∧ ColQ u.heap.size v ((u.alloc (.cells #[.int .u16 v, .int .u16 v, .int .u16 v, .int .u16 65535] 32)).alloc (.cells #[.int .i64 m] 3)) ∧ IRow ((u.alloc (.cells #[.int .u16 v, .int .u16 v, .int .u16 v, .int .u16 65535] 32)).alloc (.cells #[.int .i64 m] 3)) (some ⟨u.heap.size + 1, 0, none⟩) [m] := by
  refine ⟨((Below.refl _ _).alloc (Nat.le_refl _) _).alloc (by simp) _, ?_, irow_one (by simp) _ _⟩
  unfold ColQ
  rw [Below.heap_alloc _ _ _ (by simp)]
  exact heap_alloc_newX u _
theorem pow_one {d : Nat} (hd : isDp d) : (1 : Int) ≤ 2 ^ d := by
  rcases five_d hd with rfl | rfl | rfl | rfl | rfl <;> decide
theorem f_facts {F P : Int} (hF : F = P - 1) (h : 1 ≤ P) : 0 ≤ F ∧ F < P := by omega
theorem z_fact {P : Int} (h : 1 ≤ P) : (0 : Int) < P := by omega
theorem three_allocs {w w1 : World} (hb1 : Below w.heap.size w w1) (d : Nat) (m : Int) : RsQ w (w1.heap.size + 1) d (((w1.alloc (.cells #[.int .i64 1, .int .i64 2, .int .i64 4, .int .i64 8, .int .i64 16] 3)).alloc (.cells #[.int .i64 1, .int .i64 1, .int .i64 0, .int .i64 d, .bool false, .slice none 0 0, .slice none 0 0, .slice none 0 0, .slice none 0 0] 30)).alloc (.cells #[.int .i64 m] 3)) ∧ IRow (((w1.alloc (.cells #[.int .i64 1, .int .i64 2, .int .i64 4, .int .i64 8, .int .i64 16] 3)).alloc (.cells #[.int .i64 1, .int .i64 1, .int .i64 0, .int .i64 d, .bool false, .slice none 0 0, .slice none 0 0, .slice none 0 0, .slice none 0 0] 30)).alloc (.cells #[.int .i64 m] 3)) (some ⟨w1.heap.size + 1 + 1, 0, none⟩) [m] := by
  refine ⟨⟨((hb1.alloc hb1.size _).alloc (by have := hb1.size; simp; omega) _).alloc (by have := hb1.size; simp; omega) _, ?_⟩, irow_one (by simp) _ _⟩
  rw [Below.heap_alloc _ _ _ (by simp)]
  have := heap_alloc_newX (w1.alloc (.cells #[.int .i64 1, .int .i64 2, .int .i64 4, .int .i64 8, .int .i64 16] 3)) (.cells #[.int .i64 1, .int .i64 1, .int .i64 0, .int .i64 d, .bool false, .slice none 0 0, .slice none 0 0, .slice none 0 0, .slice none 0 0] 30)
  rwa [World.size_alloc] at this
set_option maxHeartbeats 6400000 in
theorem prises_lt (a0 a b : Int) (k d : Nat) (X Y : Int) (w : World) (ht : Tab w) (ha0 : 0 ≤ a0 ∧ a0 < 256) (hk : a0 % 5 = k) (hk5 : k < 5) (hkd : dL[k]?.getD 0 = d) (hd : isDp d) (F : Int) (hFw : wrap64 (2 ^ d - 1) = F) (hF : F = 2 ^ d - 1) (ha : 0 ≤ a ∧ a < 65536) (hb : 0 ≤ b ∧ b < 65536) (hX : bits .and .i64 a F = X) (hY : bits .and .i64 b F = Y) (hX0 : 0 ≤ X ∧ X < 2 ^ d) (hY0 : 0 ≤ Y ∧ Y < 2 ^ d) (hc0 : X < Y) :
    Calls Tryd.prog 3 #[.int .u8 a0, .int .u16 a, .int .u16 b] w fun e w' => e = .returned (.bool true) ∧ Below w.heap.size w w' := by
  have C0 := fixed_any w ht
  have htm : a0.tmod 5 = k := by rw [Int.tmod_eq_emod_of_nonneg ha0.1]; exact hk
  obtain ⟨g1, g2, g3, g4⟩ := pow_d hd
  have HO : Hid (∀ (v : Int) (la : Option Addr) (u : World), 0 ≤ v → v < 2 ^ d → Below w.heap.size w u → IRow u la [v] → Calls Tryd.prog 5 #[.agg #[.int .i64 1, .int .i64 1, .int .i64 0, .int .i64 d, .bool false, .slice none 0 0, .slice none 0 0, .slice none 0 0, .slice none 0 0], .slice la 1 1] u fun e w' => e = .returned (.tuple #[.agg #[.int .u16 (lvN d v), .int .u16 (lvN d v), .int .u16 (lvN d v), .int .u16 65535], .int .i64 0]) ∧ Below u.heap.size u w') := fun v la u h0 h1 hb hl => of_grey d hd v h0 h1 la u (ht.old hb) hl
  have HP : Hid (0 ≤ X ∧ X < 2 ^ d ∧ 0 ≤ Y ∧ Y < 2 ^ d ∧ 0 ≤ F ∧ F < 2 ^ d ∧ (0 : Int) < 2 ^ d) := ⟨hX0.1, hX0.2, hY0.1, hY0.2, (f_facts hF (pow_one hd)).1, (f_facts hF (pow_one hd)).2, z_fact (pow_one hd)⟩
  have HE : Hid (lvN d 0 = 0 ∧ lvN d F = 65535) := ⟨lv_zero d, by rw [hF]; exact lv_full hd⟩
  obtain ⟨L1, hL1⟩ : ∃ L1, lvN d X = L1 := ⟨_, rfl⟩
  obtain ⟨L2, hL2⟩ : ∃ L2, lvN d Y = L2 := ⟨_, rfl⟩
  have hle : L1 ≤ L2 := by rw [← hL1, ← hL2]; exact lv_le hd (Int.le_of_lt hc0)
  have hne : (L1 == L2) = false := by
    have : L1 ≠ L2 := by rw [← hL1, ← hL2]; intro q; exact Int.ne_of_lt hc0 ((lv_eq hd).1 q)
    simpa using this
  have hxy : (X == Y) = false := by
    have : X ≠ Y := Int.ne_of_lt hc0
    simpa using this
  have HL1 : Hid (lvN d X = L1) := hL1
  have HL2 : Hid (lvN d Y = L2) := hL2
  clear hL1 hL2
  clear ht hX0 hY0 hF hd ha0
  go_enter Tryd.func3, Tryd.ntmps3
  go_wp2_with fail
  refine C0.mono ?_
  clear C0
  rintro e w1 ⟨rfl, hb1⟩
  have hc : (w1.alloc (.cells #[.int .i64 1, .int .i64 2, .int .i64 4, .int .i64 8, .int .i64 16] 3)).cell? ⟨w1.heap.size, k, none⟩ = some (.int .i64 d) := by
    rw [World.cell?_alloc_mark, ← hkd]
    match k, hk5 with
    | 0, _ | 1, _ | 2, _ | 3, _ | 4, _ => rfl
  obtain ⟨w2, hw2⟩ : ∃ w2, w2 = ((w1.alloc (.cells #[.int .i64 1, .int .i64 2, .int .i64 4, .int .i64 8, .int .i64 16] 3)).alloc (.cells #[.int .i64 1, .int .i64 1, .int .i64 0, .int .i64 d, .bool false, .slice none 0 0, .slice none 0 0, .slice none 0 0, .slice none 0 0] 30)).alloc (.cells #[.int .i64 X] 3) := ⟨_, rfl⟩
  have H2 : Hid (RsQ w (w1.heap.size + 1) d w2 ∧ IRow w2 (some ⟨w1.heap.size + 1 + 1, 0, none⟩) [X]) := by
    show _ ∧ _
    rw [hw2]
    exact three_allocs hb1 d X
  have C1 := HO.out X _ w2 HP.out.1 HP.out.2.1 H2.out.1.1 H2.out.2
  rw [HL1.out] at C1
  go_wp2_with fail
  rw [← hw2]
  refine C1.mono ?_
  clear C1 hw2 hc hb1
  rintro e w3 ⟨rfl, hb3⟩
  have HR3 : Hid (RsQ w (w1.heap.size + 1) d w3) := H2.out.1.old hb3
  clear hb3 H2
  generalize w1.heap.size + 1 = B at *
  obtain ⟨w4, hw4⟩ : ∃ w4, w4 = (w3.alloc (.cells #[.int .u16 L1, .int .u16 L1, .int .u16 L1, .int .u16 65535] 32)).alloc (.cells #[.int .i64 Y] 3) := ⟨_, rfl⟩
  have T3 := two_allocs w3 L1 Y
  rw [← hw4] at T3
  have HA3 : Hid (RsQ w B d w4 ∧ IRow w4 (some ⟨w3.heap.size + 1, 0, none⟩) [Y]) := ⟨HR3.out.old T3.1, T3.2.2⟩
  have HC3 : Hid (ColQ w3.heap.size L1 w4) := T3.2.1
  clear T3
  obtain ⟨c0, c1, c2, c3, c4, c5, c6, c7, c8⟩ := nine_cells HR3.out.2
  have hlt3 : B < w3.heap.size := lt_of_block HR3.out.2
  have C3 := HO.out Y _ w4 HP.out.2.2.1 HP.out.2.2.2.1 HA3.out.1.1 HA3.out.2
  rw [HL2.out] at C3
  go_wp2_with fail
  rw [← hw4]
  refine C3.mono ?_
  clear C3 hw4 c0 c1 c2 c3 c4 c5 c6 c7 c8 hlt3
  rintro e w5 ⟨rfl, hb5⟩
  have HR5 : Hid (RsQ w B d w5) := HA3.out.1.old hb5
  have HD3 : Hid (ColQ w3.heap.size L1 w5) := HC3.out.old hb5
  clear hb5 HA3 HC3 HR3
  generalize w3.heap.size = B3 at *
  obtain ⟨w6, hw6⟩ : ∃ w6, w6 = (w5.alloc (.cells #[.int .u16 L2, .int .u16 L2, .int .u16 L2, .int .u16 65535] 32)).alloc (.cells #[.int .i64 0] 3) := ⟨_, rfl⟩
  have T5 := two_allocs w5 L2 0
  rw [← hw6] at T5
  have HA5 : Hid (RsQ w B d w6 ∧ IRow w6 (some ⟨w5.heap.size + 1, 0, none⟩) [0]) := ⟨HR5.out.old T5.1, T5.2.2⟩
  have HC5 : Hid (ColQ w5.heap.size L2 w6) := T5.2.1
  have HD3' : Hid (ColQ B3 L1 w6) := HD3.out.old T5.1
  clear T5
  obtain ⟨c0, c1, c2, c3, c4, c5, c6, c7, c8⟩ := nine_cells HR5.out.2
  have hlt5 : B < w5.heap.size := lt_of_block HR5.out.2
  have C5 := HO.out 0 _ w6 (Int.le_refl 0) HP.out.2.2.2.2.2.2 HA5.out.1.1 HA5.out.2
  rw [HE.out.1] at C5
  go_wp2_with fail
  rw [← hw6]
  refine C5.mono ?_
  clear C5 hw6 c0 c1 c2 c3 c4 c5 c6 c7 c8 hlt5
  rintro e w7 ⟨rfl, hb7⟩
  have HR7 : Hid (RsQ w B d w7) := HA5.out.1.old hb7
  have HD5 : Hid (ColQ w5.heap.size L2 w7) := HC5.out.old hb7
  have HD3x : Hid (ColQ B3 L1 w7) := HD3'.out.old hb7
  clear HD3 HD3'
  clear hb7 HA5 HC5 HR5
  generalize w5.heap.size = B5 at *
  obtain ⟨w8, hw8⟩ : ∃ w8, w8 = (w7.alloc (.cells #[.int .u16 0, .int .u16 0, .int .u16 0, .int .u16 65535] 32)).alloc (.cells #[.int .i64 F] 3) := ⟨_, rfl⟩
  have T7 := two_allocs w7 0 F
  rw [← hw8] at T7
  have HA7 : Hid (RsQ w B d w8 ∧ IRow w8 (some ⟨w7.heap.size + 1, 0, none⟩) [F]) := ⟨HR7.out.old T7.1, T7.2.2⟩
  have HC7 : Hid (ColQ w7.heap.size 0 w8) := T7.2.1
  have HD3x' : Hid (ColQ B3 L1 w8) := HD3x.out.old T7.1
  have HD5' : Hid (ColQ B5 L2 w8) := HD5.out.old T7.1
  clear T7
  obtain ⟨c0, c1, c2, c3, c4, c5, c6, c7, c8⟩ := nine_cells HR7.out.2
  have hlt7 : B < w7.heap.size := lt_of_block HR7.out.2
  have C7 := HO.out F _ w8 HP.out.2.2.2.2.1 HP.out.2.2.2.2.2.1 HA7.out.1.1 HA7.out.2
  rw [HE.out.2] at C7
  go_wp2_with fail
  rw [← hw8]
  refine C7.mono ?_
  clear C7 hw8 c0 c1 c2 c3 c4 c5 c6 c7 c8 hlt7
  rintro e w9 ⟨rfl, hb9⟩
  have HR9 : Hid (RsQ w B d w9) := HA7.out.1.old hb9
  have HD7 : Hid (ColQ w7.heap.size 0 w9) := HC7.out.old hb9
  have HD3xx : Hid (ColQ B3 L1 w9) := HD3x'.out.old hb9
  clear HD3x HD3x'
  have HD5x : Hid (ColQ B5 L2 w9) := HD5'.out.old hb9
  clear HD5 HD5'
  clear hb9 HA7 HC7 HR7
  generalize w7.heap.size = B7 at *
  have k0 := HD3xx.out.cell
  have l0 : B3 < w9.heap.size := lt_of_block HD3xx.out
  have k1 := HD5x.out.cell
  have l1 : B5 < w9.heap.size := lt_of_block HD5x.out
  have k2 := HD7.out.cell
  have l2 : B7 < w9.heap.size := lt_of_block HD7.out
  have HB : Hid (∀ o, Below w.heap.size w (w9.alloc o)) := fun o => HR9.out.1.alloc HR9.out.1.size o
  clear HD3xx HD5x HD7 HR9
  go_wp2
  go_ret
  exact ⟨by simp [*], HB.out _⟩
set_option maxHeartbeats 6400000 in
theorem prises_gt (a0 a b : Int) (k d : Nat) (X Y : Int) (w : World) (ht : Tab w) (ha0 : 0 ≤ a0 ∧ a0 < 256) (hk : a0 % 5 = k) (hk5 : k < 5) (hkd : dL[k]?.getD 0 = d) (hd : isDp d) (F : Int) (hFw : wrap64 (2 ^ d - 1) = F) (hF : F = 2 ^ d - 1) (ha : 0 ≤ a ∧ a < 65536) (hb : 0 ≤ b ∧ b < 65536) (hX : bits .and .i64 a F = X) (hY : bits .and .i64 b F = Y) (hX0 : 0 ≤ X ∧ X < 2 ^ d) (hY0 : 0 ≤ Y ∧ Y < 2 ^ d) (hc0 : Y < X) :
    Calls Tryd.prog 3 #[.int .u8 a0, .int .u16 a, .int .u16 b] w fun e w' => e = .returned (.bool true) ∧ Below w.heap.size w w' := by
  have C0 := fixed_any w ht
  have htm : a0.tmod 5 = k := by rw [Int.tmod_eq_emod_of_nonneg ha0.1]; exact hk
  obtain ⟨g1, g2, g3, g4⟩ := pow_d hd
  have HO : Hid (∀ (v : Int) (la : Option Addr) (u : World), 0 ≤ v → v < 2 ^ d → Below w.heap.size w u → IRow u la [v] → Calls Tryd.prog 5 #[.agg #[.int .i64 1, .int .i64 1, .int .i64 0, .int .i64 d, .bool false, .slice none 0 0, .slice none 0 0, .slice none 0 0, .slice none 0 0], .slice la 1 1] u fun e w' => e = .returned (.tuple #[.agg #[.int .u16 (lvN d v), .int .u16 (lvN d v), .int .u16 (lvN d v), .int .u16 65535], .int .i64 0]) ∧ Below u.heap.size u w') := fun v la u h0 h1 hb hl => of_grey d hd v h0 h1 la u (ht.old hb) hl
  have HP : Hid (0 ≤ X ∧ X < 2 ^ d ∧ 0 ≤ Y ∧ Y < 2 ^ d ∧ 0 ≤ F ∧ F < 2 ^ d ∧ (0 : Int) < 2 ^ d) := ⟨hX0.1, hX0.2, hY0.1, hY0.2, (f_facts hF (pow_one hd)).1, (f_facts hF (pow_one hd)).2, z_fact (pow_one hd)⟩
  have HE : Hid (lvN d 0 = 0 ∧ lvN d F = 65535) := ⟨lv_zero d, by rw [hF]; exact lv_full hd⟩
  obtain ⟨L1, hL1⟩ : ∃ L1, lvN d Y = L1 := ⟨_, rfl⟩
  obtain ⟨L2, hL2⟩ : ∃ L2, lvN d X = L2 := ⟨_, rfl⟩
  have hle : L1 ≤ L2 := by rw [← hL1, ← hL2]; exact lv_le hd (Int.le_of_lt hc0)
  have hne : (L1 == L2) = false := by
    have : L1 ≠ L2 := by rw [← hL1, ← hL2]; intro q; exact Int.ne_of_lt hc0 ((lv_eq hd).1 q)
    simpa using this
  have hxy : (X == Y) = false := by
    have : X ≠ Y := (Int.ne_of_lt hc0).symm
    simpa using this
  have HL1 : Hid (lvN d Y = L1) := hL1
  have HL2 : Hid (lvN d X = L2) := hL2
  clear hL1 hL2
  clear ht hX0 hY0 hF hd ha0
  go_enter Tryd.func3, Tryd.ntmps3
  go_wp2_with fail
  refine C0.mono ?_
  clear C0
  rintro e w1 ⟨rfl, hb1⟩
  have hc : (w1.alloc (.cells #[.int .i64 1, .int .i64 2, .int .i64 4, .int .i64 8, .int .i64 16] 3)).cell? ⟨w1.heap.size, k, none⟩ = some (.int .i64 d) := by
    rw [World.cell?_alloc_mark, ← hkd]
    match k, hk5 with
    | 0, _ | 1, _ | 2, _ | 3, _ | 4, _ => rfl
  obtain ⟨w2, hw2⟩ : ∃ w2, w2 = ((w1.alloc (.cells #[.int .i64 1, .int .i64 2, .int .i64 4, .int .i64 8, .int .i64 16] 3)).alloc (.cells #[.int .i64 1, .int .i64 1, .int .i64 0, .int .i64 d, .bool false, .slice none 0 0, .slice none 0 0, .slice none 0 0, .slice none 0 0] 30)).alloc (.cells #[.int .i64 Y] 3) := ⟨_, rfl⟩
  have H2 : Hid (RsQ w (w1.heap.size + 1) d w2 ∧ IRow w2 (some ⟨w1.heap.size + 1 + 1, 0, none⟩) [Y]) := by
    show _ ∧ _
    rw [hw2]
    exact three_allocs hb1 d Y
  have C1 := HO.out Y _ w2 HP.out.2.2.1 HP.out.2.2.2.1 H2.out.1.1 H2.out.2
  rw [HL1.out] at C1
  go_wp2_with fail
  rw [← hw2]
  refine C1.mono ?_
  clear C1 hw2 hc hb1
  rintro e w3 ⟨rfl, hb3⟩
  have HR3 : Hid (RsQ w (w1.heap.size + 1) d w3) := H2.out.1.old hb3
  clear hb3 H2
  generalize w1.heap.size + 1 = B at *
  obtain ⟨w4, hw4⟩ : ∃ w4, w4 = (w3.alloc (.cells #[.int .u16 L1, .int .u16 L1, .int .u16 L1, .int .u16 65535] 32)).alloc (.cells #[.int .i64 X] 3) := ⟨_, rfl⟩
  have T3 := two_allocs w3 L1 X
  rw [← hw4] at T3
  have HA3 : Hid (RsQ w B d w4 ∧ IRow w4 (some ⟨w3.heap.size + 1, 0, none⟩) [X]) := ⟨HR3.out.old T3.1, T3.2.2⟩
  have HC3 : Hid (ColQ w3.heap.size L1 w4) := T3.2.1
  clear T3
  obtain ⟨c0, c1, c2, c3, c4, c5, c6, c7, c8⟩ := nine_cells HR3.out.2
  have hlt3 : B < w3.heap.size := lt_of_block HR3.out.2
  have C3 := HO.out X _ w4 HP.out.1 HP.out.2.1 HA3.out.1.1 HA3.out.2
  rw [HL2.out] at C3
  go_wp2_with fail
  rw [← hw4]
  refine C3.mono ?_
  clear C3 hw4 c0 c1 c2 c3 c4 c5 c6 c7 c8 hlt3
  rintro e w5 ⟨rfl, hb5⟩
  have HR5 : Hid (RsQ w B d w5) := HA3.out.1.old hb5
  have HD3 : Hid (ColQ w3.heap.size L1 w5) := HC3.out.old hb5
  clear hb5 HA3 HC3 HR3
  generalize w3.heap.size = B3 at *
  obtain ⟨w6, hw6⟩ : ∃ w6, w6 = (w5.alloc (.cells #[.int .u16 L2, .int .u16 L2, .int .u16 L2, .int .u16 65535] 32)).alloc (.cells #[.int .i64 0] 3) := ⟨_, rfl⟩
  have T5 := two_allocs w5 L2 0
  rw [← hw6] at T5
  have HA5 : Hid (RsQ w B d w6 ∧ IRow w6 (some ⟨w5.heap.size + 1, 0, none⟩) [0]) := ⟨HR5.out.old T5.1, T5.2.2⟩
  have HC5 : Hid (ColQ w5.heap.size L2 w6) := T5.2.1
  have HD3' : Hid (ColQ B3 L1 w6) := HD3.out.old T5.1
  clear T5
  obtain ⟨c0, c1, c2, c3, c4, c5, c6, c7, c8⟩ := nine_cells HR5.out.2
  have hlt5 : B < w5.heap.size := lt_of_block HR5.out.2
  have C5 := HO.out 0 _ w6 (Int.le_refl 0) HP.out.2.2.2.2.2.2 HA5.out.1.1 HA5.out.2
  rw [HE.out.1] at C5
  go_wp2_with fail
  rw [← hw6]
  refine C5.mono ?_
  clear C5 hw6 c0 c1 c2 c3 c4 c5 c6 c7 c8 hlt5
  rintro e w7 ⟨rfl, hb7⟩
  have HR7 : Hid (RsQ w B d w7) := HA5.out.1.old hb7
  have HD5 : Hid (ColQ w5.heap.size L2 w7) := HC5.out.old hb7
  have HD3x : Hid (ColQ B3 L1 w7) := HD3'.out.old hb7
  clear HD3 HD3'
  clear hb7 HA5 HC5 HR5
  generalize w5.heap.size = B5 at *
  obtain ⟨w8, hw8⟩ : ∃ w8, w8 = (w7.alloc (.cells #[.int .u16 0, .int .u16 0, .int .u16 0, .int .u16 65535] 32)).alloc (.cells #[.int .i64 F] 3) := ⟨_, rfl⟩
  have T7 := two_allocs w7 0 F
  rw [← hw8] at T7
  have HA7 : Hid (RsQ w B d w8 ∧ IRow w8 (some ⟨w7.heap.size + 1, 0, none⟩) [F]) := ⟨HR7.out.old T7.1, T7.2.2⟩
  have HC7 : Hid (ColQ w7.heap.size 0 w8) := T7.2.1
  have HD3x' : Hid (ColQ B3 L1 w8) := HD3x.out.old T7.1
  have HD5' : Hid (ColQ B5 L2 w8) := HD5.out.old T7.1
  clear T7
  obtain ⟨c0, c1, c2, c3, c4, c5, c6, c7, c8⟩ := nine_cells HR7.out.2
  have hlt7 : B < w7.heap.size := lt_of_block HR7.out.2
  have C7 := HO.out F _ w8 HP.out.2.2.2.2.1 HP.out.2.2.2.2.2.1 HA7.out.1.1 HA7.out.2
  rw [HE.out.2] at C7
  go_wp2_with fail
  rw [← hw8]
  refine C7.mono ?_
  clear C7 hw8 c0 c1 c2 c3 c4 c5 c6 c7 c8 hlt7
  rintro e w9 ⟨rfl, hb9⟩
  have HR9 : Hid (RsQ w B d w9) := HA7.out.1.old hb9
  have HD7 : Hid (ColQ w7.heap.size 0 w9) := HC7.out.old hb9
  have HD3xx : Hid (ColQ B3 L1 w9) := HD3x'.out.old hb9
  clear HD3x HD3x'
  have HD5x : Hid (ColQ B5 L2 w9) := HD5'.out.old hb9
  clear HD5 HD5'
  clear hb9 HA7 HC7 HR7
  generalize w7.heap.size = B7 at *
  have k0 := HD3xx.out.cell
  have l0 : B3 < w9.heap.size := lt_of_block HD3xx.out
  have k1 := HD5x.out.cell
  have l1 : B5 < w9.heap.size := lt_of_block HD5x.out
  have k2 := HD7.out.cell
  have l2 : B7 < w9.heap.size := lt_of_block HD7.out
  have HB : Hid (∀ o, Below w.heap.size w (w9.alloc o)) := fun o => HR9.out.1.alloc HR9.out.1.size o
  clear HD3xx HD5x HD7 HR9
  go_wp2
  go_ret
  exact ⟨by simp [*], HB.out _⟩
set_option maxHeartbeats 6400000 in
theorem prises_eq (a0 a b : Int) (k d : Nat) (X Y : Int) (w : World) (ht : Tab w) (ha0 : 0 ≤ a0 ∧ a0 < 256) (hk : a0 % 5 = k) (hk5 : k < 5) (hkd : dL[k]?.getD 0 = d) (hd : isDp d) (F : Int) (hFw : wrap64 (2 ^ d - 1) = F) (hF : F = 2 ^ d - 1) (ha : 0 ≤ a ∧ a < 65536) (hb : 0 ≤ b ∧ b < 65536) (hX : bits .and .i64 a F = X) (hY : bits .and .i64 b F = Y) (hX0 : 0 ≤ X ∧ X < 2 ^ d) (hY0 : 0 ≤ Y ∧ Y < 2 ^ d) (hc0 : X = Y) :
    Calls Tryd.prog 3 #[.int .u8 a0, .int .u16 a, .int .u16 b] w fun e w' => e = .returned (.bool true) ∧ Below w.heap.size w w' := by
  have C0 := fixed_any w ht
  have htm : a0.tmod 5 = k := by rw [Int.tmod_eq_emod_of_nonneg ha0.1]; exact hk
  obtain ⟨g1, g2, g3, g4⟩ := pow_d hd
  have HO : Hid (∀ (v : Int) (la : Option Addr) (u : World), 0 ≤ v → v < 2 ^ d → Below w.heap.size w u → IRow u la [v] → Calls Tryd.prog 5 #[.agg #[.int .i64 1, .int .i64 1, .int .i64 0, .int .i64 d, .bool false, .slice none 0 0, .slice none 0 0, .slice none 0 0, .slice none 0 0], .slice la 1 1] u fun e w' => e = .returned (.tuple #[.agg #[.int .u16 (lvN d v), .int .u16 (lvN d v), .int .u16 (lvN d v), .int .u16 65535], .int .i64 0]) ∧ Below u.heap.size u w') := fun v la u h0 h1 hb hl => of_grey d hd v h0 h1 la u (ht.old hb) hl
  have HP : Hid (0 ≤ X ∧ X < 2 ^ d ∧ 0 ≤ Y ∧ Y < 2 ^ d ∧ 0 ≤ F ∧ F < 2 ^ d ∧ (0 : Int) < 2 ^ d) := ⟨hX0.1, hX0.2, hY0.1, hY0.2, (f_facts hF (pow_one hd)).1, (f_facts hF (pow_one hd)).2, z_fact (pow_one hd)⟩
  have HE : Hid (lvN d 0 = 0 ∧ lvN d F = 65535) := ⟨lv_zero d, by rw [hF]; exact lv_full hd⟩
  subst hc0
  obtain ⟨L1, hL1⟩ : ∃ L1, lvN d X = L1 := ⟨_, rfl⟩
  have HL1 : Hid (lvN d X = L1) := hL1
  clear hL1
  clear ht hX0 hY0 hF hd ha0
  go_enter Tryd.func3, Tryd.ntmps3
  go_wp2_with fail
  refine C0.mono ?_
  clear C0
  rintro e w1 ⟨rfl, hb1⟩
  have hc : (w1.alloc (.cells #[.int .i64 1, .int .i64 2, .int .i64 4, .int .i64 8, .int .i64 16] 3)).cell? ⟨w1.heap.size, k, none⟩ = some (.int .i64 d) := by
    rw [World.cell?_alloc_mark, ← hkd]
    match k, hk5 with
    | 0, _ | 1, _ | 2, _ | 3, _ | 4, _ => rfl
  obtain ⟨w2, hw2⟩ : ∃ w2, w2 = ((w1.alloc (.cells #[.int .i64 1, .int .i64 2, .int .i64 4, .int .i64 8, .int .i64 16] 3)).alloc (.cells #[.int .i64 1, .int .i64 1, .int .i64 0, .int .i64 d, .bool false, .slice none 0 0, .slice none 0 0, .slice none 0 0, .slice none 0 0] 30)).alloc (.cells #[.int .i64 X] 3) := ⟨_, rfl⟩
  have H2 : Hid (RsQ w (w1.heap.size + 1) d w2 ∧ IRow w2 (some ⟨w1.heap.size + 1 + 1, 0, none⟩) [X]) := by
    show _ ∧ _
    rw [hw2]
    exact three_allocs hb1 d X
  have C1 := HO.out X _ w2 HP.out.1 HP.out.2.1 H2.out.1.1 H2.out.2
  rw [HL1.out] at C1
  go_wp2_with fail
  rw [← hw2]
  refine C1.mono ?_
  clear C1 hw2 hc hb1
  rintro e w3 ⟨rfl, hb3⟩
  have HR3 : Hid (RsQ w (w1.heap.size + 1) d w3) := H2.out.1.old hb3
  clear hb3 H2
  generalize w1.heap.size + 1 = B at *
  obtain ⟨w4, hw4⟩ : ∃ w4, w4 = (w3.alloc (.cells #[.int .u16 L1, .int .u16 L1, .int .u16 L1, .int .u16 65535] 32)).alloc (.cells #[.int .i64 X] 3) := ⟨_, rfl⟩
  have T3 := two_allocs w3 L1 X
  rw [← hw4] at T3
  have HA3 : Hid (RsQ w B d w4 ∧ IRow w4 (some ⟨w3.heap.size + 1, 0, none⟩) [X]) := ⟨HR3.out.old T3.1, T3.2.2⟩
  have HC3 : Hid (ColQ w3.heap.size L1 w4) := T3.2.1
  clear T3
  obtain ⟨c0, c1, c2, c3, c4, c5, c6, c7, c8⟩ := nine_cells HR3.out.2
  have hlt3 : B < w3.heap.size := lt_of_block HR3.out.2
  have C3 := HO.out X _ w4 HP.out.1 HP.out.2.1 HA3.out.1.1 HA3.out.2
  rw [HL1.out] at C3
  go_wp2_with fail
  rw [← hw4]
  refine C3.mono ?_
  clear C3 hw4 c0 c1 c2 c3 c4 c5 c6 c7 c8 hlt3
  rintro e w5 ⟨rfl, hb5⟩
  have HR5 : Hid (RsQ w B d w5) := HA3.out.1.old hb5
  have HD3 : Hid (ColQ w3.heap.size L1 w5) := HC3.out.old hb5
  clear hb5 HA3 HC3 HR3
  generalize w3.heap.size = B3 at *
  obtain ⟨w6, hw6⟩ : ∃ w6, w6 = (w5.alloc (.cells #[.int .u16 L1, .int .u16 L1, .int .u16 L1, .int .u16 65535] 32)).alloc (.cells #[.int .i64 0] 3) := ⟨_, rfl⟩
  have T5 := two_allocs w5 L1 0
  rw [← hw6] at T5
  have HA5 : Hid (RsQ w B d w6 ∧ IRow w6 (some ⟨w5.heap.size + 1, 0, none⟩) [0]) := ⟨HR5.out.old T5.1, T5.2.2⟩
  have HC5 : Hid (ColQ w5.heap.size L1 w6) := T5.2.1
  have HD3' : Hid (ColQ B3 L1 w6) := HD3.out.old T5.1
  clear T5
  obtain ⟨c0, c1, c2, c3, c4, c5, c6, c7, c8⟩ := nine_cells HR5.out.2
  have hlt5 : B < w5.heap.size := lt_of_block HR5.out.2
  have C5 := HO.out 0 _ w6 (Int.le_refl 0) HP.out.2.2.2.2.2.2 HA5.out.1.1 HA5.out.2
  rw [HE.out.1] at C5
  go_wp2_with fail
  rw [← hw6]
  refine C5.mono ?_
  clear C5 hw6 c0 c1 c2 c3 c4 c5 c6 c7 c8 hlt5
  rintro e w7 ⟨rfl, hb7⟩
  have HR7 : Hid (RsQ w B d w7) := HA5.out.1.old hb7
  have HD5 : Hid (ColQ w5.heap.size L1 w7) := HC5.out.old hb7
  have HD3x : Hid (ColQ B3 L1 w7) := HD3'.out.old hb7
  clear HD3 HD3'
  clear hb7 HA5 HC5 HR5
  generalize w5.heap.size = B5 at *
  obtain ⟨w8, hw8⟩ : ∃ w8, w8 = (w7.alloc (.cells #[.int .u16 0, .int .u16 0, .int .u16 0, .int .u16 65535] 32)).alloc (.cells #[.int .i64 F] 3) := ⟨_, rfl⟩
  have T7 := two_allocs w7 0 F
  rw [← hw8] at T7
  have HA7 : Hid (RsQ w B d w8 ∧ IRow w8 (some ⟨w7.heap.size + 1, 0, none⟩) [F]) := ⟨HR7.out.old T7.1, T7.2.2⟩
  have HC7 : Hid (ColQ w7.heap.size 0 w8) := T7.2.1
  have HD3x' : Hid (ColQ B3 L1 w8) := HD3x.out.old T7.1
  have HD5' : Hid (ColQ B5 L1 w8) := HD5.out.old T7.1
  clear T7
  obtain ⟨c0, c1, c2, c3, c4, c5, c6, c7, c8⟩ := nine_cells HR7.out.2
  have hlt7 : B < w7.heap.size := lt_of_block HR7.out.2
  have C7 := HO.out F _ w8 HP.out.2.2.2.2.1 HP.out.2.2.2.2.2.1 HA7.out.1.1 HA7.out.2
  rw [HE.out.2] at C7
  go_wp2_with fail
  rw [← hw8]
  refine C7.mono ?_
  clear C7 hw8 c0 c1 c2 c3 c4 c5 c6 c7 c8 hlt7
  rintro e w9 ⟨rfl, hb9⟩
  have HR9 : Hid (RsQ w B d w9) := HA7.out.1.old hb9
  have HD7 : Hid (ColQ w7.heap.size 0 w9) := HC7.out.old hb9
  have HD3xx : Hid (ColQ B3 L1 w9) := HD3x'.out.old hb9
  clear HD3x HD3x'
  have HD5x : Hid (ColQ B5 L1 w9) := HD5'.out.old hb9
  clear HD5 HD5'
  clear hb9 HA7 HC7 HR7
  generalize w7.heap.size = B7 at *
  have k0 := HD3xx.out.cell
  have l0 : B3 < w9.heap.size := lt_of_block HD3xx.out
  have k1 := HD5x.out.cell
  have l1 : B5 < w9.heap.size := lt_of_block HD5x.out
  have k2 := HD7.out.cell
  have l2 : B7 < w9.heap.size := lt_of_block HD7.out
  have HB : Hid (∀ o, Below w.heap.size w (w9.alloc o)) := fun o => HR9.out.1.alloc HR9.out.1.size o
  clear HD3xx HD5x HD7 HR9
  go_wp2
  go_ret
  exact ⟨by simp [*], HB.out _⟩
theorem prises_walk (a0 a b : Int) (w : World) (ht : Tab w) (w0 : (Lit.int .u8 a0).wf = true) (w1 : (Lit.int .u16 a).wf = true) (w2 : (Lit.int .u16 b).wf = true) :
    Calls Tryd.prog 3 #[.int .u8 a0, .int .u16 a, .int .u16 b] w fun e w' => e = .returned (.bool true) ∧ Below w.heap.size w w' := by
  have q0 : 0 ≤ a0 ∧ a0 < 256 := by have := bounds_u8 w0; omega
  have q1 : 0 ≤ a ∧ a < 65536 := by have := bounds_u16 w1; omega
  have q2 : 0 ≤ b ∧ b < 65536 := by have := bounds_u16 w2; omega
  obtain ⟨k, d, hk, hk5, hkd, hd⟩ : ∃ k d : Nat, a0 % 5 = k ∧ k < 5 ∧ dL[k]?.getD 0 = d ∧ isDp d := by
    rcases (show a0 % 5 = 0 ∨ a0 % 5 = 1 ∨ a0 % 5 = 2 ∨ a0 % 5 = 3 ∨ a0 % 5 = 4 by omega) with h | h | h | h | h
    · exact ⟨0, 1, h, by omega, rfl, by decide⟩
    · exact ⟨1, 2, h, by omega, rfl, by decide⟩
    · exact ⟨2, 4, h, by omega, rfl, by decide⟩
    · exact ⟨3, 8, h, by omega, rfl, by decide⟩
    · exact ⟨4, 16, h, by omega, rfl, by decide⟩
  have hFw : wrap64 (2 ^ d - 1) = 2 ^ d - 1 := by rcases five_d hd with rfl | rfl | rfl | rfl | rfl <;> (unfold wrap64; decide)
  have hm : (BitVec.ofInt 64 ((2 : Int) ^ d - 1)).toNat = 2 ^ d - 1 := by rcases five_d hd with rfl | rfl | rfl | rfl | rfl <;> decide
  have hd32 : d ≤ 32 := by rcases five_d hd with rfl | rfl | rfl | rfl | rfl <;> omega
  have hp : (0 : Int) < 2 ^ d := by rcases five_d hd with rfl | rfl | rfl | rfl | rfl <;> decide
  have mx := i64_maskI a d (2 ^ d - 1) hd32 hm
  have my := i64_maskI b d (2 ^ d - 1) hd32 hm
  have bx : 0 ≤ a % 2 ^ d ∧ a % 2 ^ d < 2 ^ d := ⟨Int.emod_nonneg _ (Int.ne_of_gt hp), Int.emod_lt_of_pos _ hp⟩
  have by' : 0 ≤ b % 2 ^ d ∧ b % 2 ^ d < 2 ^ d := ⟨Int.emod_nonneg _ (Int.ne_of_gt hp), Int.emod_lt_of_pos _ hp⟩
  rcases Int.lt_trichotomy (a % 2 ^ d) (b % 2 ^ d) with h | h | h
  · exact prises_lt a0 a b k d _ _ w ht q0 hk hk5 hkd hd _ hFw rfl q1 q2 mx my bx by' h
  · exact prises_eq a0 a b k d _ _ w ht q0 hk hk5 hkd hd _ hFw rfl q1 q2 mx my bx by' h
  · exact prises_gt a0 a b k d _ _ w ht q0 hk hk5 hkd hd _ hFw rfl q1 q2 mx my bx by' h
end Go.Proofs.YtbjoalgglmalnabDoor
