/- The document's lines of a picture that isn't laced, and a GIF's. -/
import Derived.Test.YtjkhldnjciakkaaAmQ
namespace Go.Proofs.Ytjkhldnjciakkaa
open Go.RowKit
theorem gif_cells {w : World} {b : Nat} (h : w.heap[b]? = some (.cells #[.int .i64 0, .int .i64 8, .int .i64 4, .int .i64 8, .int .i64 2, .int .i64 4, .int .i64 1, .int .i64 2] 55 (0, 0))) (i : Nat) (hi : i < 4) : w.cell? ⟨b, i * 2, none⟩ = some (.int .i64 (stAt gifL i).y) ∧ w.cell? ⟨b, i * 2 + 1, none⟩ = some (.int .i64 (stAt gifL i).dy) := by
  have e : ∀ j, w.cell? ⟨b, j, none⟩ = (#[.int .i64 0, .int .i64 8, .int .i64 4, .int .i64 8, .int .i64 2, .int .i64 4, .int .i64 1, .int .i64 2] : Array Value)[j]? := fun j => by simp [World.cell?, h]
  rw [e, e]
  match i, hi with
  | 0, _ => exact ⟨rfl, rfl⟩
  | 1, _ => exact ⟨rfl, rfl⟩
  | 2, _ => exact ⟨rfl, rfl⟩
  | 3, _ => exact ⟨rfl, rfl⟩
theorem gif_x (i : Nat) (hi : i < 4) : (stAt gifL i).x = 0 ∧ (stAt gifL i).dx = 1 := by
  match i, hi with
  | 0, _ => exact ⟨rfl, rfl⟩
  | 1, _ => exact ⟨rfl, rfl⟩
  | 2, _ => exact ⟨rfl, rfl⟩
  | 3, _ => exact ⟨rfl, rfl⟩
theorem two_cellsA {w : World} {b : Nat} {v0 v1 : Value} {t : TypeId} (h : w.heap[b]? = some (.cells #[v0, v1] t (0, 0))) : w.cell? ⟨b, 0, none⟩ = some v0 ∧ w.cell? ⟨b, 1, none⟩ = some v1 := by
  constructor <;> simp [World.cell?, h]
set_option maxHeartbeats 1600000 in
theorem rlines_no (W H : Int) (b : Bool) (w : World) (hp : ¬ picN W H) : Calls Try.prog 11 #[.int .i64 W, .int .i64 H, .bool b] w fun e w' => GlPost w [] e w' := by
  have CS := rsized_any W H w
  rw [decide_eq_false hp] at CS
  have HF : Hid (GlPost w [] (.returned (.slice none 0 0)) w) := ⟨none, 0, [], rfl, LsM.nil _ _, rfl, Below.refl _ _⟩
  clear hp
  go_enter Try.func11, Try.ntmps11
  go_wp2_with fail
  refine CS.mono ?_
  rintro e w1 ⟨rfl, rfl⟩
  go_wp2
  go_ret
  exact HF.out
set_option maxHeartbeats 3200000 in
theorem rlines_plain (W H : Int) (w : World) (hp : picN W H) : Calls Try.prog 11 #[.int .i64 W, .int .i64 H, .bool false] w fun e w' => GlPost w (lnsI oneL W H 1) e w' := by
  obtain ⟨p1, p2, p3, p4, p5⟩ := hp
  have CS := rsized_any W H w
  rw [decide_eq_true (show picN W H from ⟨p1, p2, p3, p4, p5⟩)] at CS
  obtain ⟨i0, hi0, hz0, hz1, hz2⟩ := info_parts Try.infoLn
  have HS : Hid (LvI w ([] ++ (List.range 0).map fun r => (((0 : Nat) : Int) + 1, lnS oneL W H 0 r)) (.slice none 0 0) w) := ⟨[], LsM.nil _ _, rfl, Below.refl _ _⟩
  have HNi : Hid (∀ r, r < hNt oneL W H 0 ↔ (0 + (r : Int) * 1 < H ∧ 0 < W)) := fun r => hN_iff (pngOf_ok false) p2 p4 0 r
  have HWi : Hid (∀ r, r < hNt oneL W H 0 → lnS oneL W H 0 r = spL 0 1 (0 + (r : Int) * 1) (plc 0 1 W).toNat) := fun r hr => by unfold lnS; rw [wNt_eq hr]; rfl
  have HNX : Hid (lnsI oneL W H 1 = [] ++ (List.range (hNt oneL W H 0)).map fun r => (((0 : Nat) : Int) + 1, lnS oneL W H 0 r)) := rfl
  clear p5
  go_enter Try.func11, Try.ntmps11
  go_wp2_with fail
  refine CS.mono ?_
  rintro e w1 ⟨rfl, rfl⟩
  clear CS
  go_wp2
  go_loopw [7, 8] (fun v7 v8 wr => ∃ r : Nat, r ≤ hNt oneL W H 0 ∧ v8 = .int .i64 r ∧ Hid (LvI w1 ([] ++ (List.range r).map fun r => (((0 : Nat) : Int) + 1, lnS oneL W H 0 r)) v7 wr)) (fun _ v8 _ => (H - intOf v8).toNat)
  case atStart => exact ⟨0, Nat.zero_le _, rfl, HS⟩
  case round =>
    clear HS
    obtain ⟨r, hr, rfl, HR⟩ := hrel
    obtain ⟨es, m1, m2, m3⟩ := HR.out
    obtain ⟨a, c, hv, hc1, -, -⟩ := m1.shape
    subst hv
    have hn := HNi.out r
    rw [Int.mul_one, Int.zero_add] at hn
    have hr2 : r ≤ 2048 := by
      rcases Nat.lt_or_ge r 2049 with h | h
      · omega
      · exfalso
        have h3 := (HNi.out 2048).1 (by omega)
        omega
    have hes : es.length ≤ 20000 := by
      have e := congrArg List.length m2
      rw [List.length_map, List.length_append, List.length_map, List.length_range] at e
      simp at e
      omega
    by_cases hc : (r : Int) < H
    · have hrl := hn.2 ⟨hc, by omega⟩
      have CR := rrow_any 1 0 (r : Int) 1 W wr (by omega) (by omega) (by omega) p2
      have HWr := HWi.out r hrl
      rw [Int.mul_one, Int.zero_add] at HWr
      have hpl := plc_bd (f := 0) (s := 1) (e := W) (by omega) (by omega) p2
      obtain ⟨NN, hNN⟩ : ∃ NN, (plc 0 1 W).toNat = NN := ⟨_, rfl⟩
      rw [hNN] at CR HWr
      obtain ⟨SS, hSS⟩ : ∃ SS, spL 0 1 (r : Int) NN = SS := ⟨_, rfl⟩
      rw [hSS] at CR HWr
      have HP : Hid (∀ a2 c2 w4 v7 w7, Below wr.heap.size wr w4 → SpIn wr.heap.size w4 ⟨1, a2, NN, c2, SS⟩ → w7.ownsRow w1.heap.size 43 2 v7 (es.length + 1) (leF es ++ [.int .i64 1, .slice a2 NN c2]) → (w4.alloc (.cells #[.int .i64 1, .slice a2 NN c2] 43)).grownBy w7 (Value.ownBlock (.slice a es.length c)) →
          LvI w1 ([] ++ (List.range (r + 1)).map fun r => (((0 : Nat) : Int) + 1, lnS oneL W H 0 r)) v7 w7) := fun a2 c2 w4 v7 w7 h1 h2 h3 h4 => by
        obtain ⟨k1, k2, k3⟩ := m1.next (e := ⟨1, a2, NN, c2, SS⟩) h1 h2 m3.size m3 h3 h4
        refine ⟨es ++ [⟨1, a2, NN, c2, SS⟩], k1, ?_, k2⟩
        rw [rows_more, HWr, List.map_append, m2, List.append_assoc]; rfl
      have HO : Hid (LsM w1.heap.size wr (.slice a es.length c) es ∧ w1.heap.size ≤ wr.heap.size) := ⟨m1, m3.size⟩
      obtain ⟨EL, hEL⟩ : ∃ EL, es.length = EL := ⟨_, rfl⟩
      have HEL : Hid (es.length = EL) := hEL
      rw [hEL] at hes hc1 ⊢
      clear HR m1 m2 m3 hn hEL hSS hNN HWr
      go_wp2_with fail
      refine CR.mono ?_
      clear CR
      rintro e w4 ⟨a2, c2, rfl, hsp, hb4⟩
      have HB4 : Hid (Below wr.heap.size wr w4 ∧ SpIn wr.heap.size w4 ⟨1, a2, NN, c2, SS⟩) := ⟨hb4, hsp⟩
      have HO4 : Hid (w4.ownsRow w1.heap.size 43 2 (.slice a EL c) EL (leF es) ∧ w1.heap.size ≤ w4.heap.size) := by
        have := (HO.out.1.old hb4).own
        rw [HEL.out] at this
        exact ⟨this, Nat.le_trans HO.out.2 hb4.size⟩
      clear hsp hb4
      go_wp2_with (at_builtin; refine wpList_append_own _ rfl _ _ 27 rfl w1.heap.size 43 i0 (.agg #[.int .i64 0, .slice none 0 0]) 2 32 Try.underlying27 hi0 hz0 hz1 hz2 rfl (by decide) (.slice a EL c) EL (leF es) rfl (HO4.out.1.alloc _) ⟨w4.heap.size, 0, none⟩ 1 1 [.int .i64 1, .slice a2 NN c2] rfl rfl ?c1 ?c2 ?c3 ?c4 ?c5 ?_)
      case c1 =>
        intro j u hj
        match j, hj with
        | 0, hj => simp at hj; subst hj; exact World.cell?_alloc_mark ..
        | 1, hj => simp at hj; subst hj; exact World.cell?_alloc_mark ..
      case c2 => intro u hu; simp at hu; rcases hu with rfl | rfl <;> rfl
      case c3 => unfold maxLen; omega
      case c4 => omega
      case c5 => have := HO4.out.2; simp; omega
      intro v7 w7 h1 h2 _
      rw [← HEL.out] at h1 h2
      have H7 : Hid _ := HP.out a2 c2 w4 v7 w7 HB4.out.1 HB4.out.2 h1 h2
      clear h1 h2 HP HO HO4 HB4
      go_wp2
      go_roundw
      case rel => exact ⟨r + 1, hrl, by go_num, H7⟩
      case measure => simp [intOf]; omega
    · obtain rfl : r = hNt oneL W H 0 := by
        have : ¬ r < hNt oneL W H 0 := fun h => hc (hn.1 h).1
        omega
      have HE : Hid (GlPost w1 (lnsI oneL W H 1) (.returned (.slice a es.length c)) wr) := by
        have := LvI.post HR.out
        rw [HNX.out]; exact this
      clear HR m1 m2 m3 hn HNi HWi HNX hr hr2
      generalize es.length = EL at *
      generalize hNt oneL W H 0 = r at *
      go_wp2
      go_ret
      exact HE.out
theorem rlines_any (W H : Int) (b : Bool) (w : World) : Calls Try.prog 11 #[.int .i64 W, .int .i64 H, .bool b] w fun e w' => GlPost w (lnsL (pngOf b) W H) e w' := by
  unfold lnsL psN
  by_cases hp : picN W H
  · rw [if_pos hp]
    cases b with
    | true => exact rlines_laced W H w hp
    | false => exact rlines_plain W H w hp
  · rw [if_neg hp]
    exact rlines_no W H b w hp
end Go.Proofs.Ytjkhldnjciakkaa
