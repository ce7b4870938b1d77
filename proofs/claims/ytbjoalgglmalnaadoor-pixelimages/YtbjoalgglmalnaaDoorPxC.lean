/- Samples into bytes: Pack. -/
import Derived.Test.YtbjoalgglmalnaaDoorPxB
namespace Go.Proofs.YtbjoalgglmalnaaDoor
open Go.RowKit
theorem made_valsX (m : Nat) : (madeCells #[Value.int .u8 0] m).toList = vals (List.replicate m 0) := by
  rw [toList_madeCells_one]; simp [vals]
def pkM (d n : Nat) : Nat := (n * d + 7) / 8
def pkL (d : Nat) (s : List Int) : List Int := pkP d s (pkM d s.length) s.length
/-- The first i samples are put: what holds. -/
def PkA (d : Nat) (s : List Int) (i : Nat) : Prop := if d = 16 then ∀ j : Nat, 0 ≤ (pkP d s (pkM d s.length) i)[j]?.getD 0 ∧ (pkP d s (pkM d s.length) i)[j]?.getD 0 < 256 else PkI d i (pkP d s (pkM d s.length) i)
theorem pk_put {d : Nat} {s : List Int} {i : Nat} (hd : isDp d) (hs : allB (2 ^ d) s) (hi : i < s.length) (hn : s.length ≤ 17592186044416) (h : PkA d s i) (base g : Nat) (w : World) (hw : w.ownsRow base 5 1 (.slice (some ⟨g, 0, none⟩) (pkM d s.length) (pkM d s.length)) (pkM d s.length) (vals (pkP d s (pkM d s.length) i))) :
    Calls Tryd.prog 26 #[.slice (some ⟨g, 0, none⟩) (pkM d s.length) (pkM d s.length), .int .i64 i, .int .i64 d, .int .i64 (s[i]?.getD 0)] w (fun e w' => PutPost w base g (pkM d s.length) (pkP d s (pkM d s.length) (i + 1)) e w') ∧ PkA d s (i + 1) := by
  have hv : 0 ≤ s[i]?.getD 0 ∧ s[i]?.getD 0 < 2 ^ d := by rw [List.getElem?_eq_getElem hi]; exact hs _ (List.getElem_mem hi)
  have hl := pkP_len d s (pkM d s.length) i
  unfold isDp at hd
  have hd' : d = 1 ∨ d = 2 ∨ d = 4 ∨ d = 8 ∨ d = 16 := by omega
  by_cases e : d = 16
  · subst e
    have hm : 2 * i + 1 < pkM 16 s.length := by unfold pkM; omega
    refine ⟨put16_any i _ _ base g _ w hm (by unfold pkM; omega) hl hv.1 (by simpa using hv.2) hw, ?_⟩
    unfold PkA at h ⊢
    rw [if_pos rfl] at h ⊢
    intro j
    rw [pkP]
    unfold putL
    rw [if_pos rfl, set_at _ _ _ (by rw [List.length_set, hl]; exact hm), set_at _ _ _ (by rw [hl]; omega)]
    have h2 : s[i]?.getD 0 < 65536 := by simpa using hv.2
    have h3 := h j
    split
    · omega
    · split <;> omega
  · unfold PkA at h
    rw [if_neg e] at h
    have hd8 : d = 1 ∨ d = 2 ∨ d = 4 ∨ d = 8 := by omega
    have hid : i * d + d ≤ s.length * d := by
      have := Nat.mul_le_mul_right d (show i + 1 ≤ s.length by omega)
      rw [Nat.add_mul] at this; omega
    have hA : i * d / 8 < pkM d s.length := by unfold pkM; omega
    obtain ⟨k1, k2, k3⟩ := pkI_step8 hd8 h (by rw [hl]; exact hA) hv.1 hv.2
    have hod : i * d % 8 + d ≤ 8 := by rcases hd8 with rfl | rfl | rfl | rfl <;> omega
    refine ⟨put8_any i d (i * d / 8) (i * d % 8) (8 - d - i * d % 8) _ _ base g _ w (by omega) (by omega) (by omega) (by omega) hA hl hv.1 k3 (by omega) k2 hw, ?_⟩
    unfold PkA
    rw [if_neg e]
    exact k1
theorem pkA_zero (d : Nat) (s : List Int) : PkA d s 0 := by
  unfold PkA
  have := pkI_zero d (pkM d s.length)
  split
  · exact this.bt
  · exact this
theorem pow_d {d : Nat} (hd : isDp d) : (1 : Int) ≤ d ∧ (d : Int) ≤ 16 ∧ wrap64 (2 ^ d) = 2 ^ d ∧ (2 : Int) ^ d ≤ 65536 := by
  unfold isDp at hd
  have : d = 1 ∨ d = 2 ∨ d = 4 ∨ d = 8 ∨ d = 16 := by omega
  rcases this with rfl | rfl | rfl | rfl | rfl <;> exact ⟨by decide, by decide, by unfold wrap64; decide, by decide⟩
def NewX (w : World) (zs : List Int) (e : Ending) (w' : World) : Prop :=
  ∃ a cap, e = .returned (.tuple #[.slice a zs.length cap, .int .i64 0]) ∧ zs.length ≤ cap ∧ cap ≤ maxLen ∧ (a = none → cap = 0) ∧ Row w' a zs ∧ Below w.heap.size w w'
theorem newX_of_owns {w w' : World} {base : Nat} {v : Value} {n : Nat} {zs : List Int} (h : w'.ownsRow base 5 1 v n (vals zs)) (hb : Below w.heap.size w w') : NewX w zs (.returned (.tuple #[v, .int .i64 0])) w' := by
  obtain ⟨g, hs, _⟩ := Sl.of_owns h
  obtain ⟨a, cap, rfl, h1, h2, h3⟩ := hs.shape
  rw [vals_len] at h1
  exact ⟨a, cap, by rw [vals_len], h1, h2, h3, hs.row rfl, hb⟩
set_option maxHeartbeats 1600000 in
theorem pack_yes (a : Option Addr) (n c d : Nat) (s : List Int) (w : World) (hd : isDp d) (hs : allB (2 ^ d) s) (hn : s.length = n) (hn2 : n ≤ 17592186044416) (hr : IRow w a s) : Calls Tryd.prog 10 #[.slice a n c, .int .i64 d] w fun e w' => NewX w (pkL d s) e w' := by
  obtain ⟨d1, d2, d3, d4⟩ := pow_d hd
  have C1 := isDepth_any d w
  rw [decide_eq_true hd] at C1
  have C2 := allBelow_any (2 ^ d) a n c s w hn hr (by omega)
  rw [decide_eq_true hs] at C2
  have hnd : n * d ≤ n * 16 := Nat.mul_le_mul_left n (by omega)
  obtain ⟨M, hM⟩ : ∃ M, n * d = M := ⟨_, rfl⟩
  have hMi : (n : Int) * (d : Int) = (M : Int) := by rw [← hM]; simp
  rw [hM] at hnd
  obtain ⟨m, hm⟩ : ∃ m, pkM d n = m := ⟨_, rfl⟩
  have hmM : (M + 7) / 8 = m := by rw [← hm, ← hM]; rfl
  have hq : ((M : Int) + 8 - 1).tdiv 8 = (m : Int) := by rw [Int.tdiv_eq_ediv_of_nonneg (by omega)]; omega
  have hq2 : ((M : Int) + 7).tdiv 8 = (m : Int) := by rw [Int.tdiv_eq_ediv_of_nonneg (by omega)]; omega
  have hmb : m ≤ 35184372088833 := by omega
  have HS : Hid (isDp d ∧ allB (2 ^ d) s ∧ s.length = n ∧ IRow w a s ∧ pkM d s.length = m) := ⟨hd, hs, hn, hr, by rw [hn]; exact hm⟩
  have HP : Hid (∀ i, i < n → PkA d s i → ∀ g w, w.ownsRow g 5 1 (.slice (some ⟨g, 0, none⟩) m m) m (vals (pkP d s m i)) →
    Calls Tryd.prog 26 #[.slice (some ⟨g, 0, none⟩) m m, .int .i64 i, .int .i64 d, .int .i64 (s[i]?.getD 0)] w (fun e w' => PutPost w g g m (pkP d s m (i + 1)) e w') ∧ PkA d s (i + 1)) := fun i hi hp g w hw => by
    have := pk_put hd hs (by rw [hn]; exact hi) (by omega) hp g g w (by rw [hn, hm]; exact hw)
    rw [hn, hm] at this
    exact this
  obtain ⟨i0, hi0, hz0, hz1, hz2⟩ := info_parts Tryd.info5
  clear hs hr hd hn hm hM hmM
  obtain ⟨P, hPP⟩ : ∃ P, (2 : Int) ^ d = P := ⟨_, rfl⟩
  rw [hPP] at d3 d4 C2
  go_enter Tryd.func10, Tryd.ntmps10
  go_wp2_with fail
  refine C1.mono ?_
  rintro e w1 ⟨rfl, rfl⟩
  go_wp2_with fail
  refine C2.mono ?_
  rintro e w1 ⟨rfl, rfl⟩
  clear C1 C2
  go_wp2_with (at_make; refine wpList_make_full _ rfl _ _ 24 rfl w1.heap.size 5 i0 (.int .u8 0) 1 Tryd.underlying24 hi0 hz0 hz1 .i64 .i64 _ _ m rfl rfl rfl rfl ?b2 ?b3 ?b4 ?_)
  case b2 => rw [hz2]; omega
  case b3 => unfold maxLen; omega
  case b4 => exact Nat.le_refl _
  intro w3 hown hgrow
  rw [made_valsX] at hown
  have HI : Hid (w3.ownsRow w1.heap.size 5 1 (.slice (some ⟨w1.heap.size, 0, none⟩) m m) m (vals (pkP d s m 0)) ∧ PkA d s 0 ∧ Below w1.heap.size w1 w3) := ⟨hown, pkA_zero d s, ⟨hgrow.os, hgrow.tape, hgrow.output, hgrow.size, fun k hk => hgrow.block k hk (by simp)⟩⟩
  clear hown hgrow
  generalize hG : w1.heap.size = g at *
  have HG : Hid (w1.heap.size = g) := hG
  clear hG
  go_wp2
  go_loopw [7, 8, 29] (fun _ _ v wr => ∃ i : Nat, i ≤ n ∧ v = .int .i64 i ∧ Hid (wr.ownsRow g 5 1 (.slice (some ⟨g, 0, none⟩) m m) m (vals (pkP d s m i)) ∧ PkA d s i ∧ Below g w1 wr)) (fun _ _ v _ => n - (intOf v).toNat)
  case atStart => exact ⟨0, Nat.zero_le _, rfl, HI⟩
  case round =>
    clear HI
    obtain ⟨i, hi, rfl, HR⟩ := hrel
    by_cases hlt : i < n
    · obtain ⟨b, off, rfl, hc⟩ := (HS.out.2.2.2.1.old (by rw [HG.out]; exact HR.out.2.2)).at i (by rw [HS.out.2.2.1]; exact hlt)
      obtain ⟨CP, hpa⟩ := HP.out i hlt HR.out.2.1 g wr HR.out.1
      have HPA : Hid (PkA d s (i + 1) ∧ Below g w1 wr ∧ wr.ownsRow g 5 1 (.slice (some ⟨g, 0, none⟩) m m) m (vals (pkP d s m i))) := ⟨hpa, HR.out.2.2, HR.out.1⟩
      clear HR hpa
      generalize s[i]?.getD 0 = z at *
      go_wp2_with fail
      refine CP.mono ?_
      clear CP
      rintro e w4 ⟨rfl, h4, g4⟩
      have H4 : Hid (w4.ownsRow g 5 1 (.slice (some ⟨g, 0, none⟩) m m) m (vals (pkP d s m (i + 1))) ∧ PkA d s (i + 1) ∧ Below g w1 w4) :=
        ⟨h4, HPA.out.1, HPA.out.2.1.grown g4 (Nat.le_trans (Nat.le_of_eq HG.out.symm) HPA.out.2.1.size) (fun k hk => by cases hk; exact Nat.le_refl _)⟩
      clear h4 g4 HPA hc
      go_wp2
      go_roundw
      case rel => exact ⟨i + 1, hlt, by go_num, H4⟩
      case measure => simp [intOf]; omega
    · obtain rfl : i = n := by omega
      have HF : Hid (NewX w1 (pkL d s) (.returned (.tuple #[.slice (some ⟨g, 0, none⟩) m m, .int .i64 0])) wr) := by
        have e : pkL d s = pkP d s m i := by unfold pkL; rw [HS.out.2.2.2.2, HS.out.2.2.1]
        rw [e]
        exact newX_of_owns HR.out.1 (by rw [HG.out]; exact HR.out.2.2)
      clear HR
      go_wp2
      go_ret2
      exact HF.out
set_option maxHeartbeats 1600000 in
theorem pack_no (a : Option Addr) (n c : Nat) (d : Int) (s : List Int) (w : World) (h : ¬ (isDp d ∧ allB (2 ^ d.toNat) s)) (hn : s.length = n) (hn2 : n ≤ 17592186044416) (hr : IRow w a s) : Calls Tryd.prog 10 #[.slice a n c, .int .i64 d] w fun e w' => e = .returned (.tuple #[.slice none 0 0, .int .i64 1]) ∧ w' = w := by
  have C1 := isDepth_any d w
  by_cases hd : isDp d
  · rw [decide_eq_true hd] at C1
    obtain ⟨k, rfl⟩ : ∃ k : Nat, d = k := ⟨d.toNat, by unfold isDp at hd; omega⟩
    obtain ⟨d1, d2, d3, d4⟩ := pow_d hd
    rw [Int.toNat_natCast] at h
    have C2 := allBelow_any (2 ^ k) a n c s w hn hr (by omega)
    rw [decide_eq_false (fun q => h ⟨hd, q⟩)] at C2
    clear h hd hr hn
    obtain ⟨P, hPP⟩ : ∃ P, (2 : Int) ^ k = P := ⟨_, rfl⟩
    rw [hPP] at d3 d4 C2
    go_enter Tryd.func10, Tryd.ntmps10
    go_wp2_with fail
    refine C1.mono ?_
    rintro e w1 ⟨rfl, rfl⟩
    go_wp2_with fail
    refine C2.mono ?_
    rintro e w1 ⟨rfl, rfl⟩
    go_wp2
    go_ret2
    exact ⟨rfl, rfl⟩
  · rw [decide_eq_false hd] at C1
    clear h hr hn
    go_enter Tryd.func10, Tryd.ntmps10
    go_wp2_with fail
    refine C1.mono ?_
    rintro e w1 ⟨rfl, rfl⟩
    go_wp2
    go_ret2
    exact ⟨rfl, rfl⟩
end Go.Proofs.YtbjoalgglmalnaaDoor
