import Derived.Test.YthoandjljgkcbaaByt
import Derived.Test.YthoandjljgkcbaaArg
namespace Go.Proofs.Ythoandjljgkcbaa
open Go.RowKit

theorem Cur.kept {w w' : World} {c U : Nat} {row : Option Nat} {zs : List Int} {err : Int} (h : Cur w c U zs err) (hg : w.grownBy w' row) (hc : c < U) (hrow : ∀ k, row = some k → U ≤ k) : Cur w' c U zs err := by
  cases row with
  | none => exact h.below ⟨hg.os, hg.tape, hg.output, hg.size, fun k hk => hg.block k hk (by simp)⟩
  | some d => exact h.grown hg (by have := hrow d rfl; omega) (hrow d rfl)
theorem cbytes_take (c U : Nat) (zs : List Int) (k : Nat) (w : World) (h : Cur w c U zs 0) (hl : zs.length ≤ 140737488351232) (hk : k ≤ zs.length) :
    Calls Try.prog 24 #[.pointer (some ⟨c, 0, none⟩), .int .i64 k] w fun e w' => BytesPost w c U (zs.take k) (zs.drop k) 0 e w' := by
  have C := cbytes_any c U zs 0 k w h hl
  have h0 : ¬ ((k : Int) < 0) := by omega
  have h1 : ¬ ((zs.length : Int) < (k : Int)) := by omega
  have e1 : bytL zs k = zs.take k := by unfold bytL nextL; rw [if_neg h0, if_neg h1]; rfl
  have e2 : bytZ zs 0 k = zs.drop k := by unfold bytZ nextZ; rw [if_neg h0, if_neg h1]; rfl
  have e3 : bytE zs 0 k = 0 := by unfold bytE nextE; rw [if_neg h0, if_neg h1]
  rw [e1, e2, e3] at C
  exact C

theorem cbytes_all (c U : Nat) (zs : List Int) (w : World) (h : Cur w c U zs 0) (hl : zs.length ≤ 140737488351232) :
    Calls Try.prog 24 #[.pointer (some ⟨c, 0, none⟩), .int .i64 zs.length] w fun e w' => BytesPost w c U zs [] 0 e w' := by
  have C := cbytes_take c U zs zs.length w h hl (Nat.le_refl _)
  rw [List.take_length, List.drop_length] at C
  exact C

/-- The loop's relation. -/
def WRel (w : World) (c U : Nat) (zs : List Int) (v : Value) (wr : World) : Prop :=
  ∃ done rest : List Int, done ++ rest = zs ∧ wr.ownsRow U 5 1 v done.length (vals done) ∧ Cur wr c U rest 0 ∧ Below w.heap.size w wr ∧ U ≤ wr.heap.size

theorem wrel_step {w wr w3 w4 : World} {c U : Nat} {done rest l z : List Int} {v v' : Value} (hlz : l ++ z = rest) (hcU : c < U) (hwc : w.heap.size ≤ c)
    (hown : wr.ownsRow U 5 1 v done.length (vals done)) (hbel : Below w.heap.size w wr) (hU : U ≤ wr.heap.size)
    (hg3 : wr.grownBy w3 (some c)) (hc3 : Cur w3 c U z 0) (hown4 : w4.ownsRow U 5 1 v' (done.length + l.length) (vals (done ++ l))) (hg4 : w3.grownBy w4 v.ownBlock) : WRel w c U (done ++ rest) v' w4 := by
  refine ⟨done ++ l, z, by rw [← hlz, List.append_assoc], by rw [List.length_append]; exact hown4, hc3.kept hg4 hcU fun k hk => (hown.lt k hk).1, ?_, Nat.le_trans hU (Nat.le_trans hg3.size hg4.size)⟩
  have hb3 : Below w.heap.size w w3 := hbel.grown hg3 hbel.size fun k hk => by simp at hk; omega
  exact hb3.grown hg4 hb3.size fun k hk => by have := (hown.lt k hk).1; omega
theorem own_kept {wr w3 : World} {c U n : Nat} {v : Value} {xs : List Value} (hown : wr.ownsRow U 5 1 v n xs) (hg3 : wr.grownBy w3 (some c)) (hcU : c < U) : w3.ownsRow U 5 1 v n xs :=
  hown.kept hg3 (.inr fun h => by have := (hown.lt c h).1; omega)

set_option maxHeartbeats 1600000 in
theorem whole_walk (a0 : Option Addr) (len0 cap0 : Nat) (a1 : Option Addr) (len1 cap1 : Nat) (w : World) (h0 : BArg w a0 len0 cap0) (h1 : BArg w a1 len1 cap1) :
    Calls Try.prog 7 #[.slice a0 len0 cap0, .slice a1 len1 cap1] w fun e w' => e = .returned (.bool true) ∧ Below w.heap.size w w' := by
  obtain ⟨zs, hb, rfl, hl0, hm0, hn0, hr0⟩ := h0
  obtain ⟨ss, hb1, hs1, hl1, hm1, hn1, hr1⟩ := h1
  have H : Hid (Row w a0 zs ∧ Row w a1 ss ∧ Bytes ss ∧ ss.length = len1 ∧ (a0 = none → cap0 = 0)) := ⟨hr0, hr1, hb1, hs1, hn0⟩
  clear hr0 hr1 hb1 hs1 hn0 hn1 hb
  go_enter Try.func7, Try.ntmps7
  go_wp2_with fail
  refine (fixed_any _).mono ?_
  rintro e w1 ⟨rfl, hbel1⟩
  go_wp2_with fail
  refine (new_any a0 _ cap0 zs _ rfl H.out.2.2.2.2 (by omega) (H.out.1.old hbel1)).mono ?_
  rintro e w2 ⟨c, rfl, hc, hbel2, a, cap, hh, q1, q2, q3, q4⟩
  obtain ⟨U, hU⟩ : ∃ U, U = w2.heap.size := ⟨_, rfl⟩
  have hcur : Cur w2 c U zs 0 := ⟨a, cap, hh, q1, q2, q3, by rw [hU]; exact q3.lt⟩
  have hcU : c < U := by rw [hU]; exact lt_of_block hh
  have hB : Below w.heap.size w w2 := hbel1.trans (hbel2.mono hbel1.size)
  have hwc : w.heap.size ≤ c := Nat.le_trans hbel1.size hc
  have HW : Hid (WRel w c U zs (.slice none 0 0) w2) := ⟨[], zs, rfl, World.ownsRow_nil _ _ _ _, hcur, hB, by rw [hU]; exact Nat.le_refl _⟩
  clear hcur hB hh q1 q2 q3 q4 hc hbel2 hbel1 hU
  go_wp2
  go_loopw [6, 8, 9, 10, 17] (fun v _ _ _ i wr => ∃ k : Nat, k ≤ len1 ∧ i = .int .i64 k ∧ WRel w c U zs v wr) (fun _ _ _ _ i _ => len1 - (intOf i).toNat)
  case atStart => exact ⟨0, Nat.zero_le _, rfl, HW.out⟩
  case round =>
    clear HW
    obtain ⟨k, hk, rfl, done, rest, hz, hown, hcur, hbel, hUr⟩ := hrel
    have hlen : done.length + rest.length = zs.length := by rw [← hz]; simp
    have HZ : Hid (done ++ rest = zs) := hz
    clear hz
    by_cases hlt : k < len1
    · have hsrow := H.out.2.1.old hbel
      have hsb := H.out.2.2.1.at k
      have hcell : ∃ b off, a1 = some ⟨b, off, none⟩ ∧ wr.cell? ⟨b, off + k, none⟩ = some (.int .u8 (ss[k]?.getD 0)) := by
        rcases hsrow with h | ⟨b, off, e, hc⟩
        · have := H.out.2.2.2.1; rw [h] at this; simp at this; omega
        · exact ⟨b, off, e, hc k (by have := H.out.2.2.2.1; omega)⟩
      obtain ⟨b, off, rfl, hck⟩ := hcell
      clear hsrow
      generalize ss[k]?.getD 0 = x at *
      obtain ⟨x, rfl⟩ := Int.eq_ofNat_of_zero_le hsb.1
      by_cases hx : x ≤ rest.length
      · go_wp2_with (first
          | (go_at_call 29; refine (left_any c U rest 0 _ hcur).mono ?_; rintro e w3 ⟨rfl, rfl⟩)
          | (go_at_call 24; refine (cbytes_take c U rest x _ hcur (by omega) (by omega)).mono ?_; rintro e w3 ⟨a3, cap3, rfl, g1, g2, g3, g4, g5, g6⟩)
          | (at_builtin; refine wpList_append_row rfl _ _ rfl U _ done.length done rfl (own_kept hown g6 hcU) a3 x cap3 (rest.take x) rfl (by simp; omega) g3 g4 (by omega) (by have := g6.size; omega) ?_))
        intro v' w4 hown4 hg4
        have R := wrel_step (List.take_append_drop x rest) hcU hwc hown hbel hUr g6 g5 (by rw [show (rest.take x).length = x by simp; omega]; exact hown4) hg4
        rw [HZ.out] at R
        clear hown hcur hbel hUr g3 g4 g5 g6 hown4 hg4
        go_wp2
        go_roundw
        case rel => exact ⟨k + 1, by omega, by go_num, R⟩
        case measure => simp [intOf]; omega
      · go_wp2_with (first
          | (go_at_call 29; refine (left_any c U rest 0 _ hcur).mono ?_; rintro e w3 ⟨rfl, rfl⟩)
          | (go_at_call 24; refine (cbytes_all c U rest _ hcur (by omega)).mono ?_; rintro e w3 ⟨a3, cap3, rfl, g1, g2, g3, g4, g5, g6⟩)
          | (at_builtin; refine wpList_append_row rfl _ _ rfl U _ done.length done rfl (own_kept hown g6 hcU) a3 rest.length cap3 rest rfl rfl g3 g4 (by omega) (by have := g6.size; omega) ?_))
        intro v' w4 hown4 hg4
        have R := wrel_step (List.append_nil rest) hcU hwc hown hbel hUr g6 g5 (by rw [hlen]; exact hown4) hg4
        rw [HZ.out] at R
        clear hown hcur hbel hUr g3 g4 g5 g6 hown4 hg4
        go_wp2
        go_roundw
        case rel => exact ⟨k + 1, by omega, by go_num, R⟩
        case measure => simp [intOf]; omega
    · go_wp2_with fail
      refine (left_any c U rest 0 _ hcur).mono ?_
      rintro e w3 ⟨rfl, rfl⟩
      go_wp2_with fail
      refine (cbytes_all c U rest _ hcur (by omega)).mono ?_
      rintro e w4 ⟨a3, cap3, rfl, g1, g2, g3, g4, g5, g6⟩
      go_wp2_with (at_builtin; refine wpList_append_row rfl _ _ rfl U _ done.length done rfl (own_kept hown g6 hcU) a3 rest.length cap3 rest rfl rfl g3 g4 (by omega) (by have := g6.size; omega) ?_)
      intro v' w5 hown5 hg5
      have R := wrel_step (List.append_nil rest) hcU hwc hown hbel hUr g6 g5 (by rw [hlen]; exact hown5) hg5
      rw [HZ.out] at R
      rw [HZ.out] at hown5
      have hc5 : Cur w5 c U [] 0 := g5.kept hg5 hcU fun k hk => (hown.lt k hk).1
      obtain ⟨_, _, _, _, _, hb5, _⟩ := R
      have hr5 := H.out.1.old hb5
      obtain ⟨a5, cap5, hv, _, _, _, hrow⟩ := row_of_owns hown5
      rw [hv]
      clear hown hcur hbel hUr g1 g2 g3 g4 g5 g6 hown5 hg5 hv
      go_wp2_with fail
      refine (err_any c U [] 0 _ hc5).mono ?_
      rintro e w6 ⟨rfl, rfl⟩
      go_wp2_with fail
      refine (left_any c U [] 0 _ hc5).mono ?_
      rintro e w6 ⟨rfl, rfl⟩
      go_wp2_with fail
      refine (same_any a5 a0 _ cap5 cap0 zs _ rfl hrow hr5).mono ?_
      rintro e w6 ⟨rfl, rfl⟩
      go_wp2
      go_ret
      exact ⟨rfl, hb5⟩
end Go.Proofs.Ythoandjljgkcbaa
