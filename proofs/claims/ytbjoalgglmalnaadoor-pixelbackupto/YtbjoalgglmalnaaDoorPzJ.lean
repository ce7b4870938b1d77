/- PixelPacks and PixelUnpacks: the walks. -/
import Derived.Test.YtbjoalgglmalnaaDoorPzB
import Derived.Test.YtbjoalgglmalnaaDoorPzH
import Derived.Test.YtbjoalgglmalnaaDoorPxM
import Derived.Test.YtbjoalgglmalnaaDoorPxV
namespace Go.Proofs.YtbjoalgglmalnaaDoor
open Go.RowKit
set_option maxHeartbeats 3200000 in
theorem ppacks_walk (a : Option Addr) (n c : Nat) (d : Int) (w : World) (ht : Tab w) (ha : IArg w a n c ∧ c ≤ 1048576) (_ : (Lit.int .i64 d).wf = true) : Calls Tryd.prog 3 #[.slice a n c, .int .i64 d] w fun e w' => e = .returned (.bool true) ∧ Below w.heap.size w w' := by
  obtain ⟨⟨s, hn, hc, _, _, hr⟩, hcb⟩ := ha
  have F := fixed_any w ht
  by_cases hd : isDp d ∧ allB (2 ^ d.toNat) s
  · obtain ⟨k, rfl⟩ : ∃ k : Nat, d = k := ⟨d.toNat, by have := hd.1; unfold isDp at this; omega⟩
    rw [Int.toNat_natCast] at hd
    have HC1 : Hid (∀ w1, Below w.heap.size w w1 → Calls Tryd.prog 10 #[.slice a n c, .int .i64 k] w1 fun e w' => NewX w1 (pkL k s) e w') := fun w1 h => pack_yes a n c k s w1 hd.1 hd.2 hn (by omega) (hr.old h)
    have HC2 : Hid (∀ w1, Below w.heap.size w w1 → Calls Tryd.prog 11 #[.slice a n c, .int .i64 k] w1 fun e w' => NewX w1 (pkL k s) e w') := fun w1 h => (rpack_any a n c k s w1 hd.1 hn (by omega) (hr.old h)).mono fun e w' q => by
      unfold RpPost at q; rw [if_pos hd.2] at q; rw [pkL_rpL hd.1 hd.2]; exact q
    clear hd hr hn ht
    generalize pkL k s = z at *
    go_enter Tryd.func3, Tryd.ntmps3
    go_wp2_with fail
    refine F.mono ?_
    clear F
    rintro e w1 ⟨rfl, b1⟩
    have HB1 : Hid (Below w.heap.size w w1) := b1
    have CC := HC1.out w1 b1
    clear b1
    go_wp2_with fail
    refine CC.mono ?_
    clear CC
    rintro e w2 ⟨a1, c1, rfl, _, _, _, r1, b2⟩
    have HB2 : Hid (Below w.heap.size w w2 ∧ Row w2 a1 z) := ⟨HB1.out.trans (b2.mono HB1.out.size), r1⟩
    have CC := HC2.out w2 HB2.out.1
    clear b2 r1 HB1
    go_wp2_with fail
    refine CC.mono ?_
    clear CC
    rintro e w3 ⟨a2, c2, rfl, _, _, _, r2, b3⟩
    have CC := same_any a1 a2 z.length c1 c2 z w3 rfl (HB2.out.2.old b3) r2
    have HB3 : Hid (Below w.heap.size w w3) := HB2.out.1.trans (b3.mono HB2.out.1.size)
    clear b3 r2
    go_wp2_with fail
    refine CC.mono ?_
    clear CC
    rintro e w4 ⟨rfl, rfl⟩
    go_wp2
    go_ret
    exact ⟨rfl, HB3.out⟩
  · have HC1 : Hid (∀ w1, Below w.heap.size w w1 → Calls Tryd.prog 10 #[.slice a n c, .int .i64 d] w1 fun e w' => e = .returned (.tuple #[.slice none 0 0, .int .i64 1]) ∧ Below w1.heap.size w1 w') := fun w1 h => (pack_no a n c d s w1 hd hn (by omega) (hr.old h)).mono fun e w' q => ⟨q.1, by rw [q.2]; exact Below.refl _ _⟩
    have HC2 : Hid (∀ w1, Below w.heap.size w w1 → Calls Tryd.prog 11 #[.slice a n c, .int .i64 d] w1 fun e w' => e = .returned (.tuple #[.slice none 0 0, .int .i64 1]) ∧ Below w1.heap.size w1 w') := fun w1 h => by
      by_cases h1 : isDp d
      · obtain ⟨k, rfl⟩ : ∃ k : Nat, d = k := ⟨d.toNat, by unfold isDp at h1; omega⟩
        rw [Int.toNat_natCast] at hd
        refine (rpack_any a n c k s w1 h1 hn (by omega) (hr.old h)).mono fun e w' q => ?_
        unfold RpPost at q
        rw [if_neg (fun h2 => hd ⟨h1, h2⟩)] at q
        exact q
      · exact (rpack_depth a n c d w1 h1).mono fun e w' q => ⟨q.1, by rw [q.2]; exact Below.refl _ _⟩
    have HSm : Hid (∀ u, Calls Tryd.prog 12 #[.slice none 0 0, .slice none 0 0] u fun e w' => e = .returned (.bool true) ∧ w' = u) := fun u => same_any none none 0 0 0 [] u rfl (.inl rfl) (.inl rfl)
    clear hd hr hn ht
    go_enter Tryd.func3, Tryd.ntmps3
    go_wp2_with fail
    refine F.mono ?_
    clear F
    rintro e w1 ⟨rfl, b1⟩
    have HB1 : Hid (Below w.heap.size w w1) := b1
    have CC := HC1.out w1 b1
    clear b1
    go_wp2_with fail
    refine CC.mono ?_
    clear CC
    rintro e w2 ⟨rfl, b2⟩
    have HB2 : Hid (Below w.heap.size w w2) := HB1.out.trans (b2.mono HB1.out.size)
    have CC := HC2.out w2 HB2.out
    clear b2 HB1
    go_wp2_with fail
    refine CC.mono ?_
    clear CC
    rintro e w3 ⟨rfl, b3⟩
    have HB3 : Hid (Below w.heap.size w w3) := HB2.out.trans (b3.mono HB2.out.size)
    have CC := HSm.out w3
    clear b3
    go_wp2_with fail
    refine CC.mono ?_
    clear CC
    rintro e w4 ⟨rfl, rfl⟩
    go_wp2
    go_ret
    exact ⟨rfl, HB3.out⟩
/-- Unpack by both: one answer. -/
theorem both_unpack (a : Option Addr) (n c : Nat) (d N : Int) (x : List Int) (w : World) (hn : n ≤ 2000000) (hx : x.length = n) (hb : Bytes x) (rx : Row w a x) : ∃ (zs : List Int) (er : Int), zs.length ≤ 16000000 ∧
    (∀ w1, Below w.heap.size w w1 → Calls Tryd.prog 13 #[.slice a n c, .int .i64 d, .int .i64 N] w1 fun e w' => NewI w1 zs er e w') ∧ (∀ w1, Below w.heap.size w w1 → Calls Tryd.prog 14 #[.slice a n c, .int .i64 d, .int .i64 N] w1 fun e w' => NewI w1 zs er e w') := by
  by_cases h : isDp d ∧ 0 ≤ N
  · obtain ⟨k, rfl⟩ : ∃ k : Nat, d = k := ⟨d.toNat, by have := h.1; unfold isDp at this; omega⟩
    obtain ⟨M, rfl⟩ := Int.eq_ofNat_of_zero_le h.2
    by_cases hm : M * k ≤ 8 * n
    · refine ⟨unL k M x, 0, ?_, fun w1 hw => unpack_yes a n c k M x w1 h.1 (by omega) hx hb (rx.old hw) hm, fun w1 hw => runpack_yes a n c k M x w1 h.1 hn hx hb (rx.old hw) hm⟩
      rw [unL_len]
      have : M * 1 ≤ M * k := Nat.mul_le_mul_left M (by have := h.1; unfold isDp at this; omega)
      omega
    · exact ⟨[], 2, by simp, fun w1 hw => unpack_short a n c k M w1 h.1 (by omega) hm, fun w1 hw => runpack_short a n c k M w1 h.1 (by omega) hm⟩
  · have h1 : ¬ isDp d ∨ N < 0 := by
      by_cases q : isDp d
      · exact .inr (by have : ¬ 0 ≤ N := fun k => h ⟨q, k⟩; omega)
      · exact .inl q
    exact ⟨[], 1, by simp, fun w1 hw => unpack_arg a n c d N w1 h1, fun w1 hw => runpack_arg a n c d N w1 h1⟩
set_option maxHeartbeats 3200000 in
theorem punpacks_walk (a : Option Addr) (n c : Nat) (d N : Int) (w : World) (ht : Tab w) (ha : BArg w a n c ∧ c ≤ 1048576) (_ : (Lit.int .i64 d).wf = true) (_ : (Lit.int .i64 N).wf = true) : Calls Tryd.prog 4 #[.slice a n c, .int .i64 d, .int .i64 N] w fun e w' => e = .returned (.bool true) ∧ Below w.heap.size w w' := by
  obtain ⟨⟨x, bb, hn, hc, _, _, hr⟩, hcb⟩ := ha
  have F := fixed_any w ht
  obtain ⟨z, er, hz, h1, h2⟩ := both_unpack a n c d N x w (by omega) hn bb hr
  have HC1 : Hid _ := h1
  have HC2 : Hid _ := h2
  have HZ : Hid (z.length ≤ 17592186044416) := by show _ ≤ _; omega
  clear hz h1 h2 hr hn ht bb hc
  go_enter Tryd.func4, Tryd.ntmps4
  go_wp2_with fail
  refine F.mono ?_
  clear F
  rintro e w1 ⟨rfl, b1⟩
  have HB1 : Hid (Below w.heap.size w w1) := b1
  have CC := HC1.out w1 b1
  clear b1
  go_wp2_with fail
  refine CC.mono ?_
  clear CC
  rintro e w2 ⟨a1, c1, rfl, r1, b2⟩
  have HB2 : Hid (Below w.heap.size w w2 ∧ IRow w2 a1 z) := ⟨HB1.out.trans (b2.mono HB1.out.size), r1⟩
  have CC := HC2.out w2 HB2.out.1
  clear b2 r1 HB1
  go_wp2_with fail
  refine CC.mono ?_
  clear CC
  rintro e w3 ⟨a2, c2, rfl, r2, b3⟩
  have CC := rsameI_any a1 z.length c1 a2 z.length c2 z z w3 rfl rfl (HB2.out.2.old b3) r2 HZ.out
  rw [decide_eq_true rfl] at CC
  have HB3 : Hid (Below w.heap.size w w3) := HB2.out.1.trans (b3.mono HB2.out.1.size)
  clear b3 r2
  go_wp2_with fail
  refine CC.mono ?_
  clear CC
  rintro e w4 ⟨rfl, b4⟩
  have HB4 : Hid (Below w.heap.size w w4) := HB3.out.trans (b4.mono HB3.out.size)
  clear b4
  go_wp2
  go_ret
  exact ⟨by simp, HB4.out⟩
end Go.Proofs.YtbjoalgglmalnaaDoor
