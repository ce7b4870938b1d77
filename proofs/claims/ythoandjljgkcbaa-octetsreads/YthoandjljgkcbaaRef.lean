import Derived.Test.YthoandjljgkcbaaFix
import Derived.OpenShut
namespace Go.Proofs.Ythoandjljgkcbaa
open Go.RowKit

set_option maxHeartbeats 800000 in
theorem refBig_any (a : Option Addr) (len cap : Nat) (p n : Int) (zs : List Int) (w : World) (hn : zs.length = len) (hl : len ≤ cap) (hm : cap ≤ maxLen) (hb : Bytes zs) (hr : Row w a zs) :
    Calls Try.prog 11 #[.slice a len cap, .int .i64 p, .int .i64 n] w fun e w' => e = .returned (.tuple #[.int .i64 (bigN (cutL zs p n)), .int .i64 (cutE zs.length p n)]) ∧ w' = w := by
  have HN : Hid (zs.length = len) := hn
  have HR : Hid (Row w a zs) := hr
  have HB : Hid (Bytes zs) := hb
  clear hn hr hb
  unfold maxLen at hm
  by_cases h1 : n < 1 ∨ 4 < n ∨ p < 0
  · have e1 : cutE zs.length p n = 1 := by unfold cutE; rw [if_pos h1]
    have e2 : cutL zs p n = [] := by unfold cutL; rw [e1]; rfl
    rw [e1, e2, bigN_nil]
    clear e1 e2
    by_cases h2 : n < 1
    · clear h1
      go_enter Try.func11, Try.ntmps11
      go_wp2
      go_ret2
      exact ⟨rfl, rfl⟩
    · by_cases h3 : 4 < n
      · clear h1
        go_enter Try.func11, Try.ntmps11
        go_wp2
        go_ret2
        exact ⟨rfl, rfl⟩
      · have h4 : p < 0 := by omega
        clear h1
        go_enter Try.func11, Try.ntmps11
        go_wp2
        go_ret2
        exact ⟨rfl, rfl⟩
  · have b1 : 1 ≤ n := by omega
    have b2 : n ≤ 4 := by omega
    have b3 : 0 ≤ p := by omega
    by_cases h2 : (len : Int) - n < p
    · have e1 : cutE zs.length p n = 2 := by unfold cutE; rw [if_neg h1, if_pos (by rw [HN.out]; exact h2)]
      have e2 : cutL zs p n = [] := by unfold cutL; rw [e1]; rfl
      rw [e1, e2, bigN_nil]
      clear e1 e2 h1
      by_cases h5 : (len : Int) < p
      · go_enter Try.func11, Try.ntmps11
        go_wp2
        go_ret2
        exact ⟨rfl, rfl⟩
      · have h6 : p ≤ (len : Int) := by omega
        have h7 : (len : Int) - p < n := by omega
        clear h5 h2
        go_enter Try.func11, Try.ntmps11
        go_wp2
        go_ret2
        exact ⟨rfl, rfl⟩
    · have e1 : cutE zs.length p n = 0 := by unfold cutE; rw [if_neg h1, if_neg (by rw [HN.out]; exact h2)]
      have e2 : cutL zs p n = (zs.drop p.toNat).take n.toNat := by unfold cutL; rw [if_pos e1]
      rw [e1, e2]
      clear e1 e2 h1
      obtain ⟨P, rfl⟩ := Int.eq_ofNat_of_zero_le b3
      obtain ⟨n, rfl⟩ := Int.eq_ofNat_of_zero_le (show 0 ≤ n by omega)
      rw [Int.toNat_natCast, Int.toNat_natCast]
      have b4 : P + n ≤ len := by omega
      have b5 : P + n ≤ cap := by omega
      have HL : Hid ((List.take n (List.drop P zs)).length = n) := (by simp; have := HN.out; omega : (List.take n (List.drop P zs)).length = n)
      rcases HR.out with h | ⟨b, off, rfl, hc⟩
      · have := HN.out; rw [h] at this; simp at this; omega
      · have HC : Hid (Row w (some ⟨b, off + P, none⟩) (List.take n (List.drop P zs))) := by
          refine .inr ⟨b, off + P, rfl, fun i hi => ?_⟩
          rw [HL.out] at hi
          have hq := hc (P + i) (by have := HN.out; omega)
          rw [Nat.add_assoc, hq]
          simp [List.getElem?_drop, hi]
        have HB2 : Hid (Bytes (List.take n (List.drop P zs))) := (HB.out.drop P).take n
        clear hc HR
        generalize List.take n (List.drop P zs) = l at *
        go_enter Try.func11, Try.ntmps11
        go_wp2_with (go_at_call 32; refine (number_any _ n _ l _ HL.out (by omega) HB2.out HC.out).mono ?_; rintro e w1 ⟨rfl, rfl⟩)
        go_ret2
        exact ⟨rfl, rfl⟩

set_option maxHeartbeats 800000 in
theorem refLittle_any (a : Option Addr) (len cap : Nat) (p n : Int) (zs : List Int) (w : World) (hn : zs.length = len) (hl : len ≤ cap) (hm : cap ≤ maxLen) (hb : Bytes zs) (hr : Row w a zs) :
    Calls Try.prog 13 #[.slice a len cap, .int .i64 p, .int .i64 n] w fun e w' => e = .returned (.tuple #[.int .i64 (litN (cutL zs p n)), .int .i64 (cutE zs.length p n)]) ∧ Below w.heap.size w w' := by
  have C := refBig_any a len cap p n zs w hn hl hm hb hr
  have HN : Hid (zs.length = len) := hn
  have HR : Hid (Row w a zs) := hr
  have HB : Hid (Bytes zs) := hb
  clear hn hr hb
  unfold maxLen at hm
  by_cases h0 : cutE zs.length p n = 0
  · have e2 : cutL zs p n = (zs.drop p.toNat).take n.toNat := by unfold cutL; rw [if_pos h0]
    have h1 : ¬ (n < 1 ∨ 4 < n ∨ p < 0) := by intro h; unfold cutE at h0; rw [if_pos h] at h0; omega
    have h2 : ¬ (len : Int) - n < p := by intro h; unfold cutE at h0; rw [if_neg h1, if_pos (by rw [HN.out]; exact h)] at h0; omega
    rw [h0, e2] at C
    rw [h0, e2]
    clear h0 e2
    have b1 : 1 ≤ n := by omega
    have b2 : n ≤ 4 := by omega
    have b3 : 0 ≤ p := by omega
    clear h1
    obtain ⟨P, rfl⟩ := Int.eq_ofNat_of_zero_le b3
    obtain ⟨n, rfl⟩ := Int.eq_ofNat_of_zero_le (show 0 ≤ n by omega)
    rw [Int.toNat_natCast, Int.toNat_natCast] at C
    rw [Int.toNat_natCast, Int.toNat_natCast]
    have b4 : P + n ≤ len := by omega
    have b5 : P + n ≤ cap := by omega
    have HL : Hid ((List.take n (List.drop P zs)).length = n) := (by simp; have := HN.out; omega : (List.take n (List.drop P zs)).length = n)
    rcases HR.out with h | ⟨b, off, rfl, hc⟩
    · have := HN.out; rw [h] at this; simp at this; omega
    · have HC : Hid (Row w (some ⟨b, off + P, none⟩) (List.take n (List.drop P zs))) := by
        refine .inr ⟨b, off + P, rfl, fun i hi => ?_⟩
        rw [HL.out] at hi
        have hq := hc (P + i) (by have := HN.out; omega)
        rw [Nat.add_assoc, hq]
        simp [List.getElem?_drop, hi]
      have HB2 : Hid (Bytes (List.take n (List.drop P zs))) := (HB.out.drop P).take n
      clear hc HR
      generalize List.take n (List.drop P zs) = l at *
      have HT := bigN_reverse l
      have HT2 : Hid (bigN l.reverse = litN l) := HT
      clear HT
      go_enter Try.func13, Try.ntmps13
      go_wp2_with fail
      refine C.mono ?_
      clear C
      rintro e w1 ⟨rfl, rfl⟩
      go_wp2_with fail
      refine (turned_any _ n _ l _ HL.out (by omega) HC.out).mono ?_
      rintro e w2 ⟨a2, cap2, rfl, g1, g2, g3, g4⟩
      go_wp2_with fail
      refine (number_any a2 _ cap2 l.reverse _ (by simp) (by have := HL.out; omega) HB2.out.reverse g3).mono ?_
      rintro e w3 ⟨rfl, rfl⟩
      go_wp2
      go_ret2
      exact ⟨by rw [← HT2.out]; rfl, g4⟩
  · have e2 : cutL zs p n = [] := by unfold cutL; rw [if_neg h0]
    rw [e2] at C
    rw [e2, litN]
    clear e2
    generalize cutE zs.length p n = er at *
    have h1 : (er != 0) = true := by simpa using h0
    clear h0
    go_enter Try.func13, Try.ntmps13
    go_wp2_with fail
    refine C.mono ?_
    clear C
    rintro e w1 ⟨rfl, rfl⟩
    go_wp2
    go_ret2
    exact ⟨rfl, Below.refl _ _⟩

theorem row_of_arg {w : World} {k : Nat} {zs : List Int} {x : Addr} (hk : k ≤ zs.length) (h : ∀ i, i < zs.length → w.cell? (x.add i) = some (.int .u8 (zs.getD i 0))) : Row w (some x) (zs.take k) := by
  by_cases h0 : k = 0
  · subst h0; exact .inl rfl
  · obtain ⟨b, off, spot⟩ := x
    have hc := h 0 (by omega)
    have hspot : spot = none := by simpa [Addr.add] using World.cell?_spot hc
    subst hspot
    refine .inr ⟨b, off, rfl, fun i hi => ?_⟩
    rw [List.length_take] at hi
    have h1 : i < k := by omega
    have hq := h i (by omega)
    simp only [List.getElem?_take, h1, if_true]
    cases i with
    | zero => simpa [Addr.add] using hq
    | succ j => simpa [Addr.add] using hq
theorem bytes_of_wf {zs : List Int} (h : ∀ n ∈ zs, (Lit.int .u8 n).wf = true) : Bytes zs := by
  intro z hz
  have := bounds_u8 (h z hz)
  omega

set_option maxHeartbeats 800000 in
theorem numbers_walk (a : Option Addr) (len cap : Nat) (p n : Int) (zs : List Int) (w : World) (wn : (Lit.int .i64 n).wf = true) (hn : zs.length = len) (hl : len ≤ cap) (hm : cap ≤ maxLen) (hb : Bytes zs) (hr : Row w a zs) :
    Calls Try.prog 3 #[.slice a len cap, .int .i64 p, .int .i64 n] w fun e w' => e = .returned (.bool true) ∧ Below w.heap.size w w' := by
  have C1 := fun w' (h : Row w' a zs) => Big_any a len cap p n zs w' hn hl hm wn hb h
  have C2 := fun w' (h : Row w' a zs) => refBig_any a len cap p n zs w' hn hl hm hb h
  have C3 := fun w' (h : Row w' a zs) => Little_any a len cap p n zs w' hn hl hm wn hb h
  have C4 := fun w' (h : Row w' a zs) => refLittle_any a len cap p n zs w' hn hl hm hb h
  have HR : Hid (Row w a zs) := hr
  clear hr hb hn hl hm wn
  generalize bigN (cutL zs p n) = u at *
  generalize litN (cutL zs p n) = v at *
  generalize cutE zs.length p n = er at *
  go_enter Try.func3, Try.ntmps3
  go_wp2_with fail
  refine (fixed_any _).mono ?_
  rintro e w1 ⟨rfl, hbel⟩
  have hr1 := HR.out.old hbel
  go_wp2_with fail
  refine (C1 _ hr1).mono ?_
  rintro e w2 ⟨rfl, rfl⟩
  go_wp2_with fail
  refine (C2 _ hr1).mono ?_
  rintro e w2 ⟨rfl, rfl⟩
  go_wp2_with fail
  refine (C3 _ hr1).mono ?_
  rintro e w2 ⟨rfl, rfl⟩
  go_wp2_with fail
  refine (C4 _ hr1).mono ?_
  rintro e w3 ⟨rfl, hb3⟩
  have hB : Below w.heap.size w w3 := hbel.trans (hb3.mono hbel.size)
  clear C1 C2 C3 C4 hr1
  go_wp2
  go_ret
  exact ⟨rfl, hB⟩
end Go.Proofs.Ythoandjljgkcbaa
