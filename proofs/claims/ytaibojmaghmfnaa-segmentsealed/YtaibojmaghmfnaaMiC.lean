/- The document's num. -/
import Derived.Test.YtaibojmaghmfnaaMgZ
import Derived.Test.YtaibojmaghmfnaaRfB
namespace Go.Proofs.Ytaibojmaghmfnaa
open Go.RowKit
set_option maxHeartbeats 400000 in
theorem rnum_any (a : Option Addr) (n cap : Nat) (zs : List Int) (w : World) (hn : zs.length = n) (h4 : n ≤ 4) (hb : Bytes zs) (hr : Row w a zs) :
    Calls Try.prog 29 #[.slice a n cap] w fun e w' => e = .returned (.int .i64 (bigN zs)) ∧ w' = w := by
  have HN : Hid (zs.length = n) := hn
  have HB : Hid (Bytes zs) := hb
  rcases hr with rfl | ⟨b, off, rfl, hc⟩
  · simp at hn
    subst hn
    clear h4 hb
    go_enter Try.func29, Try.ntmps29
    go_wp2
    go_loop [3, 4] (fun v i => v = .int .i64 0 ∧ i = .int .i64 0) (fun _ _ => 0)
    case atStart => exact ⟨rfl, rfl⟩
    case round =>
      obtain ⟨rfl, rfl⟩ := hrel
      go_wp2
      go_ret
      exact ⟨ret_int rfl, rfl⟩
  · clear hn hb
    go_enter Try.func29, Try.ntmps29
    go_wp2
    go_loop [3, 4] (fun v i => ∃ k : Nat, k ≤ n ∧ i = .int .i64 k ∧ v = .int .i64 (bigN (zs.take k))) (fun _ i => n - (intOf i).toNat)
    case atStart => exact ⟨0, Nat.zero_le _, rfl, rfl⟩
    case round =>
      obtain ⟨k, hk, rfl, rfl⟩ := hrel
      have hbd := bigN_le (HB.out.take k) (by simp; omega)
      by_cases hlt : k < n
      · have hck := hc k (by have := HN.out; omega)
        have hzk := HB.out.at k
        have HS : Hid (bigN (zs.take (k + 1)) = bigN (zs.take k) * 256 + (zs[k]?.getD 0)) := by rw [take_snoc zs k (by have := HN.out; omega), bigN_snoc]; trivial
        go_wp2
        go_round
        case rel => exact ⟨k + 1, by omega, by go_num, by rw [HS.out]; go_num⟩
        case measure => simp [intOf]; omega
      · go_wp2
        go_ret
        exact ⟨ret_int (by rw [List.take_of_length_le (by have := HN.out; omega)]), rfl⟩

/-- The number of some of the bytes. -/
def nuN (b : List Int) (p s : Nat) : Int := bigN ((b.drop p).take s)
set_option maxHeartbeats 1600000 in
theorem rnu_any (a : Option Addr) (n cap : Nat) (b : List Int) (p s : Nat) (w : World) (hn : b.length = n) (hc : n ≤ cap) (hl : n ≤ 100000) (hb : Bytes b) (hr : Row w a b) (hs : p + s ≤ n) (h1 : 1 ≤ s) (h4 : s ≤ 4) :
    Calls Try.prog 31 #[.slice a n cap, .int .i64 p, .int .i64 s] w fun e w' => e = .returned (.int .i64 (nuN b p s)) ∧ w' = w := by
  obtain ⟨bb, off, rfl⟩ : ∃ bb off, a = some ⟨bb, off, none⟩ := by
    rcases hr with e | ⟨bb, off, e, _⟩
    · rw [e] at hn; simp at hn; omega
    · exact ⟨bb, off, e⟩
  have hlen : ((b.drop p).take s).length = s := by rw [List.length_take, List.length_drop]; omega
  have hrow : Row w (some ⟨bb, off + p, none⟩) ((b.drop p).take s) := by
    rcases hr with e | ⟨b2, o2, e, hcell⟩
    · rw [e] at hn; simp at hn; omega
    · simp at e
      obtain ⟨rfl, rfl⟩ := e
      refine .inr ⟨_, _, rfl, fun i hi => ?_⟩
      rw [hlen] at hi
      have := hcell (p + i) (by omega)
      rw [show off + p + i = off + (p + i) by omega, this]
      simp [hi, List.getElem?_drop]
  have C := rnum_any (some ⟨bb, off + p, none⟩) s (cap - p) ((b.drop p).take s) w hlen h4 ((hb.drop p).take s) hrow
  have HC : Hid (Calls Try.prog 29 #[.slice (some ⟨bb, off + p, none⟩) s (cap - p)] w fun e w' => e = .returned (.int .i64 (nuN b p s)) ∧ w' = w) := C
  have hps : p + s ≤ n := hs
  have hpi : (p : Int) + (s : Int) ≤ (n : Int) := by omega
  clear C hrow hlen hb hr
  go_enter Try.func31, Try.ntmps31
  go_wp2_with fail
  refine Calls.mono HC.out ?_
  rintro e w1 ⟨rfl, rfl⟩
  go_wp2
  go_ret
  exact ⟨rfl, rfl⟩
end Go.Proofs.Ytaibojmaghmfnaa
