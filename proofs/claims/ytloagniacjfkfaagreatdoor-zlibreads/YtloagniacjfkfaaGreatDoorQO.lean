/- Joined: AdM AdC AdD OcB. -/
import Derived.Test.YtloagniacjfkfaaGreatDoorQA
/- Plain facts on Adler's sums: no program in it. -/
namespace Go.Proofs.YtloagniacjfkfaaGreatDoor
open Go.RowKit

/-- One byte on. -/
def astep (p : Int × Int) (v : Int) : Int × Int := ((p.1 + v) % 65521, (p.2 + (p.1 + v) % 65521) % 65521)
def amore (p : Int × Int) (zs : List Int) : Int × Int := zs.foldl astep p
def low (n : Int) : Int := n % 65536 % 65521
def high (n : Int) : Int := n / 65536 % 65521
def halves (n : Int) : Int × Int := (low n, high n)
def whole (p : Int × Int) : Int := p.2 * 65536 + p.1
def adlM (n : Int) (zs : List Int) : Int := whole (amore (halves n) zs)
def In (p : Int × Int) : Prop := 0 ≤ p.1 ∧ p.1 < 65521 ∧ 0 ≤ p.2 ∧ p.2 < 65521
theorem halves_in (n : Int) : In (halves n) := by unfold In halves low high; omega
theorem astep_in (p : Int × Int) (v : Int) : In (astep p v) := by unfold In astep; omega
theorem amore_in {p : Int × Int} (h : In p) (zs : List Int) : In (amore p zs) := by
  induction zs generalizing p with
  | nil => exact h
  | cons z r ih => exact ih (astep_in p z)
theorem amore_snoc (p : Int × Int) (l : List Int) (x : Int) : amore p (l ++ [x]) = astep (amore p l) x := by simp [amore, List.foldl_append]
theorem amore_append (p : Int × Int) (l m : List Int) : amore p (l ++ m) = amore (amore p l) m := by simp [amore, List.foldl_append]
theorem halves_whole {p : Int × Int} (h : In p) : halves (whole p) = p := by
  obtain ⟨a, b⟩ := p
  unfold In at h
  simp only at h
  unfold halves whole low high
  simp only [Prod.mk.injEq]
  omega
theorem whole_bd {p : Int × Int} (h : In p) : 0 ≤ whole p ∧ whole p < 4294967296 := by unfold In at h; unfold whole; omega
theorem adlM_append (n : Int) (l m : List Int) : adlM n (l ++ m) = adlM (adlM n l) m := by
  unfold adlM
  rw [amore_append, halves_whole (amore_in (halves_in n) l)]
theorem adlM_bd (n : Int) (l : List Int) : 0 ≤ adlM n l ∧ adlM n l < 4294967296 := whole_bd (amore_in (halves_in n) l)

/-- The sum of two texts together, of their sums; c bytes (at least 0) are the second's. -/
def joinN (a b c : Int) : Int := whole (((low a + 65520) % 65521 + low b) % 65521, (high a + high b + (low a + 65520) % 65521 * (c % 65521)) % 65521)
def isN (n : Int) : Bool := decide (n % 65536 < 65521) && decide (n / 65536 < 65521)
/-- 't<<16 | s'. -/
theorem u32_or (a b : Int) (h0 : 0 ≤ a) (h1 : a < 4294967296) (h2 : 0 ≤ b) (h3 : b < 4294967296) : bits .or .u32 a b = (a.toNat ||| b.toNat : Nat) := by
  have e : (BitVec.ofInt 32 a ||| BitVec.ofInt 32 b).toNat = a.toNat ||| b.toNat := by
    rw [BitVec.toNat_or, BitVec.toNat_ofInt, BitVec.toNat_ofInt, Int.emod_eq_of_lt h0 (by omega), Int.emod_eq_of_lt h2 (by omega)]
  have hlt : a.toNat ||| b.toNat < 2 ^ 32 := Nat.or_lt_two_pow (by omega) (by omega)
  show IntKind.u32.wrap ((BitVec.ofInt 32 a ||| BitVec.ofInt 32 b).toNat : Nat) = _
  rw [e, IntKind.wrap_u32]
  omega
theorem or_whole (s t : Int) (h0 : 0 ≤ s) (h1 : s < 65521) (h2 : 0 ≤ t) (h3 : t < 65521) : bits .or .u32 (t * 65536) s = t * 65536 + s := by
  rw [u32_or _ _ (by omega) (by omega) h0 (by omega), nat_join 16 _ _ (by omega) (by omega)]
  omega
end Go.Proofs.YtloagniacjfkfaaGreatDoor
/- What the program's and the reference's functions answer. -/
namespace Go.Proofs.YtloagniacjfkfaaGreatDoor
open Go.RowKit

theorem Row.at {w : World} {a : Option Addr} {zs : List Int} (h : Row w a zs) (k : Nat) (hk : k < zs.length) : ∃ b off, a = some ⟨b, off, none⟩ ∧ w.cell? ⟨b, off + k, none⟩ = some (.int .u8 (zs[k]?.getD 0)) := by
  rcases h with h | ⟨b, off, e, hc⟩
  · subst h; simp at hk
  · exact ⟨b, off, e, hc k hk⟩
def U32 (n : Int) : Prop := 0 ≤ n ∧ n ≤ 4294967295
set_option maxHeartbeats 400000 in
theorem low_any (n : Int) (w : World) (h : U32 n) : Calls Tryz.prog 94 #[.int .u32 n] w fun e w' => e = .returned (.int .u32 (n % 65536)) ∧ w' = w := by
  obtain ⟨h0, h1⟩ := h
  go_enter Tryz.func94, Tryz.ntmps94
  go_wp2
  go_ret
  exact ⟨ret_int (by rw [IntKind.wrap_u16]; omega), rfl⟩
set_option maxHeartbeats 400000 in
theorem high_any (n : Int) (w : World) (h : U32 n) : Calls Tryz.prog 95 #[.int .u32 n] w fun e w' => e = .returned (.int .u32 (n / 65536)) ∧ w' = w := by
  obtain ⟨h0, h1⟩ := h
  go_enter Tryz.func95, Tryz.ntmps95
  go_wp2
  go_ret
  exact ⟨ret_int (by omega), rfl⟩
set_option maxHeartbeats 400000 in
theorem halves_any (n : Int) (w : World) (h : U32 n) : Calls Tryz.prog 68 #[.int .u32 n] w fun e w' => e = .returned (.tuple #[.int .u32 (low n), .int .u32 (high n)]) ∧ w' = w := by
  have hh := h
  obtain ⟨h0, h1⟩ := h
  go_enter Tryz.func68, Tryz.ntmps68
  go_wp2_with (first | (go_at_call 94; refine (low_any _ _ hh).mono ?_; rintro e w' ⟨rfl, rfl⟩) | (go_at_call 95; refine (high_any _ _ hh).mono ?_; rintro e w' ⟨rfl, rfl⟩))
  go_ret2
  exact ⟨rfl, rfl⟩
set_option maxHeartbeats 400000 in
theorem awhole_any (s t : Int) (w : World) (h : In (s, t)) : Calls Tryz.prog 69 #[.int .u32 s, .int .u32 t] w fun e w' => e = .returned (.int .u32 (whole (s, t))) ∧ w' = w := by
  obtain ⟨h0, h1, h2, h3⟩ := h
  simp only at h0 h1 h2 h3
  have HO : Hid _ := or_whole s t h0 h1 h2 h3
  go_enter Tryz.func69, Tryz.ntmps69
  go_wp2
  go_ret
  exact ⟨ret_int (by rw [HO.out]; rfl), rfl⟩
set_option maxHeartbeats 800000 in
theorem more_any (n : Int) (a : Option Addr) (len cap : Nat) (zs : List Int) (w : World) (h : U32 n) (hn : zs.length = len) (hl : len ≤ 140737488355328) (hb : Bytes zs) (hr : Row w a zs) :
    Calls Tryz.prog 41 #[.int .u32 n, .slice a len cap] w fun e w' => e = .returned (.int .u32 (adlM n zs)) ∧ w' = w := by
  have HN : Hid (zs.length = len) := hn
  have HB : Hid (Bytes zs) := hb
  have HR : Hid (Row w a zs) := hr
  clear hn hb hr
  have HI : Hid (∀ k, In (amore (halves n) (zs.take k))) := fun k => amore_in (halves_in n) _
  go_enter Tryz.func41, Tryz.ntmps41
  go_wp2_with (go_at_call 68; refine (halves_any _ _ h).mono ?_; rintro e w' ⟨rfl, rfl⟩)
  go_loop [5, 6, 16] (fun s t i => ∃ k : Nat, k ≤ len ∧ i = .int .i64 k ∧ s = .int .u32 (amore (halves n) (zs.take k)).1 ∧ t = .int .u32 (amore (halves n) (zs.take k)).2) (fun _ _ i => len - (intOf i).toNat)
  case atStart => exact ⟨0, Nat.zero_le _, rfl, rfl, rfl⟩
  case round =>
    obtain ⟨k, hk, rfl, rfl, rfl⟩ := hrel
    have HIk : Hid (In (amore (halves n) (zs.take k))) := HI.out k
    obtain ⟨i0, i1, i2, i3⟩ := HI.out k
    by_cases hlt : k < len
    · obtain ⟨b, off, rfl, hck⟩ := HR.out.at k (by have := HN.out; omega)
      have hzk := HB.out.at k
      have HS : Hid (amore (halves n) (zs.take (k + 1)) = astep (amore (halves n) (zs.take k)) (zs[k]?.getD 0)) := by rw [take_snoc zs k (by have := HN.out; omega), amore_snoc]; trivial
      go_wp2
      go_round
      case rel => exact ⟨k + 1, by omega, by go_num, by rw [HS.out]; unfold astep; rfl, by rw [HS.out]; unfold astep; rfl⟩
      case measure => simp [intOf]; omega
    · go_wp2_with (go_at_call 69; refine (awhole_any _ _ _ HIk.out).mono ?_; rintro e w' ⟨rfl, rfl⟩)
      go_ret
      exact ⟨ret_int (by rw [List.take_of_length_le (by have := HN.out; omega)]; rfl), rfl⟩
end Go.Proofs.YtloagniacjfkfaaGreatDoor
namespace Go.Proofs.YtloagniacjfkfaaGreatDoor
open Go.RowKit

set_option maxHeartbeats 800000 in
theorem rmore_any (n : Int) (a : Option Addr) (len cap : Nat) (zs : List Int) (w : World) (h : U32 n) (hn : zs.length = len) (hl : len ≤ 140737488355328) (hb : Bytes zs) (hr : Row w a zs) :
    Calls Tryz.prog 52 #[.int .u32 n, .slice a len cap] w fun e w' => e = .returned (.int .u32 (adlM n zs)) ∧ w' = w := by
  obtain ⟨h0, h1⟩ := h
  have HN : Hid (zs.length = len) := hn
  have HB : Hid (Bytes zs) := hb
  have HR : Hid (Row w a zs) := hr
  clear hn hb hr
  have HI : Hid (∀ k, In (amore (halves n) (zs.take k))) := fun k => amore_in (halves_in n) _
  go_enter Tryz.func52, Tryz.ntmps52
  go_wp2
  go_loop [5, 6, 7] (fun s t i => ∃ k : Nat, k ≤ len ∧ i = .int .i64 k ∧ s = .int .i64 (amore (halves n) (zs.take k)).1 ∧ t = .int .i64 (amore (halves n) (zs.take k)).2) (fun _ _ i => len - (intOf i).toNat)
  case atStart => exact ⟨0, Nat.zero_le _, rfl, rfl, rfl⟩
  case round =>
    obtain ⟨k, hk, rfl, rfl, rfl⟩ := hrel
    have HIk : Hid (In (amore (halves n) (zs.take k))) := HI.out k
    obtain ⟨i0, i1, i2, i3⟩ := HI.out k
    by_cases hlt : k < len
    · obtain ⟨b, off, rfl, hck⟩ := HR.out.at k (by have := HN.out; omega)
      have hzk := HB.out.at k
      have HS : Hid (amore (halves n) (zs.take (k + 1)) = astep (amore (halves n) (zs.take k)) (zs[k]?.getD 0)) := by rw [take_snoc zs k (by have := HN.out; omega), amore_snoc]; trivial
      go_wp2
      go_round
      case rel => exact ⟨k + 1, by omega, by go_num, by rw [HS.out]; unfold astep; rfl, by rw [HS.out]; unfold astep; rfl⟩
      case measure => simp [intOf]; omega
    · go_wp2
      go_ret
      refine ⟨ret_int ?_, rfl⟩
      rw [List.take_of_length_le (by have := HN.out; omega)] at *
      unfold adlM whole
      omega

set_option maxHeartbeats 400000 in
theorem of_any (a : Option Addr) (len cap : Nat) (zs : List Int) (w : World) (hn : zs.length = len) (hl : len ≤ 140737488355328) (hb : Bytes zs) (hr : Row w a zs) :
    Calls Tryz.prog 30 #[.slice a len cap] w fun e w' => e = .returned (.int .u32 (adlM 1 zs)) ∧ w' = w := by
  have HM := more_any 1 a len cap zs w (by unfold U32; omega) hn hl hb hr
  clear hn hl hb hr
  go_enter Tryz.func30, Tryz.ntmps30
  go_wp2_with (go_at_call 41; refine HM.mono ?_; rintro e w' ⟨rfl, rfl⟩)
  go_ret
  exact ⟨rfl, rfl⟩
set_option maxHeartbeats 400000 in
theorem rof_any (a : Option Addr) (len cap : Nat) (zs : List Int) (w : World) (hn : zs.length = len) (hl : len ≤ 140737488355328) (hb : Bytes zs) (hr : Row w a zs) :
    Calls Tryz.prog 28 #[.slice a len cap] w fun e w' => e = .returned (.int .u32 (adlM 1 zs)) ∧ w' = w := by
  have HM := rmore_any 1 a len cap zs w (by unfold U32; omega) hn hl hb hr
  clear hn hl hb hr
  go_enter Tryz.func28, Tryz.ntmps28
  go_wp2_with (go_at_call 52; refine HM.mono ?_; rintro e w' ⟨rfl, rfl⟩)
  go_ret
  exact ⟨rfl, rfl⟩
theorem ret_bool {a b : Bool} (h : a = b) : Ending.returned (.bool a) = .returned (.bool b) := by rw [h]
end Go.Proofs.YtloagniacjfkfaaGreatDoor
/- octets' Big over bytes in memory (the walks of Wk, Cut and Two, over Bas's Row). -/
namespace Go.Proofs.YtloagniacjfkfaaGreatDoor
open Go.RowKit
set_option maxHeartbeats 400000 in
theorem big_any (a : Option Addr) (n cap : Nat) (zs : List Int) (w : World) (hn : zs.length = n) (h4 : n ≤ 4) (hb : Bytes zs) (hr : Row w a zs) :
    Calls Tryz.prog 91 #[.slice a n cap] w fun e w' => e = .returned (.int .i64 (bigN zs)) ∧ w' = w := by
  have HN : Hid (zs.length = n) := hn
  have HB : Hid (Bytes zs) := hb
  rcases hr with rfl | ⟨b, off, rfl, hc⟩
  · simp at hn
    subst hn
    clear h4 hb
    go_enter Tryz.func91, Tryz.ntmps91
    go_wp2
    go_loop [3, 8] (fun v i => v = .int .u64 0 ∧ i = .int .i64 0) (fun _ _ => 0)
    case atStart => exact ⟨rfl, rfl⟩
    case round =>
      obtain ⟨rfl, rfl⟩ := hrel
      go_wp2
      go_ret
      exact ⟨ret_int rfl, rfl⟩
  · clear hn hb
    go_enter Tryz.func91, Tryz.ntmps91
    go_wp2
    go_loop [3, 5, 8] (fun v _ i => ∃ k : Nat, k ≤ n ∧ i = .int .i64 k ∧ v = .int .u64 (bigN (zs.take k))) (fun _ _ i => n - (intOf i).toNat)
    case atStart => exact ⟨0, Nat.zero_le _, rfl, rfl⟩
    case round =>
      obtain ⟨k, hk, rfl, rfl⟩ := hrel
      have hbd := bigN_le (HB.out.take k) (by simp; omega)
      by_cases hlt : k < n
      · have hck := hc k (by have := HN.out; omega)
        have hzk := HB.out.at k
        have h3 := big_lt (HB.out.take k) (by simp; omega)
        have HS : Hid (bigN (zs.take (k + 1)) = bigN (zs.take k) * 256 + (zs[k]?.getD 0)) := by rw [take_snoc zs k (by have := HN.out; omega), bigN_snoc]; trivial
        have HO : Hid _ := or_step (bigN (zs.take k)) ((zs[k]?.getD 0)) hbd.1 (by omega) hzk.1 hzk.2
        go_wp2
        go_round
        case rel => exact ⟨k + 1, by omega, by go_num, by rw [HS.out, ← HO.out]⟩
        case measure => simp [intOf]; omega
      · go_wp2
        go_ret
        exact ⟨ret_int (by rw [List.take_of_length_le (by have := HN.out; omega)]), rfl⟩

def cutE (len : Nat) (p n : Int) : Int := if n < 1 ∨ 4 < n ∨ p < 0 then 1 else if (len : Int) - n < p then 2 else 0
def cutL (zs : List Int) (p n : Int) : List Int := if cutE zs.length p n = 0 then (zs.drop p.toNat).take n.toNat else []
theorem cutL_bytes {zs : List Int} (h : Bytes zs) (p n : Int) : Bytes (cutL zs p n) := by
  unfold cutL; split
  · exact (h.drop _).take _
  · exact Bytes.nil
theorem cutL_len (zs : List Int) (p n : Int) : (cutL zs p n).length ≤ 4 := by
  unfold cutL
  by_cases h : cutE zs.length p n = 0
  · rw [if_pos h]
    have : n ≤ 4 := by
      by_cases h1 : n < 1 ∨ 4 < n ∨ p < 0
      · unfold cutE at h; rw [if_pos h1] at h; omega
      · omega
    simp; omega
  · rw [if_neg h]; simp
/-- What 'cut' comes to. -/
def CutPost (w : World) (zs : List Int) (err : Int) (e : Ending) (w' : World) : Prop :=
  ∃ a' cap', e = .returned (.tuple #[.slice a' zs.length cap', .int .i64 err]) ∧ Row w a' zs ∧ w' = w

set_option maxHeartbeats 400000 in
theorem cut_any (a : Option Addr) (len cap : Nat) (p n : Int) (zs : List Int) (w : World) (hn : zs.length = len) (hl : len ≤ cap) (hm : cap ≤ maxLen) (wn : (Lit.int .i64 n).wf = true) (hr : Row w a zs) :
    Calls Tryz.prog 90 #[.slice a len cap, .int .i64 p, .int .i64 n] w fun e w' => CutPost w (cutL zs p n) (cutE zs.length p n) e w' := by
  have HN : Hid (zs.length = len) := hn
  have HR : Hid (Row w a zs) := hr
  clear hn hr
  unfold maxLen at hm
  by_cases h1 : n < 1 ∨ 4 < n ∨ p < 0
  · have e1 : cutE zs.length p n = 1 := by unfold cutE; rw [if_pos h1]
    have e2 : cutL zs p n = [] := by unfold cutL; rw [e1]; rfl
    rw [e1, e2]
    clear e1 e2
    by_cases h2 : n < 1
    · go_enter Tryz.func90, Tryz.ntmps90
      go_wp2
      go_ret2
      exact (show CutPost _ _ _ _ _ by unfold CutPost; exact ⟨none, 0, rfl, .inl rfl, rfl⟩)
    · by_cases h3 : 4 < n
      · go_enter Tryz.func90, Tryz.ntmps90
        go_wp2
        go_ret2
        exact (show CutPost _ _ _ _ _ by unfold CutPost; exact ⟨none, 0, rfl, .inl rfl, rfl⟩)
      · have h4 : p < 0 := by omega
        clear h1
        go_enter Tryz.func90, Tryz.ntmps90
        go_wp2
        go_ret2
        exact (show CutPost _ _ _ _ _ by unfold CutPost; exact ⟨none, 0, rfl, .inl rfl, rfl⟩)
  · have b1 : 1 ≤ n := by omega
    have b2 : n ≤ 4 := by omega
    have b3 : 0 ≤ p := by omega
    by_cases h2 : (len : Int) - n < p
    · have e1 : cutE zs.length p n = 2 := by unfold cutE; rw [if_neg h1, if_pos (by rw [HN.out]; exact h2)]
      have e2 : cutL zs p n = [] := by unfold cutL; rw [e1]; rfl
      rw [e1, e2]
      clear e1 e2 h1
      go_enter Tryz.func90, Tryz.ntmps90
      go_wp2
      go_ret2
      exact (show CutPost _ _ _ _ _ by unfold CutPost; exact ⟨none, 0, rfl, .inl rfl, rfl⟩)
    · have e1 : cutE zs.length p n = 0 := by unfold cutE; rw [if_neg h1, if_neg (by rw [HN.out]; exact h2)]
      have e2 : cutL zs p n = (zs.drop p.toNat).take n.toNat := by unfold cutL; rw [if_pos e1]
      rw [e1, e2]
      clear e1 e2 h1
      obtain ⟨P, rfl⟩ := Int.eq_ofNat_of_zero_le b3
      obtain ⟨n, rfl⟩ := Int.eq_ofNat_of_zero_le (show 0 ≤ n by omega)
      have b4 : P + n ≤ len := by omega
      have b5 : P + n ≤ cap := by omega
      rcases HR.out with h | ⟨b, off, rfl, hc⟩
      · have := HN.out; rw [h] at this; simp at this; omega
      · have HC : Hid _ := hc
        clear hc HR
        go_enter Tryz.func90, Tryz.ntmps90
        go_wp2
        go_ret2
        unfold CutPost
        have hL := HN.out
        refine ⟨some ⟨b, off + P, none⟩, cap - P, by simp; omega, .inr ⟨b, off + P, rfl, fun i hi => ?_⟩, rfl⟩
        simp at hi
        have hq := HC.out (P + i) (by omega)
        rw [Nat.add_assoc, hq]
        have hi' : i < n := by omega
        simp [List.getElem?_drop, hi']
set_option maxHeartbeats 400000 in
theorem Big_any (a : Option Addr) (len cap : Nat) (p n : Int) (zs : List Int) (w : World) (hn : zs.length = len) (hl : len ≤ cap) (hm : cap ≤ maxLen) (wn : (Lit.int .i64 n).wf = true) (hb : Bytes zs) (hr : Row w a zs) :
    Calls Tryz.prog 65 #[.slice a len cap, .int .i64 p, .int .i64 n] w fun e w' => e = .returned (.tuple #[.int .i64 (bigN (cutL zs p n)), .int .i64 (cutE zs.length p n)]) ∧ w' = w := by
  have C := cut_any a len cap p n zs w hn hl hm wn hr
  have HB : Hid (Bytes (cutL zs p n) ∧ (cutL zs p n).length ≤ 4) := ⟨cutL_bytes hb p n, cutL_len zs p n⟩
  generalize cutL zs p n = l at *
  generalize cutE zs.length p n = er at *
  clear hn hr hb hl hm
  go_enter Tryz.func65, Tryz.ntmps65
  go_wp2_with fail
  refine C.mono ?_
  clear C
  rintro e w' ⟨a', cap', rfl, hrow, rfl⟩
  go_wp2_with fail
  refine (big_any a' l.length cap' l _ rfl HB.out.2 HB.out.1 hrow).mono ?_
  rintro e w1 ⟨rfl, rfl⟩
  go_wp2
  go_ret2
  exact ⟨rfl, rfl⟩

end Go.Proofs.YtloagniacjfkfaaGreatDoor
