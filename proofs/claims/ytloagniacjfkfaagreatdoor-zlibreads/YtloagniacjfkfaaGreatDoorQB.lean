/- Joined: HfA HfB HfC HfD. -/
import Derived.Test.YtloagniacjfkfaaGreatDoorQA
import Derived.WalkMore
import Derived.Maps.OwnSet
import Derived.DeepKeys4
import Derived.StillTail
/- Rows of int in memory; which lengths may be, and which are a code's. -/
namespace Go.Proofs.YtloagniacjfkfaaGreatDoor
open Go.RowKit

/-- Numbers that lie in memory. -/
def IRow (w : World) (a : Option Addr) (zs : List Int) : Prop :=
  zs = [] ∨ ∃ b off, a = some ⟨b, off, none⟩ ∧ ∀ i, i < zs.length → w.cell? ⟨b, off + i, none⟩ = some (.int .i64 (zs[i]?.getD 0))
theorem IRow.lt {w : World} {a : Option Addr} {zs : List Int} (h : IRow w a zs) : ∀ x, a = some x → zs ≠ [] → x.block < w.heap.size := by
  intro x hx hz
  rcases h with h | ⟨b, off, rfl, hc⟩
  · exact absurd h hz
  · simp at hx; subst hx
    exact cell_lt (hc 0 (List.length_pos_iff.2 hz))
theorem IRow.same {w w' : World} {a : Option Addr} {zs : List Int} (h : IRow w a zs) (hs : ∀ x, a = some x → zs ≠ [] → w'.heap[x.block]? = w.heap[x.block]?) : IRow w' a zs := by
  rcases h with h | ⟨b, off, rfl, hc⟩
  · exact .inl h
  · by_cases hz : zs = []
    · exact .inl hz
    · exact .inr ⟨b, off, rfl, fun i hi => (World.cell?_of_block (a := ⟨b, off + i, none⟩) (hs ⟨b, off, none⟩ rfl hz)).trans (hc i hi)⟩
theorem IRow.old {w w' : World} {a : Option Addr} {zs : List Int} (h : IRow w a zs) (hb : Below w.heap.size w w') : IRow w' a zs := h.same fun x hx hz => hb.block _ (h.lt x hx hz)
theorem IRow.at {w : World} {a : Option Addr} {zs : List Int} (h : IRow w a zs) (k : Nat) (hk : k < zs.length) : ∃ b off, a = some ⟨b, off, none⟩ ∧ w.cell? ⟨b, off + k, none⟩ = some (.int .i64 (zs[k]?.getD 0)) := by
  rcases h with h | ⟨b, off, e, hc⟩
  · subst h; simp at hk
  · exact ⟨b, off, e, hc k hk⟩

theorem ret_bool {a b : Bool} (h : a = b) : Ending.returned (.bool a) = .returned (.bool b) := by rw [h]
def okOne (n : Int) : Bool := decide (0 ≤ n) && decide (n ≤ 15)
def okLens (ls : List Int) : Bool := decide (ls.length ≤ 288) && ls.all okOne
theorem okLens_no {ls : List Int} (k : Nat) (hk : k < ls.length) (h : ls[k]?.getD 0 < 0 ∨ 15 < ls[k]?.getD 0) : okLens ls = false := by
  have : ls.all okOne = false := by
    rw [Bool.eq_false_iff]
    intro ha
    have := List.all_eq_true.1 ha _ (List.getElem_mem hk)
    rw [List.getElem?_eq_getElem hk] at h
    simp [okOne] at this h
    omega
  simp [okLens, this]
theorem okLens_yes {ls : List Int} (hl : ls.length ≤ 288) (h : ∀ k, k < ls.length → 0 ≤ ls[k]?.getD 0 ∧ ls[k]?.getD 0 ≤ 15) : okLens ls = true := by
  have : ls.all okOne = true := by
    rw [List.all_eq_true]
    intro x hx
    obtain ⟨k, hk, rfl⟩ := List.mem_iff_getElem.1 hx
    have := h k hk
    rw [List.getElem?_eq_getElem hk] at this
    simpa [okOne] using this
  simp [okLens, this, hl]
theorem okLens_long {ls : List Int} (hl : 288 < ls.length) : okLens ls = false := by simp [okLens]; omega

set_option maxHeartbeats 800000 in
theorem allowed_any (a : Option Addr) (len cap : Nat) (ls : List Int) (w : World) (hn : ls.length = len) (hl : len ≤ 140737488355328) (hr : IRow w a ls) :
    Calls Tryz.prog 136 #[.slice a len cap] w fun e w' => e = .returned (.bool (okLens ls)) ∧ w' = w := by
  have HN : Hid (ls.length = len) := hn
  have HR : Hid (IRow w a ls) := hr
  clear hn hr
  by_cases hlong : 288 < len
  · have hz : (288 : Int) < (len : Int) := by omega
    have HO : Hid (okLens ls = false) := okLens_long (by rw [HN.out]; exact hlong)
    go_enter Tryz.func136, Tryz.ntmps136
    go_wp2
    go_ret
    exact ⟨ret_bool HO.out.symm, rfl⟩
  · have hz : ¬ (288 : Int) < (len : Int) := by omega
    go_enter Tryz.func136, Tryz.ntmps136
    go_wp2
    go_loop [10] (fun i => ∃ k : Nat, k ≤ len ∧ i = .int .i64 k ∧ Hid (∀ j, j < k → 0 ≤ ls[j]?.getD 0 ∧ ls[j]?.getD 0 ≤ 15)) (fun i => len - (intOf i).toNat)
    case atStart => exact ⟨0, Nat.zero_le _, rfl, fun j hj => by omega⟩
    case round =>
      obtain ⟨k, hk, rfl, HA⟩ := hrel
      by_cases hlt : k < len
      · obtain ⟨b, off, rfl, hck⟩ := HR.out.at k (by have := HN.out; omega)
        by_cases h0 : ls[k]?.getD 0 < 0
        · have HO : Hid (okLens ls = false) := okLens_no k (by rw [HN.out]; exact hlt) (.inl h0)
          generalize ls[k]?.getD 0 = z at *
          go_wp2
          go_ret
          exact ⟨ret_bool HO.out.symm, rfl⟩
        · by_cases h1 : 15 < ls[k]?.getD 0
          · have HO : Hid (okLens ls = false) := okLens_no k (by rw [HN.out]; exact hlt) (.inr h1)
            generalize ls[k]?.getD 0 = z at *
            go_wp2
            go_ret
            exact ⟨ret_bool HO.out.symm, rfl⟩
          · have HB : Hid (∀ j, j < k + 1 → 0 ≤ ls[j]?.getD 0 ∧ ls[j]?.getD 0 ≤ 15) := fun j hj => by
              by_cases hjk : j < k
              · exact HA.out j hjk
              · obtain rfl : j = k := by omega
                omega
            clear HA
            generalize ls[k]?.getD 0 = z at h0 h1 hck
            go_wp2
            go_round
            case rel => exact ⟨k + 1, by omega, by go_num, HB.out⟩
            case measure => simp [intOf]; omega
      · have HO : Hid (okLens ls = true) := okLens_yes (by rw [HN.out]; omega) (fun j hj => HA.out j (by rw [HN.out] at hj; omega))
        go_wp2
        go_ret
        exact ⟨ret_bool HO.out.symm, rfl⟩

/-- How many symbols have a word. -/
def wordsN (ls : List Int) : Nat := ls.countP fun n => decide (0 < n)
/-- What the words take together. -/
def sharesN (ls : List Int) : Nat := kraft (ls.map Int.toNat)
theorem wordsN_le (ls : List Int) : wordsN ls ≤ ls.length := List.countP_le_length
theorem wordsN_snoc (l : List Int) (x : Int) : wordsN (l ++ [x]) = wordsN l + if 0 < x then 1 else 0 := by
  simp [wordsN, List.countP_append, List.countP_cons]
theorem kraft_snoc (l : List Nat) (x : Nat) : kraft (l ++ [x]) = kraft l + hshr x := by simp [kraft]
theorem sharesN_snoc (l : List Int) (x : Int) : sharesN (l ++ [x]) = sharesN l + hshr x.toNat := by simp [sharesN, kraft_snoc]
theorem hshr_le (n : Nat) : hshr n ≤ 16384 := by
  unfold hshr
  split
  · omega
  · have : (2 : Nat) ^ (15 - n) ≤ 2 ^ 14 := Nat.pow_le_pow_right (by omega) (by omega)
    omega
theorem kraft_le (l : List Nat) : kraft l ≤ 16384 * l.length := by
  induction l with
  | nil => exact Nat.le_refl _
  | cons x r ih => have := hshr_le x; unfold kraft at ih ⊢; simp only [List.map_cons, List.sum_cons, List.length_cons]; omega
theorem sharesN_le (ls : List Int) : sharesN ls ≤ 16384 * ls.length := by have := kraft_le (ls.map Int.toNat); rw [List.length_map] at this; exact this
theorem hshr_pos (n : Nat) (h : 0 < n) : (2 : Int) ^ (15 - n) = (hshr n : Nat) ∧ hshr n ≠ 0 := by
  unfold hshr
  rw [if_neg (by omega)]
  exact ⟨by rw [Int.natCast_pow]; rfl, by have := Nat.two_pow_pos (15 - n); omega⟩
/-- Whether allowed lengths are a code's. -/
def wholeB (ls : List Int) : Bool := if wordsN ls = 0 then true else if wordsN ls = 1 then decide (sharesN ls = 16384) else decide (sharesN ls = 32768)

theorem toNat_at (ls : List Int) (k : Nat) : ((ls.map Int.toNat)[k]?.getD 0 : Nat) = (ls[k]?.getD 0).toNat := by
  rw [List.getElem?_map]
  cases ls[k]? <;> rfl
theorem take_snocI (l : List Int) (k : Nat) (hk : k < l.length) : l.take (k + 1) = l.take k ++ [l[k]?.getD 0] := by
  rw [List.take_succ_eq_append_getElem hk, List.getElem?_eq_getElem hk]; rfl
theorem okLens_at {ls : List Int} (h : okLens ls = true) (k : Nat) : 0 ≤ ls[k]?.getD 0 ∧ ls[k]?.getD 0 ≤ 15 := by
  simp only [okLens, Bool.and_eq_true, List.all_eq_true] at h
  by_cases hk : k < ls.length
  · have := h.2 _ (List.getElem_mem hk)
    rw [List.getElem?_eq_getElem hk]
    simpa [okOne] using this
  · rw [List.getElem?_eq_none (by omega)]; simp
theorem okLens_few {ls : List Int} (h : okLens ls = true) : ls.length ≤ 288 := by
  simp only [okLens, Bool.and_eq_true] at h
  simpa using h.1

set_option maxHeartbeats 800000 in
theorem whole_any (a : Option Addr) (len cap : Nat) (ls : List Int) (w : World) (hn : ls.length = len) (hk : okLens ls = true) (hr : IRow w a ls) :
    Calls Tryz.prog 137 #[.slice a len cap] w fun e w' => e = .returned (.bool (wholeB ls)) ∧ w' = w := by
  have hl := okLens_few hk
  rw [hn] at hl
  have HN : Hid (ls.length = len) := hn
  have HR : Hid (IRow w a ls) := hr
  have HK : Hid (okLens ls = true) := hk
  clear hn hr hk
  go_enter Tryz.func137, Tryz.ntmps137
  go_wp2
  go_loop [3, 4, 9] (fun ws ss i => ∃ k : Nat, k ≤ len ∧ i = .int .i64 k ∧ ws = .int .i64 (wordsN (ls.take k)) ∧ ss = .int .i64 (sharesN (ls.take k))) (fun _ _ i => len - (intOf i).toNat)
  case atStart => exact ⟨0, Nat.zero_le _, rfl, rfl, rfl⟩
  case round =>
    obtain ⟨k, hk, rfl, rfl, rfl⟩ := hrel
    have hw1 := wordsN_le (ls.take k)
    have hs1 := sharesN_le (ls.take k)
    have ht : (ls.take k).length ≤ 288 := by rw [List.length_take]; omega
    have hw2 : wordsN (ls.take k) ≤ 288 := by omega
    have hs2 : sharesN (ls.take k) ≤ 4718592 := by omega
    clear hw1 hs1 ht
    by_cases hlt : k < len
    · obtain ⟨b, off, rfl, hck⟩ := HR.out.at k (by have := HN.out; omega)
      obtain ⟨z0, z1⟩ := okLens_at HK.out k
      have HW : Hid (wordsN (ls.take (k + 1)) = wordsN (ls.take k) + if 0 < ls[k]?.getD 0 then 1 else 0) := by show _ = _; rw [take_snocI ls k (by have := HN.out; omega), wordsN_snoc]
      have HS : Hid (sharesN (ls.take (k + 1)) = sharesN (ls.take k) + hshr (ls[k]?.getD 0).toNat) := by show _ = _; rw [take_snocI ls k (by have := HN.out; omega), sharesN_snoc]
      generalize ls[k]?.getD 0 = z at *
      generalize wordsN (ls.take k) = W at *
      generalize sharesN (ls.take k) = T at *
      obtain ⟨n, rfl⟩ := Int.eq_ofNat_of_zero_le z0
      have hq := hshr_le n
      by_cases hp : 0 < n
      · have hpz : (0 : Int) < (n : Int) := by omega
        obtain ⟨he, _⟩ := hshr_pos n hp
        rw [Int.toNat_natCast] at HS
        have HX : Hid (wordsN (ls.take (k + 1)) = W + 1) := by show _ = _; rw [HW.out, if_pos hpz]
        clear HW
        generalize hshr n = q at *
        have hwr : wrap64 (q : Int) = (q : Int) := by unfold wrap64; omega
        go_wp2
        go_round
        case rel => exact ⟨k + 1, by omega, by go_num, by rw [HX.out]; go_num, by rw [HS.out]; go_num⟩
        case measure => simp [intOf]; omega
      · have hpz : ¬ (0 : Int) < (n : Int) := by omega
        have HX : Hid (wordsN (ls.take (k + 1)) = W) := by show _ = _; rw [HW.out, if_neg hpz]; rfl
        have HY : Hid (sharesN (ls.take (k + 1)) = T) := by show _ = _; rw [HS.out, show (n : Int).toNat = 0 by omega]; rfl
        clear HW HS
        go_wp2
        go_round
        case rel => exact ⟨k + 1, by omega, by go_num, by rw [HX.out], by rw [HY.out]⟩
        case measure => simp [intOf]; omega
    · have e : ls.take k = ls := List.take_of_length_le (by have := HN.out; omega)
      rw [e] at *
      have HO : Hid (wholeB ls = if wordsN ls = 0 then true else if wordsN ls = 1 then decide (sharesN ls = 16384) else decide (sharesN ls = 32768)) := rfl
      clear e
      generalize wordsN ls = W at *
      generalize sharesN ls = T at *
      by_cases h0 : W = 0
      · subst h0
        go_wp2
        go_ret
        exact ⟨ret_bool (by rw [HO.out]; rfl), rfl⟩
      · by_cases h1 : W = 1
        · subst h1
          go_wp2
          go_ret
          refine ⟨ret_bool ?_, rfl⟩
          rw [HO.out]
          by_cases hT : T = 16384
          · subst hT; rfl
          · have : ¬ (T : Int) = 16384 := by omega
            simp [hT, this]
        · go_wp2
          go_ret
          refine ⟨ret_bool ?_, rfl⟩
          rw [HO.out, if_neg h0, if_neg h1]
          by_cases hT : T = 32768
          · subst hT; rfl
          · have : ¬ (T : Int) = 32768 := by omega
            simp [hT, this]

set_option maxHeartbeats 800000 in
theorem withWord_any (a : Option Addr) (len cap : Nat) (ls : List Int) (w : World) (hn : ls.length = len) (hl : len ≤ 140737488355328) (hr : IRow w a ls) :
    Calls Tryz.prog 138 #[.slice a len cap] w fun e w' => e = .returned (.int .i64 (wordsN ls)) ∧ w' = w := by
  have HN : Hid (ls.length = len) := hn
  have HR : Hid (IRow w a ls) := hr
  clear hn hr
  go_enter Tryz.func138, Tryz.ntmps138
  go_wp2
  go_loop [3, 8] (fun ws i => ∃ k : Nat, k ≤ len ∧ i = .int .i64 k ∧ ws = .int .i64 (wordsN (ls.take k))) (fun _ i => len - (intOf i).toNat)
  case atStart => exact ⟨0, Nat.zero_le _, rfl, rfl⟩
  case round =>
    obtain ⟨k, hk, rfl, rfl⟩ := hrel
    have hw1 := wordsN_le (ls.take k)
    have ht : (ls.take k).length ≤ len := by rw [List.length_take]; have := HN.out; omega
    have hw2 : wordsN (ls.take k) ≤ len := by omega
    clear hw1 ht
    by_cases hlt : k < len
    · obtain ⟨b, off, rfl, hck⟩ := HR.out.at k (by have := HN.out; omega)
      have HW : Hid (wordsN (ls.take (k + 1)) = wordsN (ls.take k) + if 0 < ls[k]?.getD 0 then 1 else 0) := by show _ = _; rw [take_snocI ls k (by have := HN.out; omega), wordsN_snoc]
      generalize ls[k]?.getD 0 = z at *
      generalize wordsN (ls.take k) = W at *
      by_cases hp : 0 < z
      · have HX : Hid (wordsN (ls.take (k + 1)) = W + 1) := by show _ = _; rw [HW.out, if_pos hp]
        clear HW
        go_wp2
        go_round
        case rel => exact ⟨k + 1, by omega, by go_num, by rw [HX.out]; go_num⟩
        case measure => simp [intOf]; omega
      · have HX : Hid (wordsN (ls.take (k + 1)) = W) := by show _ = _; rw [HW.out, if_neg hp]; rfl
        clear HW
        go_wp2
        go_round
        case rel => exact ⟨k + 1, by omega, by go_num, by rw [HX.out]⟩
        case measure => simp [intOf]; omega
    · have e : ls.take k = ls := List.take_of_length_le (by have := HN.out; omega)
      rw [e]
      go_wp2
      go_ret
      exact ⟨rfl, rfl⟩
end Go.Proofs.YtloagniacjfkfaaGreatDoor
/- A word's small functions. -/
namespace Go.Proofs.YtloagniacjfkfaaGreatDoor
open Go.RowKit

theorem i64_or (a b : Nat) (ha : a < 4611686018427387904) (hb : b < 4611686018427387904) : bits .or .i64 (a : Int) (b : Int) = ((a ||| b : Nat) : Int) := by
  show IntKind.i64.wrap ((BitVec.ofInt 64 a ||| BitVec.ofInt 64 b).toNat : Nat) = _
  rw [BitVec.toNat_or, BitVec.toNat_ofInt, BitVec.toNat_ofInt]
  have e1 : (((a : Int)) % ((2 ^ 64 : Nat) : Int)).toNat = a := by omega
  have e2 : (((b : Int)) % ((2 ^ 64 : Nat) : Int)).toNat = b := by omega
  rw [e1, e2, IntKind.wrap_i64]
  have : (a ||| b) < 2 ^ 62 := Nat.or_lt_two_pow (by omega) (by omega)
  omega
theorem or_bit (b : Nat) (x : Int) (hb : b ≤ 32767) (hx : x = 0 ∨ x = 1) : bits .or .u16 ((b : Int) * 2) x = (b : Int) * 2 + x := by
  rcases hx with rfl | rfl
  · rw [u16_or _ _ (by omega) (by omega) (by omega) (by omega)]; simp; omega
  · rw [u16_or _ _ (by omega) (by omega) (by omega) (by omega)]
    rw [nat_join 1 _ _ (by omega) (by decide)]; omega
set_option maxHeartbeats 800000 in
theorem and_any (l b : Nat) (x : Int) (w : World) (hl : l < 16) (hb : b ≤ 32767) (hx : x = 0 ∨ x = 1) :
    Calls Tryz.prog 150 #[.agg #[.int .u16 l, .int .u16 b], .int .u16 x] w fun e w' => e = .returned (.agg #[.int .u16 (l + 1), .int .u16 (b * 2 + x)]) ∧ Below w.heap.size w w' := by
  have HO : Hid _ := or_bit b x hb hx
  go_enter Tryz.func150, Tryz.ntmps150
  go_wp2
  refine bodyPost_ret (v := .agg #[.int .u16 (l + 1), .int .u16 (bits .or .u16 ((b : Int) * 2) x)]) (by simp [results, go_sem]) rfl ⟨?_, ?_⟩
  · rw [HO.out]
  · exact ((Below.refl _ _).alloc (Nat.le_refl _) _).alloc (by simp) _
set_option maxHeartbeats 800000 in
theorem less_any (l b : Nat) (w : World) (hl : 1 ≤ l) (hl2 : l < 16) :
    Calls Tryz.prog 152 #[.agg #[.int .u16 l, .int .u16 b]] w fun e w' => e = .returned (.agg #[.int .u16 (l - 1), .int .u16 (b / 2)]) ∧ Below w.heap.size w w' := by
  go_enter Tryz.func152, Tryz.ntmps152
  go_wp2
  refine bodyPost_ret (v := .agg #[.int .u16 (l - 1), .int .u16 (b / 2)]) (by simp [results, go_sem]) rfl ⟨rfl, ?_⟩
  exact ((Below.refl _ _).alloc (Nat.le_refl _) _).alloc (by simp) _
/-- The lowest i bits of b, the other way round. -/
def turn (b : Nat) : Nat → Nat
  | 0 => 0
  | i + 1 => turn b i * 2 + b / 2 ^ i % 2
theorem turn_lt (b i : Nat) : turn b i < 2 ^ i := by
  induction i with
  | zero => exact Nat.one_pos
  | succ i ih => rw [turn, Nat.pow_succ]; omega
theorem turn_step (b i : Nat) (hb : b < 65536) (hi : i < 16) : bits .or .i64 ((turn b i : Int) * 2) (wrap64 (bits .and .u16 ((b : Int) / 2 ^ i) 1)) = (turn b (i + 1) : Int) := by
  have h1 := turn_lt b i
  have h2 : (2 : Nat) ^ i ≤ 2 ^ 15 := Nat.pow_le_pow_right (by omega) (by omega)
  have e : (b : Int) / 2 ^ i = ((b / 2 ^ i : Nat) : Int) := by rw [Int.natCast_ediv, Int.natCast_pow]; rfl
  have h3 : b / 2 ^ i ≤ b := Nat.div_le_self _ _
  show _ = ((turn b i * 2 + b / 2 ^ i % 2 : Nat) : Int)
  rw [e]
  generalize b / 2 ^ i = q at *
  generalize turn b i = t at *
  have e2 : wrap64 (bits .and .u16 (q : Int) 1) = ((q % 2 : Nat) : Int) := by
    rw [u16_and _ _ (by omega) (by omega) (by omega) (by omega), show (1 : Int).toNat = 1 from rfl, nat_mask1, Int.toNat_natCast]
    unfold wrap64; omega
  rw [e2, show (t : Int) * 2 = ((t * 2 : Nat) : Int) by omega, i64_or _ _ (by omega) (by omega), nat_join 1 _ _ (by omega) (by omega)]
set_option maxHeartbeats 800000 in
theorem turned_any (l b : Nat) (w : World) (hl : l < 16) (hb : b < 65536) :
    Calls Tryz.prog 107 #[.agg #[.int .u16 l, .int .u16 b]] w fun e w' => e = .returned (.int .i64 (turn b l)) ∧ w' = w.alloc (.cells #[.int .u16 l, .int .u16 b] 172) := by
  go_enter Tryz.func107, Tryz.ntmps107
  go_wp2
  go_loop [3, 7] (fun v i => ∃ k : Nat, k ≤ l ∧ i = .int .u16 k ∧ v = .int .i64 (turn b k)) (fun _ i => l - (intOf i).toNat)
  case atStart => exact ⟨0, Nat.zero_le _, rfl, rfl⟩
  case round =>
    obtain ⟨k, hk, rfl, rfl⟩ := hrel
    have h1 := turn_lt b k
    have h2 : (2 : Nat) ^ k ≤ 2 ^ 15 := Nat.pow_le_pow_right (by omega) (by omega)
    have h3 : turn b k ≤ 32768 := by omega
    clear h1 h2
    by_cases hlt : k < l
    · have HT : Hid _ := turn_step b k hb (by omega)
      go_wp2
      go_round
      case rel => exact ⟨k + 1, by omega, by go_num, by rw [← HT.out]⟩
      case measure => simp [intOf]; omega
    · obtain rfl : k = l := by omega
      go_wp2
      go_ret
      exact ⟨rfl, rfl⟩
end Go.Proofs.YtloagniacjfkfaaGreatDoor
/- The words of lengths, as the program spells them. -/
namespace Go.Proofs.YtloagniacjfkfaaGreatDoor
open Go.RowKit

def ints (ns : List Nat) : List Int := ns.map fun (n : Nat) => (n : Int)
theorem ints_at (ns : List Nat) (k : Nat) : (ints ns)[k]?.getD 0 = (hn ns k : Int) := by
  unfold ints hn
  rw [List.getElem?_map]
  cases ns[k]? <;> rfl
theorem ints_len (ns : List Nat) : (ints ns).length = ns.length := by simp [ints]
theorem ints_words (ns : List Nat) : wordsN (ints ns) = hleft ns 1 0 := by
  rw [hleft_start]
  unfold wordsN ints
  rw [List.countP_map]
  congr 1
  funext n
  simp
theorem ints_toNat {ls : List Int} (h : okLens ls = true) : ints (ls.map Int.toNat) = ls := by
  unfold ints
  rw [List.map_map]
  apply List.ext_getElem?
  intro i
  rw [List.getElem?_map]
  have := okLens_at h i
  cases hx : ls[i]? with
  | none => rfl
  | some x => rw [hx] at this; simp at this ⊢; omega
theorem Tryz.info67 : (Tryz.prog.info? 172).map (fun i => (i.zero, i.size, i.bytes)) = some (some (.agg #[.int .u16 0, .int .u16 0]), 2, 4) := by kernel_rfl

/-- Words that lie in block B: symbol s's is f s. -/
def WRow (w : World) (B len : Nat) (f : Nat → Nat × Nat) : Prop :=
  ∃ cur, w.heap[B]? = some (.cells cur 172 (0, 0)) ∧ cur.size = len * 2 ∧ ∀ s, s < len → cur[s * 2]? = some (.int .u16 (f s).1) ∧ cur[s * 2 + 1]? = some (.int .u16 (f s).2)
theorem WRow.same {w w' : World} {B len : Nat} {f : Nat → Nat × Nat} (h : WRow w B len f) (hs : w'.heap[B]? = w.heap[B]?) : WRow w' B len f := by
  obtain ⟨cur, hh, r⟩ := h
  exact ⟨cur, hs.trans hh, r⟩
theorem WRow.lt {w : World} {B len : Nat} {f : Nat → Nat × Nat} (h : WRow w B len f) : B < w.heap.size := by
  obtain ⟨cur, hh, _⟩ := h; exact lt_of_block hh
theorem WRow.cell {w : World} {B len : Nat} {f : Nat → Nat × Nat} (h : WRow w B len f) (s : Nat) (hs : s < len) : w.cell? ⟨B, s * 2, none⟩ = some (.int .u16 (f s).1) ∧ w.cell? ⟨B, s * 2 + 1, none⟩ = some (.int .u16 (f s).2) := by
  obtain ⟨cur, hh, _, r⟩ := h
  obtain ⟨r1, r2⟩ := r s hs
  simp [World.cell?, hh, r1, r2]
theorem WRow.frozen {w : World} {B len : Nat} {f : Nat → Nat × Nat} (h : WRow w B len f) (j : Nat) : w.frozen? ⟨B, j, none⟩ = false := by
  obtain ⟨cur, hh, _, r⟩ := h
  simp [World.frozen?, hh]
theorem WRow.congr {w : World} {B len : Nat} {f g : Nat → Nat × Nat} (h : WRow w B len f) (hfg : ∀ s, s < len → f s = g s) : WRow w B len g := by
  obtain ⟨cur, hh, hz, r⟩ := h
  exact ⟨cur, hh, hz, fun s hs => by rw [← hfg s hs]; exact r s hs⟩
theorem WRow.made {w : World} {base B len n : Nat} (h : w.ownsRow base 172 2 (.slice (some ⟨B, 0, none⟩) len len) n (madeCells (Value.agg #[.int .u16 0, .int .u16 0]).cells (len * 2)).toList) : WRow w B len (fun _ => (0, 0)) := by
  obtain ⟨hl, h⟩ := h
  rw [Array.length_toList, size_madeCells] at hl
  obtain rfl : len = n := by omega
  rcases h with ⟨h, _⟩ | ⟨g, cap, cur, h, _, hh, h1, h2, h3, h4⟩
  · cases h
  · simp only [Value.slice.injEq, Option.some.injEq, Addr.mk.injEq] at h
    obtain ⟨⟨rfl, _, _⟩, _, rfl⟩ := h
    rw [List.take_of_length_le (by rw [Array.length_toList, h3]; exact Nat.le_refl _)] at h4
    have h5 : cur = madeCells (Value.agg #[.int .u16 0, .int .u16 0]).cells (len * 2) := Array.toList_inj.1 h4
    refine ⟨cur, hh, h3, fun s hs => ?_⟩
    subst h5
    unfold madeCells
    rw [Array.getElem?_map, Array.getElem?_map, Array.getElem?_range, Array.getElem?_range, if_pos (by omega), if_pos (by omega)]
    have e1 : (Value.agg #[.int .u16 0, .int .u16 0]).cells = #[.int .u16 0, .int .u16 0] := rfl
    rw [e1]
    simp
theorem WRow.set {w : World} {B len : Nat} {f : Nat → Nat × Nat} (h : WRow w B len f) (i : Nat) (x y : Nat) (hi : i < len) : WRow ((w.setCell ⟨B, i * 2, none⟩ (.int .u16 x)).setCell ⟨B, i * 2 + 1, none⟩ (.int .u16 y)) B len (fun s => if s = i then (x, y) else f s) := by
  obtain ⟨cur, hh, hz, r⟩ := h
  refine ⟨_, heap_setCell_same _ B (i * 2 + 1) _ _ _ (heap_setCell_same w B (i * 2) cur _ _ hh), by simp [hz], fun s hs => ?_⟩
  obtain ⟨r1, r2⟩ := r s hs
  by_cases e : s = i
  · subst e
    simp [Array.getElem?_setIfInBounds, hz]
    omega
  · simp only [if_neg e]
    rw [Array.getElem?_setIfInBounds_ne (by omega), Array.getElem?_setIfInBounds_ne (by omega), Array.getElem?_setIfInBounds_ne (by omega), Array.getElem?_setIfInBounds_ne (by omega)]
    exact ⟨r1, r2⟩

/-- At the head of the round of words of n bits. -/
def SpHead (w : World) (B F len : Nat) (ns : List Nat) (n : Nat) (wr : World) : Prop :=
  ∃ fz : Nat, (n ≤ 15 → fz * 2 = hfree ns n 0) ∧ WRow wr B len (hmid ns n 0) ∧ wr.heap[F]? = some (.cells #[.int .u16 ((n - 1 : Nat) : Int), .int .u16 fz] 172 (0, 0)) ∧ Below w.heap.size w wr
/-- Within it, the symbols below i done. -/
def SpRel (w : World) (B F len : Nat) (ns : List Nat) (n i : Nat) (wr : World) : Prop :=
  WRow wr B len (hmid ns n i) ∧ wr.heap[F]? = some (.cells #[.int .u16 n, .int .u16 (hfree ns n i)] 172 (0, 0)) ∧ Below w.heap.size w wr
theorem SpHead.start {w w' : World} {B len : Nat} {ns : List Nat} (h : WRow w' B len fun _ => (0, 0)) (hb : Below w.heap.size w w') : SpHead w B w'.heap.size len ns 1 (w'.alloc (.cells #[.int .u16 0, .int .u16 0] 172)) :=
  ⟨0, fun _ => by rw [hfree_start], (h.congr fun s _ => by rw [hmid_start]).same (((Below.refl w'.heap.size w').alloc (Nat.le_refl _) _).block _ h.lt), heap_alloc_new _ _, hb.alloc hb.size _⟩
theorem SpRel.last {w wr : World} {B F len : Nat} {ns : List Nat} {n : Nat} (hl : ns.length = len) (h1 : 1 ≤ n) (h : SpRel w B F len ns n len wr) : SpHead w B F len ns (n + 1) wr := by
  obtain ⟨hw, hf, hb⟩ := h
  subst hl
  exact ⟨hfree ns n ns.length, fun h => by rw [hfree_end ns n h1 h], hw.congr fun s _ => by rw [hmid_end ns n s h1], by rw [Nat.add_sub_cancel]; exact hf, hb⟩
theorem Fr.swap {w w' : World} {r r' : Nat} (h : Fr w w' r none) : Fr w w' r' (some r) := ⟨h.os, h.tape, h.output, h.size, fun k hk _ hg => h.block k hk (fun e => hg (by rw [e])) (by simp)⟩
theorem hleft_le (ns : List Nat) (n i : Nat) : hleft ns n i ≤ 2 * ns.length := by
  unfold hleft
  have h1 : (ns.countP fun k => decide (n < k)) ≤ ns.length := List.countP_le_length
  have h2 : ((ns.drop i).countP fun k => decide (k = n)) ≤ (ns.drop i).length := List.countP_le_length
  rw [List.length_drop] at h2
  omega
def SpPost (w : World) (len : Nat) (ns : List Nat) (e : Ending) (w' : World) : Prop :=
  ∃ B, e = .returned (.slice (some ⟨B, 0, none⟩) len len) ∧ w.heap.size ≤ B ∧ WRow w' B len (fun s => (hn ns s, hv ns s)) ∧ Below w.heap.size w w'
theorem SpRel.done {w wr : World} {B F len : Nat} {ns : List Nat} {n i : Nat} (h1 : 1 ≤ n) (hB : w.heap.size = B) (h0 : hleft ns n i = 0) (h : SpRel w B F len ns n i wr) : SpPost w len ns (.returned (.slice (some ⟨B, 0, none⟩) len len)) wr := by
  obtain ⟨hw, hf, hb⟩ := h
  exact ⟨B, rfl, by omega, hw.congr fun s _ => hmid_done h1 h0 s, hb⟩
theorem hleft_out {ns : List Nat} (h : Cd ns) : hleft ns 16 0 = 0 := by
  have hx : ∀ x ∈ ns, x ≤ 15 := by
    intro x hx
    obtain ⟨k, hk, rfl⟩ := List.mem_iff_getElem.1 hx
    have := h.le k
    unfold hn at this
    rw [List.getElem?_eq_getElem hk] at this
    exact this
  unfold hleft
  rw [List.countP_eq_zero.2, List.countP_eq_zero.2]
  · intro x hm
    have := hx x (List.mem_of_mem_drop hm)
    simp; omega
  · intro x hm
    have := hx x hm
    simp; omega

set_option maxHeartbeats 1600000 in
set_option maxRecDepth 10000 in
theorem spell_any (a : Option Addr) (len cap : Nat) (ns : List Nat) (w : World) (hn' : ns.length = len) (hc : Cd ns) (hr : IRow w a (ints ns)) :
    Calls Tryz.prog 139 #[.slice a len cap] w fun e w' => SpPost w len ns e w' := by
  have HN : Hid (ns.length = len) := hn'
  have HR : Hid (IRow w a (ints ns)) := hr
  have HC : Hid (Cd ns) := hc
  have hl : len ≤ 288 := by rw [← hn']; exact hc.few
  clear hn' hr hc
  obtain ⟨i0, hi, hz0, hz1, hz2⟩ := info_parts Tryz.info67
  have hby : i0.bytes = 4 := hz2
  have hmk : i0.bytes * len ≤ 281474976710656 := by rw [hby]; omega
  go_enter Tryz.func139, Tryz.ntmps139
  go_wp2
  go_step3
  go_wp2_with (at_make; refine wpList_make_full _ rfl _ _ 168 rfl w.heap.size 172 i0 _ 2 Tryz.underlying168 hi hz0 hz1 .i64 .i64 len len len rfl rfl rfl rfl hmk (by unfold maxLen; omega) (Nat.le_refl _) ?_)
  intro w1 hown hgrow
  have hrow := WRow.made hown
  have HB1 : Hid (Below w.heap.size w w1) := ⟨hgrow.os, hgrow.tape, hgrow.output, hgrow.size, fun k hk => hgrow.block k hk (by simp)⟩
  have HW1 : Hid (WRow w1 w.heap.size len fun _ => (0, 0)) := hrow
  clear hown hgrow hrow
  have hbig := HW1.out.lt
  go_wp2_with (go_at_call 138; refine (withWord_any a len cap (ints ns) _ (by rw [ints_len]; exact HN.out) (by omega) (HR.out.old HB1.out)).mono ?_; rintro e w' ⟨rfl, rfl⟩)
  have HS : Hid (SpHead w w.heap.size w'.heap.size len ns 1 (w'.alloc (.cells #[.int .u16 0, .int .u16 0] 172))) := SpHead.start HW1.out HB1.out
  have hlt0 : Hid (wordsN (ints ns) = hleft ns 1 0) := ints_words ns
  go_step3
  go_wp2
  generalize w'.heap.size = F at HS hbig ⊢
  generalize hB : w.heap.size = B at HS hbig ⊢
  have HBB : Hid (w.heap.size = B) := hB
  have hBF : ¬ B = F := by omega
  have hFB : ¬ F = B := by omega
  rw [hlt0.out]
  clear HW1 HB1 hB
  go_loopw [4, 6] (fun l n wr => ∃ k : Nat, 1 ≤ k ∧ k ≤ 16 ∧ n = .int .i64 k ∧ l = .int .i64 (hleft ns k 0) ∧ SpHead w B F len ns k wr) (fun _ n _ => 17 - (intOf n).toNat)
  case atStart => exact ⟨1, by omega, by omega, rfl, rfl, HS.out⟩
  case round =>
    obtain ⟨k, hk1, hk16, rfl, rfl, fz, hfz, hrow, hF, hbel⟩ := hrel
    by_cases hk : k ≤ 15
    · obtain ⟨q0, q1, f0, f1⟩ := two_cells hF
      have HFZ : Hid (fz * 2 = hfree ns k 0) := hfz hk
      have hfle : fz ≤ 16384 := by
        have := hfree_le ns k 0 hk1 hk HC.out.sum
        have h2 : (2 : Nat) ^ k ≤ 2 ^ 15 := Nat.pow_le_pow_right (by omega) hk
        have := HFZ.out; omega
      have HR1 : Hid (WRow wr B len (hmid ns k 0)) := hrow
      have HBL : Hid (Below w.heap.size w wr) := hbel
      have HF1 : Hid (wr.heap[F]? = some (.cells #[.int .u16 ((k - 1 : Nat) : Int), .int .u16 fz] 172 (0, 0))) := hF
      clear hfz hrow hbel hF HS
      obtain ⟨j, rfl⟩ : ∃ j, k = j + 1 := ⟨k - 1, by omega⟩
      rw [Nat.add_sub_cancel] at q0
      have hj15 : (j : Int) + 1 ≤ 15 := by omega
      go_wp2_with fail
      refine (and_any j fz 0 _ (by omega) (by omega) (.inl rfl)).mono ?_
      rintro e w2 ⟨rfl, hb2⟩
      have hF2 : w2.heap[F]? = some (.cells #[.int .u16 ((j : Nat) : Int), .int .u16 fz] 172 (0, 0)) := (hb2.block F (lt_of_block HF1.out)).trans (by have := HF1.out; rwa [Nat.add_sub_cancel] at this)
      have HR2 : Hid (WRow w2 B len (hmid ns (j + 1) 0)) := HR1.out.same (hb2.block B HR1.out.lt)
      have HB2 : Hid (Below w.heap.size w w2) := HBL.out.trans (hb2.mono HBL.out.size)
      obtain ⟨p0, p1, g0, g1⟩ := two_cells hF2
      have HF2 : Hid (w2.heap[F]? = some (.cells #[.int .u16 ((j : Nat) : Int), .int .u16 fz] 172 (0, 0))) := hF2
      clear hb2 hF2 HR1 HBL HF1 q0 q1 f0 f1
      go_wp2
      have HS2 : Hid (SpRel w B F len ns (j + 1) 0 ((w2.setCell ⟨F, 0, none⟩ (.int .u16 ((j : Int) + 1))).setCell ⟨F, 1, none⟩ (.int .u16 ((fz : Int) * 2)))) := by
        refine ⟨HR2.out.same ?_, ?_, ?_⟩
        · rw [Below.heap_setCell _ _ _ _ hBF, Below.heap_setCell _ _ _ _ hBF]
        · rw [← HFZ.out]
          exact two_set1 (two_set0 HF2.out)
        · have h1 : Fr w2 ((w2.setCell ⟨F, 0, none⟩ (.int .u16 ((j : Int) + 1))).setCell ⟨F, 1, none⟩ (.int .u16 ((fz : Int) * 2))) F none := (Fr.set F 0 _ none).trans (Fr.set F 1 _ none) (.inl rfl)
          exact Fr.below HB2.out h1 (by rw [HBB.out]; omega) (by intro q hq; cases hq) HB2.out.size
      clear HR2 HB2 HF2 p0 p1 g0 g1
      go_loopw [4, 23] (fun l s wr => ∃ i : Nat, i ≤ len ∧ s = .int .i64 i ∧ l = .int .i64 (hleft ns (j + 1) i) ∧ SpRel w B F len ns (j + 1) i wr) (fun _ s _ => len - (intOf s).toNat)
      case atStart => exact ⟨0, Nat.zero_le _, rfl, rfl, HS2.out⟩
      case round =>
        clear HS2
        obtain ⟨i, hi, rfl, rfl, hrow, hF, hbel⟩ := hrel
        have HREL : Hid (SpRel w B F len ns (j + 1) i wr) := ⟨hrow, hF, hbel⟩
        by_cases hlt : i < len
        · obtain ⟨b, off, rfl, hck⟩ := HR.out.at i (by rw [ints_len]; have := HN.out; omega)
          rw [ints_at] at hck
          have hck' : wr.cell? ⟨b, off + i, none⟩ = some (.int .i64 (hn ns i : Nat)) := (hbel.cell (p := ⟨b, off + i, none⟩) (cell_lt hck)).trans hck
          have hni : hn ns i ≤ 15 := HC.out.le i
          obtain ⟨q0, q1, f0, f1⟩ := two_cells hF
          obtain ⟨c0, c1⟩ := hrow.cell i hlt
          have d0 := hrow.frozen (i * 2)
          have d1 := hrow.frozen (i * 2 + 1)
          clear hck hrow hF hbel
          have hle := hfree_le ns (j + 1) i hk1 hk HC.out.sum
          have hp2 : (2 : Nat) ^ (j + 1) ≤ 2 ^ 15 := Nat.pow_le_pow_right (by omega) hk
          have hfi : hfree ns (j + 1) i ≤ 32768 := by omega
          clear hle hp2
          by_cases hz : hleft ns (j + 1) i = 0
          · have HZ : Hid (hleft ns (j + 1) i = 0) := hz
            go_wp2
            rw [Exit.noGoto_ret]
            go_ret
            exact SpRel.done hk1 HBB.out HZ.out HREL.out
          · have HLS : Hid (hleft ns (j + 1) i = hleft ns (j + 1) (i + 1) + if hn ns i = j + 1 then 1 else 0) := hleft_succ ns (j + 1) i (by rw [HN.out]; exact hlt)
            have HFS : Hid (hfree ns (j + 1) (i + 1) = hfree ns (j + 1) i + if hn ns i = j + 1 then 1 else 0) := hfree_succ ns (j + 1) i hk (by rw [HN.out]; exact hlt)
            have HMS : Hid (∀ s, hmid ns (j + 1) (i + 1) s = if s = i ∧ hn ns i = j + 1 then (j + 1, hfree ns (j + 1) i) else hmid ns (j + 1) i s) := fun s => hmid_succ ns (j + 1) i s hk1
            by_cases he : hn ns i = j + 1
            · rw [he] at hck'
              have HL2 : Hid (hleft ns (j + 1) i = hleft ns (j + 1) (i + 1) + 1) := by show _ = _; rw [HLS.out, if_pos he]
              have hlz : (0 : Int) < (hleft ns (j + 1) i : Int) := by omega
              have HE : Hid (hn ns i = j + 1) := he
              clear HLS he hni
              have hck2 : wr.cell? ⟨b, off + i, none⟩ = some (.int .i64 ((j : Int) + 1)) := hck'
              clear hck'
              have hl3 : hleft ns (j + 1) i ≤ 576 := by have h1 := hleft_le ns (j + 1) i; have := HN.out; omega
              go_wp2
              go_roundw
              case rel =>
                refine ⟨i + 1, by omega, by go_num, ?_, ?_⟩
                · have := HL2.out
                  congr 1
                  omega
                · obtain ⟨r1, r2, r3⟩ := HREL.out
                  refine ⟨?_, ?_, ?_⟩
                  · refine WRow.congr ((r1.set i (j + 1) (hfree ns (j + 1) i) hlt).same (Below.heap_setCell _ _ _ _ hBF)) fun s hs => ?_
                    rw [HMS.out]
                    by_cases e : s = i
                    · rw [if_pos e, if_pos ⟨e, HE.out⟩]
                    · rw [if_neg e, if_neg (fun h => e h.1)]
                  · rw [HFS.out, if_pos HE.out]
                    refine two_set1 (v1 := .int .u16 (hfree ns (j + 1) i : Nat)) ?_
                    rw [Below.heap_setCell _ _ _ _ hFB, Below.heap_setCell _ _ _ _ hFB]
                    exact r2
                  · have h1 : Fr wr (((wr.setCell ⟨B, i * 2, none⟩ (.int .u16 ((j : Int) + 1))).setCell ⟨B, i * 2 + 1, none⟩ (.int .u16 (hfree ns (j + 1) i : Nat))).setCell ⟨F, 1, none⟩ (.int .u16 ((hfree ns (j + 1) i : Nat) + 1 : Int))) F (some B) :=
                      ((Fr.swap ((Fr.set B (i * 2) _ none).trans (Fr.set B (i * 2 + 1) _ none) (.inl rfl))).trans (Fr.set F 1 _ _) (.inl rfl))
                    exact Fr.below r3 h1 (by rw [HBB.out]; omega) (by intro q hq; cases hq; rw [HBB.out]; exact Nat.le_refl _) r3.size
              case measure => simp [intOf]; omega
            · have heZ : ¬ ((hn ns i : Nat) : Int) = (j : Int) + 1 := by omega
              have R : Hid (SpRel w B F len ns (j + 1) (i + 1) wr) := by
                obtain ⟨r1, r2, r3⟩ := HREL.out
                refine ⟨r1.congr fun s _ => ?_, ?_, r3⟩
                · rw [HMS.out, if_neg (by omega)]
                · rw [HFS.out, if_neg he]; exact r2
              have HL2 : Hid (hleft ns (j + 1) (i + 1) = hleft ns (j + 1) i) := by show _ = _; rw [HLS.out, if_neg he]; rfl
              clear HREL HLS HFS HMS
              generalize hn ns i = z at *
              go_wp2
              go_roundw
              case rel => exact ⟨i + 1, by omega, by go_num, by rw [HL2.out], R.out⟩
              case measure => simp [intOf]; omega
        · obtain rfl : i = len := by omega
          have R : Hid (SpHead w B F i ns (j + 1 + 1) wr) := HREL.out.last HN.out hk1
          have HL2 : Hid (hleft ns (j + 1 + 1) 0 = hleft ns (j + 1) i) := by have := hleft_end ns (j + 1); rwa [HN.out] at this
          clear HREL hrow hF hbel
          go_wp2
          go_roundw
          case rel => exact ⟨j + 1 + 1, by omega, by omega, by go_num, by rw [HL2.out], R.out⟩
          case measure => simp [intOf]; omega
    · obtain rfl : k = 16 := by omega
      have R : SpPost w len ns (.returned (.slice (some ⟨B, 0, none⟩) len len)) wr :=
        ⟨B, rfl, by rw [HBB.out]; exact Nat.le_refl _, hrow.congr fun s _ => hmid_done (by omega) (hleft_out HC.out) s, hbel⟩
      have HRR : Hid (SpPost w len ns (.returned (.slice (some ⟨B, 0, none⟩) len len)) wr) := R
      clear R hrow hF hbel hfz HS
      go_wp2
      rw [Exit.noGoto_ret]
      go_ret
      exact HRR.out
end Go.Proofs.YtloagniacjfkfaaGreatDoor
/- Maps whose keys are words: what they hold, as a function. -/
namespace Go.Proofs.YtloagniacjfkfaaGreatDoor
open Go.RowKit

theorem Tryz.row67 : (172 : TypeId) < Tryz.prog.types.size := of_decide_eq_true (by kernel_rfl)
theorem Tryz.wide67 : (match Tryz.prog.underlying 172 with | some (.array _ _) | some (.struct _) => true | _ => false) = true := by rw [Tryz.underlying172]
set_option maxRecDepth 100000 in
theorem Tryz.law67 : Maps.Keyed Tryz.prog 172 := Maps.Keyed.of_law (deep_law_laid Tryz.laidOut (m := 2) (by omega) Tryz.row67 (by kernel_rfl) Tryz.wide67)
theorem Tryz.cells67 : Tryz.prog.cellsOf 172 = 2 := by kernel_rfl
theorem Tryz.cells50 : Tryz.prog.cellsOf 37 = 1 := by kernel_rfl
theorem Tryz.key67 : Tryz.prog.keyType 172 = true := by kernel_rfl
theorem Tryz.formed67 {c0 c1 : Value} : (Value.agg #[c0, c1]).formed Tryz.prog 172 = true := by simp [Value.formed, Tryz.underlying172, Tryz.cells67]
theorem Tryz.zero3 (w : World) : (zeroValue 3).run Tryz.prog w = .ok (.int .i64 0) w := by kernel_rfl

theorem Tryz.mkmap (n : Int) (w : World) : (Instr.makeMap 167 (some (.int .i64 n))).run Tryz.prog w = .ok (.map (some w.heap.size)) (w.alloc (.map #[] 0)) := by
  simp [Instr.makeMap, run_underlying Tryz.underlying167, asInt, asIntOf]
def kl (l b : Nat) : Lit := .string (keyBytes [.int .u16 l, .int .u16 b])
theorem wf16 {l : Nat} (h : l < 65536) : (Lit.int .u16 l).wf = true := by
  simp [Lit.wf, IntKind.min, IntKind.max, IntKind.bits, IntKind.signed]; omega
set_option maxRecDepth 100000 in
theorem keyOf_kl {l b : Nat} (hl : l < 65536) (hb : b < 65536) : keyOf Tryz.prog 172 (.agg #[.int .u16 l, .int .u16 b]) = some (kl l b) := by
  unfold keyOf
  rw [Tryz.underlying172]
  simp only [Tryz.key67, Tryz.formed67, Bool.and_self, if_true]
  have e : Tryz.prog.keyLits (Tryz.prog.types.size + 1) 172 (Value.agg #[.int .u16 l, .int .u16 b]).cells.toList = some [.int .u16 l, .int .u16 b] := by
    obtain ⟨n, hn⟩ : ∃ n, Tryz.prog.types.size = n + 1 := ⟨Tryz.prog.types.size - 1, (Nat.succ_pred_eq_of_pos (Nat.lt_of_le_of_lt (Nat.zero_le _) Tryz.row67)).symm⟩
    rw [hn]
    simp [Program.keyLits, Tryz.underlying172, Tryz.underlying37, Tryz.cells67, Tryz.cells50, Value.cells, wf16 hl, wf16 hb]
  rw [e]
  rfl
theorem kl_inj {l b l' b' : Nat} (hl : l < 65536) (hb : b < 65536) (hl' : l' < 65536) (hb' : b' < 65536) (h : kl l b = kl l' b') : l = l' ∧ b = b' := by
  have := Tryz.law67.inj (keyOf_kl hl hb) (by rw [h]; exact keyOf_kl hl' hb')
  simp at this
  omega
theorem kl_key {l b : Nat} (hl : l < 65536) (hb : b < 65536) : WideAt.IsKeyLit (kl l b) := Tryz.law67.key (keyOf_kl hl hb)

/-- Block m is a map of at most n words: what stands at a word is f's. -/
def MapF (w : World) (m n : Nat) (f : Nat → Nat → Option Int) : Prop :=
  ∃ D : DataW Unit, w.ownsMap Tryz.prog 172 (plainElem Tryz.prog 3) m n D ∧ ∀ l b, l < 65536 → b < 65536 → Maps.has D (kl l b) = (f l b).isSome ∧ D.atKey (kl l b) (.lit (.int .i64 0)) = .lit (.int .i64 ((f l b).getD 0))
theorem MapF.lt {w : World} {m n : Nat} {f : Nat → Nat → Option Int} (h : MapF w m n f) : m < w.heap.size := by obtain ⟨D, h, _⟩ := h; exact h.lt
theorem MapF.same {w w' : World} {m n : Nat} {f : Nat → Nat → Option Int} (h : MapF w m n f) (hs : w'.heap[m]? = w.heap[m]?) : MapF w' m n f := by
  obtain ⟨D, ⟨es, clock, hb, r⟩, h2⟩ := h
  exact ⟨D, ⟨es, clock, hs.trans hb, r⟩, h2⟩
theorem MapF.congr {w : World} {m n : Nat} {f g : Nat → Nat → Option Int} (h : MapF w m n f) (hfg : ∀ l b, f l b = g l b) : MapF w m n g := by
  obtain ⟨D, h1, h2⟩ := h
  exact ⟨D, h1, fun l b hl hb => by rw [← hfg]; exact h2 l b hl hb⟩
theorem MapF.mono {w : World} {m n n' : Nat} {f : Nat → Nat → Option Int} (h : MapF w m n f) (hn : n ≤ n') : MapF w m n' f := by
  obtain ⟨D, h1, h2⟩ := h
  exact ⟨D, h1.mono hn, h2⟩
theorem MapF.made (w : World) : MapF (w.alloc (.map #[] 0)) w.heap.size 0 fun _ _ => none :=
  ⟨.map [], World.ownsMap_made w _ _ _, fun _ _ _ _ => ⟨rfl, rfl⟩⟩
theorem MapF.look {w : World} {m n : Nat} {f : Nat → Nat → Option Int} (h : MapF w m n f) (l b : Nat) (hl : l < 65536) (hb : b < 65536) :
    (Instr.lookup 167 (.map (some m)) (.agg #[.int .u16 l, .int .u16 b]) true).run Tryz.prog w = .ok (.tuple #[.int .i64 ((f l b).getD 0), .bool (f l b).isSome]) w := by
  obtain ⟨D, h1, h2⟩ := h
  obtain ⟨e1, e2⟩ := h2 l b hl hb
  obtain ⟨v, ps, hrun, hv⟩ := h1.look_ok Tryz.law67 Tryz.underlying167 (Tryz.zero3 w) (plainElem_int Tryz.underlying3 (by decide)) (keyOf_kl hl hb)
  obtain ⟨c, rfl, hc, _⟩ := plainElem_int_inv Tryz.underlying3 hv
  simp only [Prod.mk.injEq] at hc
  rw [e2] at hc
  simp at hc
  rw [hrun, e1, hc.1]
theorem MapF.put {w : World} {m n : Nat} {f : Nat → Nat → Option Int} (h : MapF w m n f) (hn : n < maxLen) (l b : Nat) (hl : l < 65536) (hb : b < 65536) (v : Int) (hv : (Lit.int .i64 v).wf = true) :
    ∃ w', (Instr.mapUpdate 167 (.map (some m)) (.agg #[.int .u16 l, .int .u16 b]) (.int .i64 v)).run Tryz.prog w = .ok () w' ∧ MapF w' m (n + 1) (fun l' b' => if l' = l ∧ b' = b then some v else f l' b') ∧ w.grownBy w' (some m) := by
  obtain ⟨D, h1, h2⟩ := h
  obtain ⟨w', hrun, hown, hg⟩ := h1.update Tryz.law67 Tryz.underlying167 hn (keyOf_kl hl hb) (plainElem_int Tryz.underlying3 hv)
  refine ⟨w', hrun, ⟨_, hown, fun l' b' hl' hb' => ?_⟩, hg⟩
  by_cases e : l' = l ∧ b' = b
  · obtain ⟨rfl, rfl⟩ := e
    simp only [and_self, if_true]
    exact ⟨Maps.has_put_same h1.isMap (kl_key hl hb) _, Maps.atKey_put_same h1.isMap (kl_key hl hb) _ _⟩
  · have hne : kl l' b' ≠ kl l b := fun h => e (kl_inj hl' hb' hl hb h)
    simp only [if_neg e]
    rw [Maps.has_put_other hne, Maps.atKey_put_other hne]
    exact h2 l' b' hl' hb'
theorem wf64 {v : Int} (h1 : -9223372036854775808 ≤ v) (h2 : v ≤ 9223372036854775807) : (Lit.int .i64 v).wf = true := WalkArith.wf_i64 ⟨h1, h2⟩
end Go.Proofs.YtloagniacjfkfaaGreatDoor
