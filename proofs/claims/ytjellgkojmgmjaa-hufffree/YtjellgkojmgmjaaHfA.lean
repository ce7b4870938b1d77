/- Rows of int in memory; which lengths may be, and which are a code's. -/
import Derived.Test.YtjellgkojmgmjaaArgB
import Derived.Test.YtjellgkojmgmjaaHfM
namespace Go.Proofs.Ytjellgkojmgmjaa
open Go.RowKit

/-- Numbers that lie in memory. -/
def IRow (w : World) (a : Option Addr) (zs : List Int) : Prop :=
  zs = [] ∨ ∃ b off, a = some ⟨b, off, none⟩ ∧ ∀ i, i < zs.length → w.cell? ⟨b, off + i, none⟩ = some (.int .i64 (zs[i]?.getD 0))
theorem IRow.lt {w : World} {a : Option Addr} {zs : List Int} (h : IRow w a zs) : ∀ x, a = some x → zs ≠ [] → x.block < w.heap.size := by
  intro x hx hz
  rcases h with h | ⟨b, off, rfl, hc⟩
  · exact absurd h hz
  · simp at hx; subst hx
    exact cell_lt (hc 0 (List.length_pos_iff.2 hz))
theorem IRow.same {w w' : World} {a : Option Addr} {zs : List Int} (h : IRow w a zs) (hs : ∀ x, a = some x → zs ≠ [] → w'.heap[x.block]? = w.heap[x.block]?) : IRow w' a zs := by
  rcases h with h | ⟨b, off, rfl, hc⟩
  · exact .inl h
  · by_cases hz : zs = []
    · exact .inl hz
    · exact .inr ⟨b, off, rfl, fun i hi => (World.cell?_of_block (a := ⟨b, off + i, none⟩) (hs ⟨b, off, none⟩ rfl hz)).trans (hc i hi)⟩
theorem IRow.old {w w' : World} {a : Option Addr} {zs : List Int} (h : IRow w a zs) (hb : Below w.heap.size w w') : IRow w' a zs := h.same fun x hx hz => hb.block _ (h.lt x hx hz)
theorem IRow.at {w : World} {a : Option Addr} {zs : List Int} (h : IRow w a zs) (k : Nat) (hk : k < zs.length) : ∃ b off, a = some ⟨b, off, none⟩ ∧ w.cell? ⟨b, off + k, none⟩ = some (.int .i64 (zs[k]?.getD 0)) := by
  rcases h with h | ⟨b, off, e, hc⟩
  · subst h; simp at hk
  · exact ⟨b, off, e, hc k hk⟩

theorem ret_bool {a b : Bool} (h : a = b) : Ending.returned (.bool a) = .returned (.bool b) := by rw [h]
def okOne (n : Int) : Bool := decide (0 ≤ n) && decide (n ≤ 15)
def okLens (ls : List Int) : Bool := decide (ls.length ≤ 288) && ls.all okOne
theorem okLens_no {ls : List Int} (k : Nat) (hk : k < ls.length) (h : ls[k]?.getD 0 < 0 ∨ 15 < ls[k]?.getD 0) : okLens ls = false := by
  have : ls.all okOne = false := by
    rw [Bool.eq_false_iff]
    intro ha
    have := List.all_eq_true.1 ha _ (List.getElem_mem hk)
    rw [List.getElem?_eq_getElem hk] at h
    simp [okOne] at this h
    omega
  simp [okLens, this]
theorem okLens_yes {ls : List Int} (hl : ls.length ≤ 288) (h : ∀ k, k < ls.length → 0 ≤ ls[k]?.getD 0 ∧ ls[k]?.getD 0 ≤ 15) : okLens ls = true := by
  have : ls.all okOne = true := by
    rw [List.all_eq_true]
    intro x hx
    obtain ⟨k, hk, rfl⟩ := List.mem_iff_getElem.1 hx
    have := h k hk
    rw [List.getElem?_eq_getElem hk] at this
    simpa [okOne] using this
  simp [okLens, this, hl]
theorem okLens_long {ls : List Int} (hl : 288 < ls.length) : okLens ls = false := by simp [okLens]; omega

set_option maxHeartbeats 800000 in
theorem allowed_any (a : Option Addr) (len cap : Nat) (ls : List Int) (w : World) (hn : ls.length = len) (hl : len ≤ 140737488355328) (hr : IRow w a ls) :
    Calls Try.prog 26 #[.slice a len cap] w fun e w' => e = .returned (.bool (okLens ls)) ∧ w' = w := by
  have HN : Hid (ls.length = len) := hn
  have HR : Hid (IRow w a ls) := hr
  clear hn hr
  by_cases hlong : 288 < len
  · have hz : (288 : Int) < (len : Int) := by omega
    have HO : Hid (okLens ls = false) := okLens_long (by rw [HN.out]; exact hlong)
    go_enter Try.func26, Try.ntmps26
    go_wp2
    go_ret
    exact ⟨ret_bool HO.out.symm, rfl⟩
  · have hz : ¬ (288 : Int) < (len : Int) := by omega
    go_enter Try.func26, Try.ntmps26
    go_wp2
    go_loop [10] (fun i => ∃ k : Nat, k ≤ len ∧ i = .int .i64 k ∧ Hid (∀ j, j < k → 0 ≤ ls[j]?.getD 0 ∧ ls[j]?.getD 0 ≤ 15)) (fun i => len - (intOf i).toNat)
    case atStart => exact ⟨0, Nat.zero_le _, rfl, fun j hj => by omega⟩
    case round =>
      obtain ⟨k, hk, rfl, HA⟩ := hrel
      by_cases hlt : k < len
      · obtain ⟨b, off, rfl, hck⟩ := HR.out.at k (by have := HN.out; omega)
        by_cases h0 : ls[k]?.getD 0 < 0
        · have HO : Hid (okLens ls = false) := okLens_no k (by rw [HN.out]; exact hlt) (.inl h0)
          generalize ls[k]?.getD 0 = z at *
          go_wp2
          go_ret
          exact ⟨ret_bool HO.out.symm, rfl⟩
        · by_cases h1 : 15 < ls[k]?.getD 0
          · have HO : Hid (okLens ls = false) := okLens_no k (by rw [HN.out]; exact hlt) (.inr h1)
            generalize ls[k]?.getD 0 = z at *
            go_wp2
            go_ret
            exact ⟨ret_bool HO.out.symm, rfl⟩
          · have HB : Hid (∀ j, j < k + 1 → 0 ≤ ls[j]?.getD 0 ∧ ls[j]?.getD 0 ≤ 15) := fun j hj => by
              by_cases hjk : j < k
              · exact HA.out j hjk
              · obtain rfl : j = k := by omega
                omega
            clear HA
            generalize ls[k]?.getD 0 = z at h0 h1 hck
            go_wp2
            go_round
            case rel => exact ⟨k + 1, by omega, by go_num, HB.out⟩
            case measure => simp [intOf]; omega
      · have HO : Hid (okLens ls = true) := okLens_yes (by rw [HN.out]; omega) (fun j hj => HA.out j (by rw [HN.out] at hj; omega))
        go_wp2
        go_ret
        exact ⟨ret_bool HO.out.symm, rfl⟩

/-- How many symbols have a word. -/
def wordsN (ls : List Int) : Nat := ls.countP fun n => decide (0 < n)
/-- What the words take together. -/
def sharesN (ls : List Int) : Nat := kraft (ls.map Int.toNat)
theorem wordsN_le (ls : List Int) : wordsN ls ≤ ls.length := List.countP_le_length
theorem wordsN_snoc (l : List Int) (x : Int) : wordsN (l ++ [x]) = wordsN l + if 0 < x then 1 else 0 := by
  simp [wordsN, List.countP_append, List.countP_cons]
theorem kraft_snoc (l : List Nat) (x : Nat) : kraft (l ++ [x]) = kraft l + hshr x := by simp [kraft]
theorem sharesN_snoc (l : List Int) (x : Int) : sharesN (l ++ [x]) = sharesN l + hshr x.toNat := by simp [sharesN, kraft_snoc]
theorem hshr_le (n : Nat) : hshr n ≤ 16384 := by
  unfold hshr
  split
  · omega
  · have : (2 : Nat) ^ (15 - n) ≤ 2 ^ 14 := Nat.pow_le_pow_right (by omega) (by omega)
    omega
theorem kraft_le (l : List Nat) : kraft l ≤ 16384 * l.length := by
  induction l with
  | nil => exact Nat.le_refl _
  | cons x r ih => have := hshr_le x; unfold kraft at ih ⊢; simp only [List.map_cons, List.sum_cons, List.length_cons]; omega
theorem sharesN_le (ls : List Int) : sharesN ls ≤ 16384 * ls.length := by have := kraft_le (ls.map Int.toNat); rw [List.length_map] at this; exact this
theorem hshr_pos (n : Nat) (h : 0 < n) : (2 : Int) ^ (15 - n) = (hshr n : Nat) ∧ hshr n ≠ 0 := by
  unfold hshr
  rw [if_neg (by omega)]
  exact ⟨by rw [Int.natCast_pow]; rfl, by have := Nat.two_pow_pos (15 - n); omega⟩
/-- Whether allowed lengths are a code's. -/
def wholeB (ls : List Int) : Bool := if wordsN ls = 0 then true else if wordsN ls = 1 then decide (sharesN ls = 16384) else decide (sharesN ls = 32768)

theorem toNat_at (ls : List Int) (k : Nat) : ((ls.map Int.toNat)[k]?.getD 0 : Nat) = (ls[k]?.getD 0).toNat := by
  rw [List.getElem?_map]
  cases ls[k]? <;> rfl
theorem take_snocI (l : List Int) (k : Nat) (hk : k < l.length) : l.take (k + 1) = l.take k ++ [l[k]?.getD 0] := by
  rw [List.take_succ_eq_append_getElem hk, List.getElem?_eq_getElem hk]; rfl
theorem okLens_at {ls : List Int} (h : okLens ls = true) (k : Nat) : 0 ≤ ls[k]?.getD 0 ∧ ls[k]?.getD 0 ≤ 15 := by
  simp only [okLens, Bool.and_eq_true, List.all_eq_true] at h
  by_cases hk : k < ls.length
  · have := h.2 _ (List.getElem_mem hk)
    rw [List.getElem?_eq_getElem hk]
    simpa [okOne] using this
  · rw [List.getElem?_eq_none (by omega)]; simp
theorem okLens_few {ls : List Int} (h : okLens ls = true) : ls.length ≤ 288 := by
  simp only [okLens, Bool.and_eq_true] at h
  simpa using h.1

set_option maxHeartbeats 800000 in
theorem whole_any (a : Option Addr) (len cap : Nat) (ls : List Int) (w : World) (hn : ls.length = len) (hk : okLens ls = true) (hr : IRow w a ls) :
    Calls Try.prog 27 #[.slice a len cap] w fun e w' => e = .returned (.bool (wholeB ls)) ∧ w' = w := by
  have hl := okLens_few hk
  rw [hn] at hl
  have HN : Hid (ls.length = len) := hn
  have HR : Hid (IRow w a ls) := hr
  have HK : Hid (okLens ls = true) := hk
  clear hn hr hk
  go_enter Try.func27, Try.ntmps27
  go_wp2
  go_loop [3, 4, 9] (fun ws ss i => ∃ k : Nat, k ≤ len ∧ i = .int .i64 k ∧ ws = .int .i64 (wordsN (ls.take k)) ∧ ss = .int .i64 (sharesN (ls.take k))) (fun _ _ i => len - (intOf i).toNat)
  case atStart => exact ⟨0, Nat.zero_le _, rfl, rfl, rfl⟩
  case round =>
    obtain ⟨k, hk, rfl, rfl, rfl⟩ := hrel
    have hw1 := wordsN_le (ls.take k)
    have hs1 := sharesN_le (ls.take k)
    have ht : (ls.take k).length ≤ 288 := by rw [List.length_take]; omega
    have hw2 : wordsN (ls.take k) ≤ 288 := by omega
    have hs2 : sharesN (ls.take k) ≤ 4718592 := by omega
    clear hw1 hs1 ht
    by_cases hlt : k < len
    · obtain ⟨b, off, rfl, hck⟩ := HR.out.at k (by have := HN.out; omega)
      obtain ⟨z0, z1⟩ := okLens_at HK.out k
      have HW : Hid (wordsN (ls.take (k + 1)) = wordsN (ls.take k) + if 0 < ls[k]?.getD 0 then 1 else 0) := by show _ = _; rw [take_snocI ls k (by have := HN.out; omega), wordsN_snoc]
      have HS : Hid (sharesN (ls.take (k + 1)) = sharesN (ls.take k) + hshr (ls[k]?.getD 0).toNat) := by show _ = _; rw [take_snocI ls k (by have := HN.out; omega), sharesN_snoc]
      generalize ls[k]?.getD 0 = z at *
      generalize wordsN (ls.take k) = W at *
      generalize sharesN (ls.take k) = T at *
      obtain ⟨n, rfl⟩ := Int.eq_ofNat_of_zero_le z0
      have hq := hshr_le n
      by_cases hp : 0 < n
      · have hpz : (0 : Int) < (n : Int) := by omega
        obtain ⟨he, _⟩ := hshr_pos n hp
        rw [Int.toNat_natCast] at HS
        have HX : Hid (wordsN (ls.take (k + 1)) = W + 1) := by show _ = _; rw [HW.out, if_pos hpz]
        clear HW
        generalize hshr n = q at *
        have hwr : wrap64 (q : Int) = (q : Int) := by unfold wrap64; omega
        go_wp2
        go_round
        case rel => exact ⟨k + 1, by omega, by go_num, by rw [HX.out]; go_num, by rw [HS.out]; go_num⟩
        case measure => simp [intOf]; omega
      · have hpz : ¬ (0 : Int) < (n : Int) := by omega
        have HX : Hid (wordsN (ls.take (k + 1)) = W) := by show _ = _; rw [HW.out, if_neg hpz]; rfl
        have HY : Hid (sharesN (ls.take (k + 1)) = T) := by show _ = _; rw [HS.out, show (n : Int).toNat = 0 by omega]; rfl
        clear HW HS
        go_wp2
        go_round
        case rel => exact ⟨k + 1, by omega, by go_num, by rw [HX.out], by rw [HY.out]⟩
        case measure => simp [intOf]; omega
    · have e : ls.take k = ls := List.take_of_length_le (by have := HN.out; omega)
      rw [e] at *
      have HO : Hid (wholeB ls = if wordsN ls = 0 then true else if wordsN ls = 1 then decide (sharesN ls = 16384) else decide (sharesN ls = 32768)) := rfl
      clear e
      generalize wordsN ls = W at *
      generalize sharesN ls = T at *
      by_cases h0 : W = 0
      · subst h0
        go_wp2
        go_ret
        exact ⟨ret_bool (by rw [HO.out]; rfl), rfl⟩
      · by_cases h1 : W = 1
        · subst h1
          go_wp2
          go_ret
          refine ⟨ret_bool ?_, rfl⟩
          rw [HO.out]
          by_cases hT : T = 16384
          · subst hT; rfl
          · have : ¬ (T : Int) = 16384 := by omega
            simp [hT, this]
        · go_wp2
          go_ret
          refine ⟨ret_bool ?_, rfl⟩
          rw [HO.out, if_neg h0, if_neg h1]
          by_cases hT : T = 32768
          · subst hT; rfl
          · have : ¬ (T : Int) = 32768 := by omega
            simp [hT, this]

set_option maxHeartbeats 800000 in
theorem withWord_any (a : Option Addr) (len cap : Nat) (ls : List Int) (w : World) (hn : ls.length = len) (hl : len ≤ 140737488355328) (hr : IRow w a ls) :
    Calls Try.prog 28 #[.slice a len cap] w fun e w' => e = .returned (.int .i64 (wordsN ls)) ∧ w' = w := by
  have HN : Hid (ls.length = len) := hn
  have HR : Hid (IRow w a ls) := hr
  clear hn hr
  go_enter Try.func28, Try.ntmps28
  go_wp2
  go_loop [3, 8] (fun ws i => ∃ k : Nat, k ≤ len ∧ i = .int .i64 k ∧ ws = .int .i64 (wordsN (ls.take k))) (fun _ i => len - (intOf i).toNat)
  case atStart => exact ⟨0, Nat.zero_le _, rfl, rfl⟩
  case round =>
    obtain ⟨k, hk, rfl, rfl⟩ := hrel
    have hw1 := wordsN_le (ls.take k)
    have ht : (ls.take k).length ≤ len := by rw [List.length_take]; have := HN.out; omega
    have hw2 : wordsN (ls.take k) ≤ len := by omega
    clear hw1 ht
    by_cases hlt : k < len
    · obtain ⟨b, off, rfl, hck⟩ := HR.out.at k (by have := HN.out; omega)
      have HW : Hid (wordsN (ls.take (k + 1)) = wordsN (ls.take k) + if 0 < ls[k]?.getD 0 then 1 else 0) := by show _ = _; rw [take_snocI ls k (by have := HN.out; omega), wordsN_snoc]
      generalize ls[k]?.getD 0 = z at *
      generalize wordsN (ls.take k) = W at *
      by_cases hp : 0 < z
      · have HX : Hid (wordsN (ls.take (k + 1)) = W + 1) := by show _ = _; rw [HW.out, if_pos hp]
        clear HW
        go_wp2
        go_round
        case rel => exact ⟨k + 1, by omega, by go_num, by rw [HX.out]; go_num⟩
        case measure => simp [intOf]; omega
      · have HX : Hid (wordsN (ls.take (k + 1)) = W) := by show _ = _; rw [HW.out, if_neg hp]; rfl
        clear HW
        go_wp2
        go_round
        case rel => exact ⟨k + 1, by omega, by go_num, by rw [HX.out]⟩
        case measure => simp [intOf]; omega
    · have e : ls.take k = ls := List.take_of_length_le (by have := HN.out; omega)
      rw [e]
      go_wp2
      go_ret
      exact ⟨rfl, rfl⟩
end Go.Proofs.Ytjellgkojmgmjaa
