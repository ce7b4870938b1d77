import Derived.Test.YtaenojkgdlpclaaPutA
import Derived.Test.YtaenojkgdlpclaaBinM
namespace Go.Proofs.Ytaenojkgdlpclaa
open Go.RowKit

theorem Try.info3 : (Try.prog.info? 3).map (fun i => (i.zero, i.size, i.bytes)) = some (some (.int .i64 0), 1, 8) := by kernel_rfl
def ivals (l : List Int) : List Value := l.map (Value.int .i64)
theorem ivals_len (l : List Int) : (ivals l).length = l.length := by simp [ivals]
theorem ivals_append (l m : List Int) : ivals (l ++ m) = ivals l ++ ivals m := by simp [ivals]
theorem ivals_at (l : List Int) (i : Nat) (hi : i < l.length) : (ivals l)[i]? = some (.int .i64 (l[i]?.getD 0)) := by simp [ivals, hi]
theorem ivals_one (l : List Int) : ∀ u ∈ ivals l, u.oneCell' = true := by
  intro u hu
  simp only [ivals, List.mem_map] at hu
  obtain ⟨z, _, rfl⟩ := hu
  rfl
def IRow (w : World) (a : Option Addr) (l : List Int) : Prop :=
  l = [] ∨ ∃ b off, a = some ⟨b, off, none⟩ ∧ ∀ i, i < l.length → w.cell? ⟨b, off + i, none⟩ = some (.int .i64 (l[i]?.getD 0))
theorem Sl.irow {w : World} {v : Value} {g : Option Nat} {l : List Int} (h : Sl w 3 v g (ivals l)) {a : Option Addr} {n cap : Nat} (hv : v = .slice a n cap) : IRow w a l := by
  subst hv
  rcases h with ⟨_, _, h⟩ | ⟨b, off, cap', cur, h, _, hh, _, _, _, hc⟩
  · exact .inl (by simpa [ivals] using h)
  · simp only [Value.slice.injEq] at h
    obtain ⟨rfl, _, _⟩ := h
    refine .inr ⟨b, off, rfl, fun i hi => ?_⟩
    rw [← ivals_at l i hi, ← hc i (by rw [ivals_len]; exact hi)]
    simp [World.cell?, hh]
theorem inews_row {w : World} {x : Addr} {l : List Int} (h : IRow w (some x) l) : ∀ j u, (ivals l)[j]? = some u → w.cell? (x.add j) = some u := by
  intro j u hj
  rcases h with rfl | ⟨b, off, hx, hc⟩
  · simp [ivals] at hj
  · simp at hx
    subst hx
    simp only [ivals, List.getElem?_map, Option.map_eq_some_iff] at hj
    obtain ⟨z, hz, rfl⟩ := hj
    have hlt : j < l.length := by
      by_cases h : j < l.length
      · exact h
      · rw [List.getElem?_eq_none (by omega)] at hz; cases hz
    have := hc j hlt
    rw [hz] at this
    rw [Addr.add_lit]
    simpa using this
theorem two_pow_31 {n : Nat} (h : n ≤ 32) : (2 : Int) ^ n ≤ 4294967296 := by
  have := pow_le_of n 32 h
  have e : (2 : Int) ^ 32 = 4294967296 := by decide
  omega

set_option maxHeartbeats 800000 in
theorem number_any (a : Option Addr) (n cap : Nat) (l : List Int) (w : World) (hn : l.length = n) (h32 : n ≤ 32) (hb : Bit l) (hr : IRow w a l) :
    Calls Try.prog 34 #[.slice a n cap] w fun e w' => e = .returned (.int .i64 (binN l)) ∧ w' = w := by
  have HN : Hid (l.length = n) := hn
  have HB : Hid (Bit l) := hb
  have HR : Hid (IRow w a l) := hr
  clear hn hb hr
  go_enter Try.func34, Try.ntmps34
  go_wp2
  go_loop [3, 4] (fun v i => ∃ j : Nat, j ≤ n ∧ i = .int .i64 ((j : Int) - 1) ∧ v = .int .i64 (binN (l.drop j))) (fun _ i => (intOf i + 1).toNat)
  case atStart => exact ⟨n, Nat.le_refl _, by go_num, by rw [List.drop_of_length_le (by have := HN.out; omega)]; rfl⟩
  case round =>
    obtain ⟨j, hj, rfl, rfl⟩ := hrel
    cases j with
    | zero =>
      go_wp2
      go_ret
      exact ⟨rfl, rfl⟩
    | succ j =>
      rw [show ((j + 1 : Nat) : Int) - 1 = (j : Int) from by omega]
      have hbd := binN_bound (HB.out.drop (j + 1))
      have h31 := two_pow_31 (n := (l.drop (j + 1)).length) (by rw [List.length_drop]; have := HN.out; omega)
      have hx := HB.out.at j
      have HS : Hid (binN (l.drop j) = l[j]?.getD 0 + 2 * binN (l.drop (j + 1))) := binN_drop l j (by have := HN.out; omega)
      have hcell : ∃ b off, a = some ⟨b, off, none⟩ ∧ w.cell? ⟨b, off + j, none⟩ = some (.int .i64 (l[j]?.getD 0)) := by
        rcases HR.out with h | ⟨b, off, e, hc⟩
        · have := HN.out; rw [h] at this; simp at this; omega
        · exact ⟨b, off, e, hc j (by have := HN.out; omega)⟩
      obtain ⟨b, off, rfl, hck⟩ := hcell
      have hub : binN (l.drop (j + 1)) < 4294967296 := by omega
      have hlb : 0 ≤ binN (l.drop (j + 1)) := hbd.1
      clear hbd h31
      go_wp2
      go_round
      case rel => exact ⟨j, by omega, by go_num, by rw [HS.out]; go_num⟩
      case measure => simp [intOf]

def NewInts (w : World) (l : List Int) (e : Ending) (w' : World) : Prop :=
  ∃ a c g, e = .returned (.slice a l.length c) ∧ Sl w' 3 (.slice a l.length c) g (ivals l) ∧ (∀ k, g = some k → w.heap.size ≤ k) ∧ Below w.heap.size w w'
theorem i64_and1 (n : Int) : bits .and .i64 n 1 = n % 2 := by
  have h1 : (BitVec.ofInt 64 1).toNat = 2 ^ 1 - 1 := by decide
  have key : (BitVec.ofInt 64 n &&& BitVec.ofInt 64 1).toNat = (n % ((2 ^ 64 : Nat) : Int)).toNat % 2 ^ 1 := by
    rw [BitVec.toNat_and, BitVec.toNat_ofInt, h1, Nat.and_two_pow_sub_one_eq_mod]
  show IntKind.i64.wrap ((BitVec.ofInt 64 n &&& BitVec.ofInt 64 1).toNat : Nat) = n % 2
  rw [key, IntKind.wrap_i64]
  omega

/-- One int more at the end of a slice of the call's own. -/
theorem wpList_push_int {w : World} {ops : Array Oper} {rest : List Oper} {o : Oper} {a : Act} {Q : Exit → Act → World → Prop} (hgd : o.guard = none) (s x : Operand)
    (ho : o.op = .call { callee := .builtin .append, args := #[s, x], argTypes := #[28, 28] })
    (B : Nat) (w0 wr : World) (z : Int) (hw : w = wr.alloc (.cells #[.int .i64 z] 3)) (v : Value) (g : Option Nat) (l : List Int) (hs : a.eval s = v) (hsl : Sl wr 3 v g (ivals l)) (hx : a.eval x = .slice (some ⟨wr.heap.size, 0, none⟩) 1 1)
    (hlen : l.length ≤ 1000000) (hb : Below B w0 wr) (hB : B ≤ wr.heap.size) (hg : ∀ k, g = some k → B ≤ k)
    (h : ∀ v' w' g', Sl w' 3 v' g' (ivals (l ++ [z])) → (∀ k, g' = some k → B ≤ k) → Below B w0 w' → wpList Try.prog ops Q rest (a.put o.dst v') w') : wpList Try.prog ops Q (o :: rest) a w := by
  subst hw
  obtain ⟨i0, hi, hz0, hz1, hz2⟩ := info_parts Try.info3
  refine wpList_append_sl hgd s x _ ho 3 i0 (.int .i64 0) 8 Try.underlying28 hi hz0 hz1 hz2 rfl v g (ivals l) hs (hsl.same fun q hq => Below.heap_alloc wr _ q (hsl.lt hq)) ⟨wr.heap.size, 0, none⟩ 1 1 [.int .i64 z] hx rfl (cell_one_new _ _ _) (by intro y hy; simp at hy; subst hy; rfl) (by rw [ivals_len]; omega) (by rw [ivals_len]; unfold maxLen; omega) ?_
  intro v' w' g' h1 h2 h3
  refine h v' w' g' (by rw [ivals_append]; exact h1) ?_ ((hb.alloc hB _).grown h3 (by simp; omega) hg)
  intro k hk
  rcases h2 with e | ⟨q, e, hq⟩
  · exact hg k (by rw [← e]; exact hk)
  · rw [e] at hk; cases hk; simp at hq; omega

set_option maxHeartbeats 800000 in
theorem low_neg (v n : Int) (m : Nat) (w : World) (hm : clamp n = m) (h : n < 1) :
    Calls Try.prog 27 #[.int .i64 v, .int .i64 n] w fun e w' => NewInts w (lowL v m) e w' := by
  have hm32 : m ≤ 32 := by rw [← hm]; exact clamp_le n
  have HM : Hid (m = (min (max n 0) 32).toNat) := hm.symm
  obtain ⟨B, hB⟩ : ∃ B, B = w.heap.size := ⟨_, rfl⟩
  have HB : Hid (B = w.heap.size) := hB
  clear hB hm
  go_enter Try.func27, Try.ntmps27
  go_wp2
  go_loopw [0, 5, 6] (fun x o c wr => ∃ k : Nat, ∃ g, k ≤ m ∧ c = .int .i64 k ∧ x = .int .i64 (v / 2 ^ k) ∧ Sl wr 3 o g (ivals (lowL v k)) ∧ (∀ q, g = some q → B ≤ q) ∧ Below B w wr) (fun _ _ c _ => m - (intOf c).toNat)
  case atStart => exact ⟨0, none, Nat.zero_le _, rfl, by simp, Sl.nil _ _, (by intro k hk; cases hk), Below.refl _ _⟩
  case round =>
    obtain ⟨k, g, hk, rfl, rfl, hsl, hg, hbel⟩ := hrel
    by_cases hlt : k < m
    · exfalso
      have := HM.out
      omega
    · obtain rfl : k = m := by omega
      have hcmp : (0 : Int) ≤ (k : Int) := by have := HM.out; omega
      obtain ⟨a', c', hv, _⟩ := hsl.shape
      rw [ivals_len] at hv
      go_wp2
      go_ret
      unfold NewInts
      subst hv
      exact ⟨a', c', g, rfl, hsl, (by intro q hq; rw [← HB.out]; exact hg q hq), by rw [← HB.out]; exact hbel⟩
set_option maxHeartbeats 800000 in
theorem low_mid (v n : Int) (m : Nat) (w : World) (hm : clamp n = m) (h1 : 1 ≤ n) (h2 : n ≤ 32) :
    Calls Try.prog 27 #[.int .i64 v, .int .i64 n] w fun e w' => NewInts w (lowL v m) e w' := by
  have hm32 : m ≤ 32 := by rw [← hm]; exact clamp_le n
  have HM : Hid (m = (min (max n 0) 32).toNat) := hm.symm
  obtain ⟨B, hB⟩ : ∃ B, B = w.heap.size := ⟨_, rfl⟩
  have HB : Hid (B = w.heap.size) := hB
  clear hB hm
  go_enter Try.func27, Try.ntmps27
  go_wp2
  go_loopw [0, 5, 6] (fun x o c wr => ∃ k : Nat, ∃ g, k ≤ m ∧ c = .int .i64 k ∧ x = .int .i64 (v / 2 ^ k) ∧ Sl wr 3 o g (ivals (lowL v k)) ∧ (∀ q, g = some q → B ≤ q) ∧ Below B w wr) (fun _ _ c _ => m - (intOf c).toNat)
  case atStart => exact ⟨0, none, Nat.zero_le _, rfl, by simp, Sl.nil _ _, (by intro k hk; cases hk), Below.refl _ _⟩
  case round =>
    obtain ⟨k, g, hk, rfl, rfl, hsl, hg, hbel⟩ := hrel
    by_cases hlt : k < m
    · have hcmp : (k : Int) < n := by have := HM.out; omega
      have hbits : bits .and .i64 (v / 2 ^ k) 1 = v / 2 ^ k % 2 := i64_and1 _
      have HX : Hid (v / 2 ^ (k + 1) = v / 2 ^ k / 2) := by rw [ediv_pow]; rfl
      have HBs : Hid (B ≤ wr.heap.size) := (by have := hbel.size; have := HB.out; omega : B ≤ wr.heap.size)
      have HL : Hid (lowL v (k + 1) = lowL v k ++ [v / 2 ^ k % 2] ∧ (lowL v k).length ≤ 1000000) := ⟨lowL_snoc v k, by rw [lowL_len]; omega⟩
      generalize v / 2 ^ k = x at *
      go_wp2_with (at_builtin; refine wpList_push_int rfl _ _ rfl B w wr (x % 2) rfl _ g (lowL v k) rfl hsl rfl HL.out.2 hbel HBs.out hg ?_)
      intro v' w' g' hsl' hg' hbel'
      clear hsl hg hbel
      go_wp2
      go_roundw
      case rel => exact ⟨k + 1, g', by omega, by go_num, by rw [HX.out], by rw [HL.out.1]; exact hsl', hg', hbel'⟩
      case measure => simp [intOf]; omega
    · obtain rfl : k = m := by omega
      have hcmp : n ≤ (k : Int) := by have := HM.out; omega
      obtain ⟨a', c', hv, _⟩ := hsl.shape
      rw [ivals_len] at hv
      go_wp2
      go_ret
      unfold NewInts
      subst hv
      exact ⟨a', c', g, rfl, hsl, (by intro q hq; rw [← HB.out]; exact hg q hq), by rw [← HB.out]; exact hbel⟩
set_option maxHeartbeats 800000 in
theorem low_big (v n : Int) (m : Nat) (w : World) (hm : clamp n = m) (h : 32 < n) :
    Calls Try.prog 27 #[.int .i64 v, .int .i64 n] w fun e w' => NewInts w (lowL v m) e w' := by
  have hm32 : m ≤ 32 := by rw [← hm]; exact clamp_le n
  have HM : Hid (m = (min (max n 0) 32).toNat) := hm.symm
  obtain ⟨B, hB⟩ : ∃ B, B = w.heap.size := ⟨_, rfl⟩
  have HB : Hid (B = w.heap.size) := hB
  clear hB hm
  go_enter Try.func27, Try.ntmps27
  go_wp2
  go_loopw [0, 5, 6] (fun x o c wr => ∃ k : Nat, ∃ g, k ≤ m ∧ c = .int .i64 k ∧ x = .int .i64 (v / 2 ^ k) ∧ Sl wr 3 o g (ivals (lowL v k)) ∧ (∀ q, g = some q → B ≤ q) ∧ Below B w wr) (fun _ _ c _ => m - (intOf c).toNat)
  case atStart => exact ⟨0, none, Nat.zero_le _, rfl, by simp, Sl.nil _ _, (by intro k hk; cases hk), Below.refl _ _⟩
  case round =>
    obtain ⟨k, g, hk, rfl, rfl, hsl, hg, hbel⟩ := hrel
    by_cases hlt : k < m
    · have hcmp : (k : Int) < 32 := by have := HM.out; omega
      have hbits : bits .and .i64 (v / 2 ^ k) 1 = v / 2 ^ k % 2 := i64_and1 _
      have HX : Hid (v / 2 ^ (k + 1) = v / 2 ^ k / 2) := by rw [ediv_pow]; rfl
      have HBs : Hid (B ≤ wr.heap.size) := (by have := hbel.size; have := HB.out; omega : B ≤ wr.heap.size)
      have HL : Hid (lowL v (k + 1) = lowL v k ++ [v / 2 ^ k % 2] ∧ (lowL v k).length ≤ 1000000) := ⟨lowL_snoc v k, by rw [lowL_len]; omega⟩
      generalize v / 2 ^ k = x at *
      go_wp2_with (at_builtin; refine wpList_push_int rfl _ _ rfl B w wr (x % 2) rfl _ g (lowL v k) rfl hsl rfl HL.out.2 hbel HBs.out hg ?_)
      intro v' w' g' hsl' hg' hbel'
      clear hsl hg hbel
      go_wp2
      go_roundw
      case rel => exact ⟨k + 1, g', by omega, by go_num, by rw [HX.out], by rw [HL.out.1]; exact hsl', hg', hbel'⟩
      case measure => simp [intOf]; omega
    · obtain rfl : k = m := by omega
      have hcmp : (32 : Int) ≤ (k : Int) := by have := HM.out; omega
      obtain ⟨a', c', hv, _⟩ := hsl.shape
      rw [ivals_len] at hv
      go_wp2
      go_ret
      unfold NewInts
      subst hv
      exact ⟨a', c', g, rfl, hsl, (by intro q hq; rw [← HB.out]; exact hg q hq), by rw [← HB.out]; exact hbel⟩
theorem low_any (v n : Int) (w : World) : Calls Try.prog 27 #[.int .i64 v, .int .i64 n] w fun e w' => NewInts w (lowL v (clamp n)) e w' := by
  by_cases h1 : n < 1
  · exact low_neg v n _ w rfl h1
  · by_cases h2 : n ≤ 32
    · exact low_mid v n _ w rfl (by omega) h2
    · exact low_big v n _ w rfl (by omega)
end Go.Proofs.Ytaenojkgdlpclaa
