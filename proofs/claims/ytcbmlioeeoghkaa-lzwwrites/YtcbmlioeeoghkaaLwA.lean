/- LZW, the document's packer: a code's bits. -/
import Derived.Test.YtcbmlioeeoghkaaLzOc
import Derived.Test.YtcbmlioeeoghkaaLzOa
namespace Go.Proofs.Ytcbmlioeeoghkaa
open Go.RowKit
theorem i64_and9 (n : Int) : bits .and .i64 n 1 = n % 2 := by
  have h1 : (BitVec.ofInt 64 1).toNat = 2 ^ 1 - 1 := by decide
  have key : (BitVec.ofInt 64 n &&& BitVec.ofInt 64 1).toNat = (n % ((2 ^ 64 : Nat) : Int)).toNat % 2 ^ 1 := by
    rw [BitVec.toNat_and, BitVec.toNat_ofInt, h1, Nat.and_two_pow_sub_one_eq_mod]
  show IntKind.i64.wrap ((BitVec.ofInt 64 n &&& BitVec.ofInt 64 1).toNat : Nat) = n % 2
  rw [key, IntKind.wrap_i64]
  omega
set_option maxHeartbeats 800000 in
theorem low_any9 (v : Int) (m : Nat) (w : World) (h1 : 1 ≤ m) (h2 : m ≤ 12) :
    Calls Try.prog 51 #[.int .i64 v, .int .i64 m] w fun e w' => NewInts w (lowL v m) e w' := by
  have hn1 : (1 : Int) ≤ (m : Int) := by omega
  have hn2 : (m : Int) ≤ 12 := by omega
  obtain ⟨B, hB⟩ : ∃ B, B = w.heap.size := ⟨_, rfl⟩
  have HB : Hid (B = w.heap.size) := hB
  clear hB
  go_enter Try.func51, Try.ntmps51
  go_wp2
  go_loopw [0, 5, 6] (fun x o c wr => ∃ k : Nat, ∃ g, k ≤ m ∧ c = .int .i64 k ∧ x = .int .i64 (v / 2 ^ k) ∧ Sl wr 3 o g (ivals (lowL v k)) ∧ (∀ q, g = some q → B ≤ q) ∧ Below B w wr) (fun _ _ c _ => m - (intOf c).toNat)
  case atStart => exact ⟨0, none, Nat.zero_le _, rfl, by simp, Sl.nil _ _, (by intro k hk; cases hk), Below.refl _ _⟩
  case round =>
    obtain ⟨k, g, hk, rfl, rfl, hsl, hg, hbel⟩ := hrel
    by_cases hlt : k < m
    · have hcmp : (k : Int) < (m : Int) := by omega
      have hbits : bits .and .i64 (v / 2 ^ k) 1 = v / 2 ^ k % 2 := i64_and9 _
      have HX : Hid (v / 2 ^ (k + 1) = v / 2 ^ k / 2) := by rw [ediv_pow]; rfl
      have HBs : Hid (B ≤ wr.heap.size) := (by have := hbel.size; have := HB.out; omega : B ≤ wr.heap.size)
      have HL : Hid (lowL v (k + 1) = lowL v k ++ [v / 2 ^ k % 2] ∧ (lowL v k).length ≤ 1000000) := ⟨lowL_snoc v k, by rw [lowL_len]; omega⟩
      generalize v / 2 ^ k = x at *
      go_wp2_with (at_builtin; refine wpList_push_int rfl _ _ rfl B w wr (x % 2) rfl _ g (lowL v k) rfl hsl rfl HL.out.2 hbel HBs.out hg ?_)
      intro v' w' g' hsl' hg' hbel'
      clear hsl hg hbel
      go_wp2
      go_roundw
      case rel => exact ⟨k + 1, g', by omega, by go_num, by rw [HX.out], by rw [HL.out.1]; exact hsl', hg', hbel'⟩
      case measure => simp [intOf]; omega
    · obtain rfl : k = m := by omega
      obtain ⟨a', c', hv, _⟩ := hsl.shape
      rw [ivals_len] at hv
      go_wp2
      go_ret
      unfold NewInts
      subst hv
      exact ⟨a', c', g, rfl, hsl, (by intro q hq; rw [← HB.out]; exact hg q hq), by rw [← HB.out]; exact hbel⟩
theorem rcode_any {L n : Nat} (c : Int) (hL : 2 ≤ L ∧ L ≤ 8) (w : World) :
    Calls Try.prog 39 #[.int .i64 c, .int .i64 L, .int .i64 n] w fun e w' => NewInts w (lowL c (widN L n)) e w' := by
  have C1 := rwidth_any (n := n) hL w
  have hW := widN_le L n hL.2
  have C2 := low_any9 c (widN L n) w (by omega) hW.2
  generalize widN L n = W at *
  clear hW
  go_enter Try.func39, Try.ntmps39
  go_wp2_with fail
  refine C1.mono ?_
  clear C1
  rintro e w' ⟨rfl, hw⟩
  subst hw
  go_wp2_with fail
  refine C2.mono ?_
  clear C2
  rintro e w1 ⟨a, cc, g, rfl, h1, h2, h3⟩
  have HP : Hid (NewInts w' (lowL c W) (.returned (.slice a (lowL c W).length cc)) w1) := ⟨a, cc, g, rfl, h1, h2, h3⟩
  clear h1 h2 h3
  go_wp2
  go_ret
  exact HP.out
/-- 'append(out, bits...)'. -/
theorem wpList_moreI {w : World} {ops : Array Oper} {rest : List Oper} {o : Oper} {a : Act} {Q : Exit → Act → World → Prop} (hgd : o.guard = none) (s x : Operand)
    (ho : o.op = .call { callee := .builtin .append, args := #[s, x], argTypes := #[56, 56] })
    (v : Value) (g : Option Nat) (zs : List Int) (hs : a.eval s = v) (hsl : Sl w 3 v g (ivals zs))
    (ad : Addr) (m c : Nat) (ys : List Int) (hx : a.eval x = .slice (some ad) m c) (hm : ys.length = m) (hr : IRow w (some ad) ys) (hlen : zs.length + m ≤ 1000000)
    (h : ∀ v' w' g', Sl w' 3 v' g' (ivals (zs ++ ys)) → (g' = g ∨ ∃ k, g' = some k ∧ w.heap.size ≤ k) → w.grownBy w' g → wpList Try.prog ops Q rest (a.put o.dst v') w') : wpList Try.prog ops Q (o :: rest) a w := by
  obtain ⟨i0, hi, hz0, hz1, hz2⟩ := info_parts Try.info3
  refine wpList_append_sl hgd s x 56 ho 3 i0 (.int .i64 0) 8 Try.underlying56 hi hz0 hz1 hz2 rfl _ _ _ hs hsl ad m c (ivals ys) hx (by rw [ivals_len]; exact hm) (inews_row hr) (ivals_one ys) (by rw [ivals_len]; omega) (by rw [ivals_len]; unfold maxLen; omega) ?_
  intro v' w' g' h1 h2 h3
  exact h v' w' g' (by rw [ivals_append]; exact h1) h2 h3
theorem Try.info9 : (Try.prog.info? 9).map (fun i => (i.zero, i.size, i.bytes)) = some (some (.string ⟨#[]⟩), 1, 16) := by kernel_rfl
/-- 'append(table, text)', a string. -/
theorem wpList_push_str {w : World} {ops : Array Oper} {rest : List Oper} {o : Oper} {a : Act} {Q : Exit → Act → World → Prop} (hgd : o.guard = none) (s x : Operand)
    (ho : o.op = .call { callee := .builtin .append, args := #[s, x], argTypes := #[77, 77] })
    (v : Value) (g : Option Nat) (vs : List Value) (hs : a.eval s = v) (hsl : Sl w 9 v g vs) (b c : Nat) (u : Value) (hx : a.eval x = .slice (some ⟨b, 0, none⟩) 1 c) (hcell : w.cell? ⟨b, 0, none⟩ = some u) (hone : u.oneCell' = true) (hlen : vs.length ≤ 1000000)
    (h : ∀ v' w' g', Sl w' 9 v' g' (vs ++ [u]) → (g' = g ∨ ∃ k, g' = some k ∧ w.heap.size ≤ k) → w.grownBy w' g → wpList Try.prog ops Q rest (a.put o.dst v') w') : wpList Try.prog ops Q (o :: rest) a w := by
  obtain ⟨i0, hi, hz0, hz1, hz2⟩ := info_parts Try.info9
  refine wpList_append_sl hgd s x 77 ho 9 i0 (.string ⟨#[]⟩) 16 Try.underlying77 hi hz0 hz1 hz2 rfl v g vs hs hsl ⟨b, 0, none⟩ 1 c [u] hx rfl ?_ (fun y hy => by simp at hy; subst hy; exact hone) (by omega) (by unfold maxLen; omega) h
  intro j y hj
  match j, hj with
  | 0, hj => simp at hj; subst hj; rw [Addr.add_lit]; simpa using hcell
end Go.Proofs.Ytcbmlioeeoghkaa
