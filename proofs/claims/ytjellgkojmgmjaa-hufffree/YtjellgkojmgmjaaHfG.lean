/- A symbol's word, as the program tells it. -/
import Derived.Test.YtjellgkojmgmjaaHfF
import Derived.Shelf.SlSortCmp.QuietGrown
namespace Go.Proofs.Ytjellgkojmgmjaa
open Go.RowKit

theorem Try.mixed : Try.prog.follows .mixedOrders = true := by kernel_rfl
theorem below_grow (w : World) (n : Nat) (os : Array Obj) : Below w.heap.size w (Sort.grow (w.drewN n) os) :=
  ⟨rfl, rfl, rfl, by rw [Sort.size_grow]; exact Nat.le_add_right _ _, fun k hk => Sort.heap_grow_old _ _ hk⟩
theorem turned_grown (w : World) (n : Nat) (os : Array Obj) (l b : Nat) (hl : l < 16) (hb : b < 65536) :
    Calls Try.prog 31 #[.agg #[.int .u16 l, .int .u16 b]] (Sort.grow (w.drewN n) os) fun e w' => e = .returned (.int .i64 (turn b l)) ∧ ∃ p : GrownBy, w' = Sort.grow (w.drewN p.n) p.os :=
  Calls.grown_of ((turned_any l b _ hl hb).mono fun e w' ⟨he, hw⟩ => ⟨he, 0, #[.cells #[.int .u16 l, .int .u16 b] 68], by rw [hw]; exact Sort.alloc_eq_grow _ _⟩)
set_option maxHeartbeats 800000 in
theorem word_in (c s : Nat) (ns : List Nat) (w : World) (h : CodeAt w c ns) (hc : Cd ns) (hs : s < ns.length) :
    Calls Try.prog 12 #[.pointer (some ⟨c, 0, none⟩), .int .i64 s] w fun e w' => e = .returned (.tuple #[.int .i64 (turn (hv ns s) (hn ns s)), .int .i64 (hn ns s)]) ∧ Below w.heap.size w w' := by
  obtain ⟨bw, bs, B, n1, n2, h1, _, _, h4⟩ := h
  obtain ⟨p0, p1, p2, _⟩ := three_cells h1
  obtain ⟨c0, c1⟩ := h4.cell s hs
  have hL : hn ns s ≤ 15 := hc.le s
  have hX : hv ns s < 65536 := by
    have h1 := hc.lt s
    have h2 : (2 : Nat) ^ hn ns s ≤ 2 ^ 15 := Nat.pow_le_pow_right (by omega) (hc.le s)
    omega
  have hlen := hc.few
  clear h1 h4 hc
  have mixed := Try.mixed
  have c0' : w.cell? ⟨B, s * 2, none⟩ = some (.int .u16 (hn ns s : Nat)) := c0
  have c1' : w.cell? ⟨B, s * 2 + 1, none⟩ = some (.int .u16 (hv ns s : Nat)) := c1
  clear c0 c1
  have hsz : (s : Int) < (ns.length : Int) := by omega
  generalize hn ns s = L at *
  generalize hv ns s = X at *
  have hwr : IntKind.i64.wrap (L : Int) = (L : Int) := by rw [IntKind.wrap_i64]; omega
  have HB : Hid (Below w.heap.size w (w.alloc (.cells #[.int .u16 L, .int .u16 X] 68))) := (Below.refl _ _).alloc (Nat.le_refl _) _
  have k0 : ∀ n os, (Sort.grow ((w.alloc (.cells #[.int .u16 L, .int .u16 X] 68)).drewN n) os).cell? ⟨w.heap.size, 0, none⟩ = some (.int .u16 L) := fun n os => cell_grown (by simp) (by simp) n os
  have k1 : ∀ n os, (Sort.grow ((w.alloc (.cells #[.int .u16 L, .int .u16 X] 68)).drewN n) os).cell? ⟨w.heap.size, 1, none⟩ = some (.int .u16 X) := fun n os => cell_grown (by simp) (by simp) n os
  go_enter Try.func12, Try.ntmps12
  go_wp2_with fail
  go_quiet_grown (first | (go_at_call 31; refine turned_grown _ _ _ L X (by omega) hX))
  go_wp2
  go_ret2
  exact ⟨rfl, HB.out.trans ((below_grow _ _ _).mono (by simp))⟩
set_option maxHeartbeats 800000 in
theorem word_out (c : Nat) (sym : Int) (ns : List Nat) (w : World) (h : CodeAt w c ns) (hc : Cd ns) (hs : sym < 0 ∨ (ns.length : Int) ≤ sym) :
    Calls Try.prog 12 #[.pointer (some ⟨c, 0, none⟩), .int .i64 sym] w fun e w' => e = .returned (.tuple #[.int .i64 0, .int .i64 0]) ∧ w' = w := by
  obtain ⟨bw, bs, B, n1, n2, h1, _⟩ := h
  obtain ⟨p0, p1, p2, _⟩ := three_cells h1
  have hlen := hc.few
  clear h1 hc
  by_cases h0 : sym < 0
  · clear hs
    go_enter Try.func12, Try.ntmps12
    go_wp2
    go_ret2
    exact ⟨rfl, rfl⟩
  · have h1 : (ns.length : Int) ≤ sym := by omega
    have h2 : 0 ≤ sym := by omega
    clear hs h0
    go_enter Try.func12, Try.ntmps12
    go_wp2
    go_ret2
    exact ⟨rfl, rfl⟩
set_option maxHeartbeats 800000 in
theorem word_nil (sym : Int) (w : World) :
    Calls Try.prog 12 #[.pointer none, .int .i64 sym] w fun e w' => e = .returned (.tuple #[.int .i64 0, .int .i64 0]) ∧ w' = w := by
  go_enter Try.func12, Try.ntmps12
  go_wp2
  go_ret2
  exact ⟨rfl, rfl⟩
/-- Of any symbol. -/
def wordV (ns : List Nat) (sym : Int) : Nat × Nat := if sym < 0 then (0, 0) else (turn (hv ns sym.toNat) (hn ns sym.toNat), hn ns sym.toNat)
theorem wordV_nat (ns : List Nat) (s : Nat) : wordV ns s = (turn (hv ns s) (hn ns s), hn ns s) := by unfold wordV; rw [if_neg (by omega)]; rfl
theorem word_any (c : Nat) (sym : Int) (ns : List Nat) (w : World) (h : CodeAt w c ns) (hc : Cd ns) :
    Calls Try.prog 12 #[.pointer (some ⟨c, 0, none⟩), .int .i64 sym] w fun e w' => e = .returned (.tuple #[.int .i64 (wordV ns sym).1, .int .i64 (wordV ns sym).2]) ∧ Below w.heap.size w w' := by
  by_cases h0 : sym < 0
  · refine (word_out c sym ns w h hc (.inl h0)).mono fun e w' ⟨he, hw⟩ => ⟨?_, ?_⟩
    · rw [he]; unfold wordV; rw [if_pos h0]; rfl
    · rw [hw]; exact Below.refl _ _
  · obtain ⟨s, rfl⟩ := Int.eq_ofNat_of_zero_le (show 0 ≤ sym by omega)
    rw [wordV_nat]
    by_cases hs : s < ns.length
    · exact word_in c s ns w h hc hs
    · have e1 : hn ns s = 0 := by unfold hn; rw [List.getElem?_eq_none (by omega)]; rfl
      refine (word_out c s ns w h hc (.inr (by omega))).mono fun e w' ⟨he, hw⟩ => ⟨?_, ?_⟩
      · rw [he, e1]; rfl
      · rw [hw]; exact Below.refl _ _
end Go.Proofs.Ytjellgkojmgmjaa
