/- Blocks: what the program and the document make. -/
import Derived.Test.YtkfokfjmdkondaaBk8
namespace Go.Proofs.Ytkfokfjmdkondaa
open Go.RowKit
set_option maxHeartbeats 1600000 in
set_option maxRecDepth 100000 in
theorem bpacks_walk (a : Option Addr) (len cap : Nat) (n : Int) (w : World) (h : BArg w a len cap ∧ cap ≤ 1048576) (_ : (Lit.int .i64 n).wf = true) :
    Calls Try.prog 4 #[.slice a len cap, .int .i64 n] w fun e w' => e = .returned (.bool true) ∧ Below w.heap.size w w' := by
  obtain ⟨⟨zs, hby, hzl, hlc, _, hc0, hrow⟩, hcap⟩ := h
  have HA : Hid (Bytes zs ∧ zs.length = len ∧ (a = none → cap = 0) ∧ Row w a zs) := ⟨hby, hzl, hc0, hrow⟩
  clear hby hzl hc0 hrow
  go_enter Try.func4, Try.ntmps4
  go_wp2_with fail
  refine (bfixed_any _).mono ?_
  rintro e w1 ⟨rfl, hb1⟩
  have HB1 : Hid (Below w.heap.size w w1) := hb1
  have HR1 : Hid (Row w1 a zs) := HA.out.2.2.2.old hb1
  clear hb1
  go_wp2_with (at_builtin; refine wpList_copy rfl _ _ rfl a len cap zs rfl rfl HA.out.2.2.1 HA.out.2.1 HR1.out (by omega) ?_; intro a2 c2 w2 g2 hs2 hg2 hb2)
  have HB2 : Hid (Below w.heap.size w w2) := HB1.out.trans (hb2.mono HB1.out.size)
  have HO : Hid (Sl w2 5 (.slice a2 len c2) g2 (vals zs)) := hs2
  have HRb : Hid (Row w2 a zs) := HR1.out.old hb2
  obtain ⟨c2', _, hl1, hl2, hl3⟩ : ∃ (_ : Nat), len ≤ c2 ∧ len ≤ c2 ∧ c2 ≤ 9223372036854775807 ∧ (a2 = none → c2 = 0) := by
    obtain ⟨x, y, hv, h1, h2, h3⟩ := hs2.shape
    rw [vals_len] at hv h1
    simp only [Value.slice.injEq] at hv
    obtain ⟨rfl, h4, rfl⟩ := hv
    exact ⟨0, by omega, by omega, h2, h3⟩
  have HC : Hid (len ≤ c2 ∧ c2 ≤ 9223372036854775807 ∧ (a2 = none → c2 = 0)) := ⟨hl1, hl2, hl3⟩
  clear hs2 hg2 hb2 HB1 HR1 hl1 hl2 hl3
  by_cases hn : 1 ≤ n ∧ n ≤ 255
  · obtain ⟨N, rfl⟩ : ∃ N : Nat, n = N := ⟨n.toNat, by omega⟩
    have hN1 : 1 ≤ N := by omega
    have hN2 : N ≤ 255 := by omega
    have C1 := bpack_any zs a2 len c2 N w2 hN1 hN2 HA.out.2.1 HC.out.1 HC.out.2.1 (HO.out.row rfl) HA.out.1 (by have := HA.out; omega)
    clear hn
    go_wp2_with fail
    refine C1.mono ?_
    rintro e w3 ⟨v3, g3, rfl, hs3, hg3, hb3⟩
    have HB3 : Hid (Below w.heap.size w w3) := HB2.out.trans (hb3.mono HB2.out.size)
    have HRb3 : Hid (Row w3 a zs ∧ Row w3 a2 zs) := ⟨HRb.out.old hb3, (HO.out.row rfl).old hb3⟩
    obtain ⟨a3, c3, hv3, hl4, hl5, hl6⟩ := hs3.shape
    rw [vals_len] at hv3
    subst hv3
    have HS3 : Hid (Row w3 a3 (bpk N zs ++ [0])) := hs3.row rfl
    clear hs3 hg3 hb3 hl4 hl5 hl6 C1 HB2 HRb HO
    have C2 := rpack_any zs a len cap N w3 hN1 hN2 HA.out.2.1 hlc (by omega) HA.out.2.2.1 HRb3.out.1 (by have := HA.out; omega)
    obtain ⟨Z, hZ⟩ : ∃ Z, (bpk N zs ++ [0]).length = Z := ⟨_, rfl⟩
    have HZ : Hid ((bpk N zs ++ [0]).length = Z) := hZ
    rw [hZ]
    clear hZ
    go_wp2_with fail
    refine C2.mono ?_
    rintro e w4 ⟨v4, g4, rfl, hs4, hg4, hb4⟩
    have HB4 : Hid (Below w.heap.size w w4) := HB3.out.trans (hb4.mono HB3.out.size)
    have HRb4 : Hid (Row w4 a zs ∧ Row w4 a2 zs) := ⟨HRb3.out.1.old hb4, HRb3.out.2.old hb4⟩
    obtain ⟨a4, c4, hv4, hl4, hl5, hl6⟩ := hs4.shape
    rw [vals_len, HZ.out] at hv4
    subst hv4
    have HS4 : Hid (Row w4 a3 (bpk N zs ++ [0]) ∧ Row w4 a4 (bpk N zs ++ [0])) := ⟨HS3.out.old hb4, hs4.row rfl⟩
    clear hs4 hg4 hb4 hl4 hl5 hl6 C2 HB3 HRb3 HS3
    have C3 := same_any a3 a4 Z c3 c4 _ w4 HZ.out HS4.out.1 HS4.out.2
    have C4 := same_any a2 a len c2 cap zs w4 HA.out.2.1 HRb4.out.2 HRb4.out.1
    go_wp2_with fail
    refine C3.mono ?_
    rintro e w5 ⟨rfl, hw5⟩
    rw [hw5]
    clear hw5 C3
    go_wp2_with fail
    refine C4.mono ?_
    rintro e w6 ⟨rfl, hw6⟩
    rw [hw6]
    clear hw6 C4
    go_wp2
    go_ret
    exact ⟨rfl, HB4.out⟩
  · have hn' : n < 1 ∨ 255 < n := by omega
    have C1 := fun w => bpack_no (.slice a2 len c2) n hn' w
    have C2 := fun w => rpack_no (.slice a len cap) n hn' w
    clear hn hn'
    go_wp2_with fail
    refine (C1 w2).mono ?_
    rintro e w3 ⟨rfl, hw3⟩
    rw [hw3]
    clear hw3 C1
    go_wp2_with fail
    refine (C2 w2).mono ?_
    rintro e w3 ⟨rfl, hw3⟩
    rw [hw3]
    clear hw3 C2
    have C3 := same_any none none 0 0 0 [] w2 rfl (.inl rfl) (.inl rfl)
    have C4 := same_any a2 a len c2 cap zs w2 HA.out.2.1 (HO.out.row rfl) HRb.out
    go_wp2_with fail
    refine C3.mono ?_
    rintro e w5 ⟨rfl, hw5⟩
    rw [hw5]
    clear hw5 C3
    go_wp2_with fail
    refine C4.mono ?_
    rintro e w6 ⟨rfl, hw6⟩
    rw [hw6]
    clear hw6 C4
    go_wp2
    go_ret
    exact ⟨rfl, HB2.out⟩
end Go.Proofs.Ytkfokfjmdkondaa
