import Derived.Test.YtaenojkgdlpclaaRefC
import Derived.Test.YtaenojkgdlpclaaBitL
import Derived.Test.YtaenojkgdlpclaaAskB
namespace Go.Proofs.Ytaenojkgdlpclaa
open Go.RowKit

set_option maxHeartbeats 1600000 in
/-- The document's bits of bytes. -/
theorem bits_any (a : Option Addr) (n cap : Nat) (zs : List Int) (w : World) (hn : zs.length = n) (hs : n ≤ 6000) (hb : Bytes zs) (hr : Row w a zs) :
    Calls Try.prog 31 #[.slice a n cap] w fun e w' => NewInts w (bitsL zs) e w' := by
  have HN : Hid (zs.length = n) := hn
  have HB : Hid (Bytes zs) := hb
  have HR : Hid (Row w a zs) := hr
  obtain ⟨B, hB⟩ : ∃ B, B = w.heap.size := ⟨_, rfl⟩
  have HBW : Hid (B = w.heap.size) := hB
  clear hn hb hr hB
  go_enter Try.func31, Try.ntmps31
  go_wp2
  go_loopw [3, 4] (fun o i wr => ∃ k : Nat, ∃ g, k ≤ n ∧ i = .int .i64 k ∧ Sl wr 3 o g (ivals (bitsL (zs.take k))) ∧ (∀ q, g = some q → B ≤ q) ∧ Below B w wr) (fun _ i _ => n - (intOf i).toNat)
  case atStart => exact ⟨0, none, by omega, rfl, Sl.nil _ _, (by intro k hk; cases hk), Below.refl _ _⟩
  case round =>
    obtain ⟨k, g, hk, rfl, hsl, hg, hbel⟩ := hrel
    by_cases hlt : k < n
    · obtain ⟨b, off, hab, hcell⟩ : ∃ b off, a = some ⟨b, off, none⟩ ∧ ∀ i, i < zs.length → w.cell? ⟨b, off + i, none⟩ = some (.int .u8 (zs[i]?.getD 0)) := by
        rcases HR.out with h | h
        · have := HN.out; rw [h] at this; simp at this; omega
        · exact h
      have hbw : b < B := by rw [HBW.out]; exact cell_lt (hcell 0 (by have := HN.out; omega))
      have hck : wr.cell? ⟨b, off + k, none⟩ = some (.int .u8 (zs[k]?.getD 0)) := by
        rw [hbel.cell (p := ⟨b, off + k, none⟩) hbw]
        exact hcell k (by have := HN.out; omega)
      have hzb := HB.out.at k
      have HTK : Hid (bitsL (zs.take (k + 1)) = bitsL (zs.take k) ++ lowL (zs[k]?.getD 0) 8 ∧ (bitsL (zs.take k)).length = 8 * k) := by
        refine ⟨?_, ?_⟩
        · have hkz : k < zs.length := by have := HN.out; omega
          rw [List.take_add_one, List.getElem?_eq_getElem hkz, bitsL_append]
          simp [bitsL]
        · rw [bitsL_len, List.length_take]; have := HN.out; omega
      have HIN : Hid (Sl wr 3 _ g (ivals (bitsL (zs.take k) ++ lowL (zs[k]?.getD 0) 0)) ∧ (∀ q, g = some q → B ≤ q) ∧ Below B w wr) := ⟨by rw [show lowL (zs[k]?.getD 0) 0 = [] from rfl, List.append_nil]; exact hsl, hg, hbel⟩
      subst hab
      clear hcell hsl hg hbel hbw
      generalize zs[k]?.getD 0 = z at *
      generalize hM : bitsL (zs.take k) = M at *
      go_wp2
      go_loopw [3, 5, 6] (fun o x c wq => ∃ j : Nat, ∃ g', j ≤ 8 ∧ c = .int .i64 j ∧ x = .int .i64 (z / 2 ^ j) ∧ Sl wq 3 o g' (ivals (M ++ lowL z j)) ∧ (∀ q, g' = some q → B ≤ q) ∧ Below B w wq) (fun _ _ c _ => 8 - (intOf c).toNat)
      case atStart => exact ⟨0, g, by omega, rfl, by simp, HIN.out⟩
      case round =>
        clear HIN hck
        obtain ⟨j, g', hj, rfl, rfl, hsl, hg, hbel⟩ := hrel
        by_cases hlt2 : j < 8
        · have hdb := div_byte z j hzb.1 hzb.2
          have HX : Hid (z / 2 ^ (j + 1) = z / 2 ^ j / 2) := by rw [ediv_pow]; rfl
          have HL : Hid (M ++ lowL z (j + 1) = M ++ lowL z j ++ [z / 2 ^ j % 2] ∧ (M ++ lowL z j).length ≤ 1000000) := ⟨by rw [lowL_snoc, List.append_assoc], by rw [List.length_append, lowL_len, HTK.out.2]; omega⟩
          have HBs : Hid (B ≤ wr.heap.size) := (by have := hbel.size; have := HBW.out; omega : B ≤ wr.heap.size)
          generalize z / 2 ^ j = x at *
          have hmod : x.tmod 2 = x % 2 := Int.tmod_eq_emod_of_nonneg hdb.1
          have hdiv : x.tdiv 2 = x / 2 := Int.tdiv_eq_ediv_of_nonneg hdb.1
          go_wp2_with (at_builtin; refine wpList_push_int rfl _ _ rfl B w wr (x % 2) rfl _ g' (M ++ lowL z j) rfl hsl rfl HL.out.2 hbel HBs.out hg ?_)
          intro v' w' g'' hsl' hg' hbel'
          clear hsl hg hbel
          go_wp2
          go_roundw
          case rel => exact ⟨j + 1, g'', by omega, by go_num, by rw [HX.out], by rw [HL.out.1, List.append_assoc]; exact hsl', hg', hbel'⟩
          case measure => simp [intOf]; omega
        · obtain rfl : j = 8 := by omega
          go_wp2
          go_roundw
          case rel => exact ⟨k + 1, g', by omega, by go_num, by rw [HTK.out.1]; exact hsl, hg, hbel⟩
          case measure => simp [intOf]; omega
    · obtain rfl : k = n := by omega
      have HTK : Hid (bitsL (zs.take k) = bitsL zs) := by rw [List.take_of_length_le (by have := HN.out; omega)]; rfl
      rw [HTK.out] at hsl
      obtain ⟨a', c', hv, _⟩ := hsl.shape
      rw [ivals_len] at hv
      go_wp2
      go_ret
      unfold NewInts
      subst hv
      exact ⟨a', c', g, rfl, hsl, (by intro q hq; rw [← HBW.out]; exact hg q hq), by rw [← HBW.out]; exact hbel⟩
end Go.Proofs.Ytaenojkgdlpclaa
