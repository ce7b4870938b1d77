import Derived.Test.YtjellgkojmgmjaaHiB
import Derived.Test.YtjellgkojmgmjaaMaskI
namespace Go.Proofs.Ytjellgkojmgmjaa
open Go.RowKit

set_option maxHeartbeats 1600000 in
set_option maxRecDepth 20000 in
theorem free_walk (a : Option Addr) (len cap : Nat) (w : World) (h : IArg w a len cap) :
    Calls Try.prog 6 #[.slice a len cap] w fun e w' => e = .returned (.bool true) ∧ Below w.heap.size w w' := by
  obtain ⟨ls, hl, hc, hcap, _, hrow⟩ := h
  have HR : Hid (IRow w a ls) := hrow
  have HL : Hid (ls.length = len) := hl
  clear hrow hl
  go_enter Try.func6, Try.ntmps6
  go_wp2_with fail
  refine (fixed_any _).mono ?_
  rintro e w1 ⟨rfl, hb1⟩
  have HB1 : Hid (Below w.heap.size w w1) := hb1
  clear hb1
  go_wp2_with fail
  refine (new_all a len cap ls w1 HL.out (by omega) (HR.out.old HB1.out)).mono ?_
  rintro e w2 (⟨hok, hwh, c, rfl, hcw, hco, hb2⟩ | ⟨f, hf, hno, rfl, hw2⟩)
  · have HB2 : Hid (Below w.heap.size w w2) := HB1.out.trans (hb2.mono HB1.out.size)
    have HCD : Hid (Cd (ls.map Int.toNat)) := whole_cd hok hwh
    have HE : Hid (ints (ls.map Int.toNat) = ls) := ints_toNat hok
    have HNL : Hid ((ls.map Int.toNat).length = len) := by show _ = _; rw [List.length_map]; exact HL.out
    obtain ⟨ns, hns⟩ : ∃ ns, ls.map Int.toNat = ns := ⟨_, rfl⟩
    rw [hns] at hco HCD HE HNL
    have HCO : Hid (CodeAt w2 c ns) := hco
    have HRI : Hid (IRow w a (ints ns)) := by rw [HE.out]; exact HR.out
    have hl288 : len ≤ 288 := by rw [← HNL.out]; exact HCD.out.few
    clear hns hco hcw hb2 hok hwh HB1 HR HE
    go_wp2
    go_loopw [25] (fun i wr => ∃ s : Nat, s ≤ len ∧ i = .int .i64 s ∧ Below w2.heap.size w2 wr) (fun i _ => len - (intOf i).toNat)
    case atStart => exact ⟨0, Nat.zero_le _, rfl, Below.refl _ _⟩
    case round =>
      obtain ⟨s, hs, rfl, hbel⟩ := hrel
      by_cases hlt : s < len
      · obtain ⟨b, off, ha, hck⟩ := HRI.out.at s (by rw [ints_len, HNL.out]; exact hlt)
        rw [ints_at] at hck
        subst ha
        have HBL : Hid (Below w2.heap.size w2 wr) := hbel
        clear hbel
        go_wp2_with fail
        refine (word_in c s ns wr (HCO.out.old HBL.out) HCD.out (by rw [HNL.out]; exact hlt)).mono ?_
        rintro e w3 ⟨rfl, hb3⟩
        have HB3 : Hid (Below w2.heap.size w2 w3) := HBL.out.trans (hb3.mono HBL.out.size)
        have hbw : Below w.heap.size w w3 := HB2.out.trans (HB3.out.mono HB2.out.size)
        have hck3 := (hbw.cell (p := ⟨b, off + s, none⟩) (cell_lt hck)).trans hck
        clear hb3 hbw hck HBL
        obtain ⟨A, hA⟩ : ∃ A, turn (hv ns s) (hn ns s) = A := ⟨_, rfl⟩
        obtain ⟨n, hnn⟩ : ∃ n, hn ns s = n := ⟨_, rfl⟩
        rw [hA]
        rw [hnn] at hck3 ⊢
        have HA : Hid (turn (hv ns s) (hn ns s) = A ∧ hn ns s = n) := ⟨hA, hnn⟩
        have hn15 : n ≤ 15 := by rw [← hnn]; exact HCD.out.le s
        clear hA hnn
        go_wp2
        go_loopw [41] (fun i wr => ∃ t : Nat, t ≤ s ∧ i = .int .i64 t ∧ Below w2.heap.size w2 wr) (fun i _ => s - (intOf i).toNat)
        case atStart => exact ⟨0, Nat.zero_le _, rfl, HB3.out⟩
        case round =>
          clear hck3
          obtain ⟨t, ht, rfl, hbel⟩ := hrel
          by_cases hts : t < s
          · have HBL : Hid (Below w2.heap.size w2 wr) := hbel
            clear hbel
            go_wp2_with fail
            refine (word_in c t ns wr (HCO.out.old HBL.out) HCD.out (by rw [HNL.out]; omega)).mono ?_
            rintro e w4 ⟨rfl, hb4⟩
            have HB4 : Hid (Below w2.heap.size w2 w4) := HBL.out.trans (hb4.mono HBL.out.size)
            clear hb4 HBL
            obtain ⟨B, hB⟩ : ∃ B, turn (hv ns t) (hn ns t) = B := ⟨_, rfl⟩
            obtain ⟨m, hmm⟩ : ∃ m, hn ns t = m := ⟨_, rfl⟩
            rw [hB]
            rw [hmm] at ⊢
            have hm15 : m ≤ 15 := by rw [← hmm]; exact HCD.out.le t
            obtain ⟨k, hk⟩ : ∃ k, min n m = k := ⟨_, rfl⟩
            have hkz : min (n : Int) (m : Int) = (k : Int) := by omega
            have HF : Hid (0 < k → A % 2 ^ k ≠ B % 2 ^ k) := fun h0 => by
              have := HCD.out.free (s := s) (t := t) (by omega) k (by rw [HA.out.2, hmm]; exact hk.symm) h0
              rw [HA.out.1, hB] at this
              exact this
            clear hB hmm
            by_cases h0 : 0 < k
            · have h0z : (0 : Int) < (k : Int) := by omega
              have ha1 : bits .and .i64 (A : Int) (wrap64 (wrap64 (2 ^ k) - 1)) = ((A % 2 ^ k : Nat) : Int) := by rw [want_eq _ _ (by omega)]; norm_cast
              have ha2 : bits .and .i64 (B : Int) (wrap64 (wrap64 (2 ^ k) - 1)) = ((B % 2 ^ k : Nat) : Int) := by rw [want_eq _ _ (by omega)]; norm_cast
              have hne := HF.out h0
              have hneb : ((A : Int) % 2 ^ k == (B : Int) % 2 ^ k) = false := by rw [beq_eq_false_iff_ne]; intro e; exact hne (by exact_mod_cast e)
              clear HF hne
              go_wp2
              go_roundw
              case rel => exact ⟨t + 1, by omega, by go_num, HB4.out⟩
              case measure => simp [intOf]; omega
            · have h0z : ¬ (0 : Int) < (k : Int) := by omega
              clear HF
              go_wp2
              go_roundw
              case rel => exact ⟨t + 1, by omega, by go_num, HB4.out⟩
              case measure => simp [intOf]; omega
          · obtain rfl : t = s := by omega
            have HBL : Hid (Below w2.heap.size w2 wr) := hbel
            clear hbel
            go_wp2
            go_roundw
            case rel => exact ⟨t + 1, by omega, by go_num, HBL.out⟩
            case measure => simp [intOf]; omega
      · have HBW : Hid (Below w.heap.size w wr) := HB2.out.trans (hbel.mono HB2.out.size)
        clear hbel
        go_wp2
        go_ret
        exact ⟨rfl, HBW.out⟩
  · rw [hw2]
    have hfb : (f == 0) = false := by rw [hf]; split <;> rfl
    clear hw2 hf hno
    go_wp2
    go_ret
    exact ⟨rfl, HB1.out⟩
end Go.Proofs.Ytjellgkojmgmjaa
