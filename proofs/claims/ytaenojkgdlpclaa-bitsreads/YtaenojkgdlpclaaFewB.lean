import Derived.Test.YtaenojkgdlpclaaAskB
namespace Go.Proofs.Ytaenojkgdlpclaa
open Go.RowKit

def lenS (F : Nat → Ak) : Nat → Nat
  | 0 => 0
  | i + 1 => lenS F i + (F i).z.length
theorem lenS_mono (F : Nat → Ak) (i d : Nat) : lenS F i ≤ lenS F (i + d) := by
  induction d with
  | zero => exact Nat.le_refl _
  | succ d ih => rw [← Nat.add_assoc, lenS]; omega
set_option maxHeartbeats 1600000 in
theorem few_any (a : Option Addr) (len cap : Nat) (F : Nat → Ak) (w : World) (h : AArg w a len cap F) :
    Calls Try.prog 9 #[.slice a len cap] w fun e w' => (e = .returned (.bool false) ∨ (e = .returned (.bool true) ∧ lenS F len ≤ 6000)) ∧ Below w.heap.size w w' := by
  obtain ⟨hl, hm, hF⟩ := h
  unfold maxLen at hm
  have HF : Hid (0 < len → ∃ b off, a = some ⟨b, off, none⟩ ∧ ∀ i, i < len → (w.cell? ⟨b, off + i * 3, none⟩ = some (.int .u8 (F i).k) ∧ w.cell? ⟨b, off + i * 3 + 1, none⟩ = some (.int .i64 (F i).n) ∧ w.cell? ⟨b, off + i * 3 + 2, none⟩ = some (.slice (F i).a (F i).z.length (F i).c)) ∧ AskOk w (F i)) := hF
  clear hF
  go_enter Try.func9, Try.ntmps9
  go_wp2
  go_loopw [3, 8] (fun v t wr => ∃ i : Nat, i ≤ len ∧ t = .int .i64 i ∧ v = .int .i64 (lenS F i) ∧ lenS F i ≤ 6000 ∧ Below w.heap.size w wr) (fun _ t _ => len - (intOf t).toNat)
  case atStart => exact ⟨0, Nat.zero_le _, rfl, rfl, Nat.zero_le _, Below.refl _ _⟩
  case round =>
    obtain ⟨i, hi, rfl, rfl, hs, hbel⟩ := hrel
    by_cases hlt : i < len
    · obtain ⟨b, off, hab, hc⟩ := HF.out (by omega)
      have hbw : b < w.heap.size := cell_lt (hc i hlt).1.1
      have q0 : wr.cell? ⟨b, off + i * 3, none⟩ = some (.int .u8 (F i).k) := (hbel.cell (p := ⟨b, _, none⟩) hbw).trans (hc i hlt).1.1
      have q1 : wr.cell? ⟨b, off + i * 3 + 1, none⟩ = some (.int .i64 (F i).n) := (hbel.cell (p := ⟨b, _, none⟩) hbw).trans (hc i hlt).1.2.1
      have q2 : wr.cell? ⟨b, off + i * 3 + 2, none⟩ = some (.slice (F i).a (F i).z.length (F i).c) := (hbel.cell (p := ⟨b, _, none⟩) hbw).trans (hc i hlt).1.2.2
      have hok := (hc i hlt).2
      have hzl : (F i).z.length ≤ 140737488351232 := by have := hok.2.2.2.1; have := hok.2.2.2.2.1; omega
      have HSS : Hid (lenS F (i + 1) = lenS F i + (F i).z.length) := rfl
      subst hab
      have HBL : Hid (Below w.heap.size w (wr.alloc (.cells #[.int .u8 (F i).k, .int .i64 (F i).n, .slice (F i).a (F i).z.length (F i).c] 33))) := hbel.alloc (hbel.size) _
      clear hc hok hbel
      generalize F i = f at *
      obtain ⟨fk, fn, fa, fc, fz⟩ := f
      simp only at q0 q1 q2 hzl
      have HSS' : Hid (lenS F (i + 1) = lenS F i + fz.length) := HSS.out
      have HBL' : Hid (Below w.heap.size w (wr.alloc (.cells #[.int .u8 fk, .int .i64 fn, .slice fa fz.length fc] 33))) := HBL.out
      clear HSS HBL
      generalize fz.length = zl at *
      by_cases h6 : (6000 : Int) < (lenS F i : Int) + zl
      · go_wp2
        go_ret
        exact ⟨.inl rfl, HBL'.out⟩
      · by_cases h3 : (300 : Int) < (i : Int)
        · go_wp2
          go_ret
          exact ⟨.inl rfl, HBL'.out⟩
        · go_wp2
          go_roundw
          case rel => exact ⟨i + 1, by omega, by go_num, by rw [HSS'.out]; go_num, by rw [HSS'.out]; omega, HBL'.out⟩
          case measure => simp [intOf]; omega
    · obtain rfl : i = len := by omega
      go_wp2
      go_ret
      exact ⟨.inr ⟨rfl, hs⟩, hbel⟩
end Go.Proofs.Ytaenojkgdlpclaa
