/- The first eight bytes; a chunk's size. -/
import Derived.Test.YtpjcdfinlclhoaaGreatDoorCn3
namespace Go.Proofs.YtpjcdfinlclhoaaGreatDoor
open Go.RowKit
def first8 : List Int := [137, 80, 78, 71, 13, 10, 26, 10]
theorem first_at (s : Nat) (hs : s < 8) (h : s < ({ data := #[137, 80, 78, 71, 13, 10, 26, 10] } : ByteArray).size) : first8[s]? = some (((({ data := #[137, 80, 78, 71, 13, 10, 26, 10] } : ByteArray)[s]'h).toNat : Int)) := by
  match s, hs with
  | 0, _ => rfl
  | 1, _ => rfl
  | 2, _ => rfl
  | 3, _ => rfl
  | 4, _ => rfl
  | 5, _ => rfl
  | 6, _ => rfl
  | 7, _ => rfl
section
variable {w : World} {p : Nat} {er sz sum : Int} {X : List Int} {kd : ByteArray} {vd : Value} {bg en : Bool}
def FiPost (B : Nat) (w : World) (p : Nat) (er : Int) (s : Nat) (X : List Int) (kd : ByteArray) (sz : Int) (vd : Value) (bg en : Bool) (sum : Int) (bs : List Int) (e : Ending) (w' : World) : Prop :=
  Fr w w' p none ∧
  (bs[0]? = first8[s]? → ∃ a' c', e = .returned (.tuple #[.slice a' (bs.length - 1) c', .int .i64 0]) ∧ Rst B w' p (bs.drop 1) a' c' ∧ CC w' p (if s + 1 = 8 then 1 else 0) er (if s + 1 = 8 then 0 else (s : Int) + 1) X kd sz vd bg en sum) ∧
  (bs[0]? ≠ first8[s]? → e = .returned (.tuple #[.slice none 0 0, .int .i64 3]) ∧ CC w' p 0 er (s : Int) X kd sz vd bg en sum)
set_option maxHeartbeats 3200000 in
set_option maxRecDepth 20000 in
theorem first_any (B s : Nat) (hs : s < 8) (bs : List Int) (av : Option Addr) (m c : Nat) (hm : bs.length = m) (hm0 : 0 < m) (hrs : Rst B w p bs av c) (h : CC w p 0 er (s : Int) X kd sz vd bg en sum) :
    Calls Tryz.prog 33 #[.pointer (some ⟨p, 0, none⟩), .slice av m c] w fun e w' => FiPost B w p er s X kd sz vd bg en sum bs e w' := by
  obtain ⟨hmc, hcm, hc0, hrow, -⟩ := id hrs
  rw [hm] at hmc
  obtain ⟨k0, k1, k2, k7, k8, k9, k10, k11, k12, fz⟩ := h.cells
  obtain ⟨b, off, rfl, hcell⟩ : ∃ b off, av = some ⟨b, off, none⟩ ∧ w.cell? ⟨b, off, none⟩ = some (.int .u8 (bs[0]?.getD 0)) := hrow.at 0 (by omega)
  obtain ⟨x, hx⟩ : ∃ x, bs[0]? = some x := ⟨_, List.getElem?_eq_getElem (by omega : 0 < bs.length)⟩
  rw [hx] at hcell
  simp only [Option.getD_some] at hcell
  have hcd : w.drew.cell? ⟨b, off, none⟩ = some (.int .u8 x) := hcell
  have HX : Hid (bs[0]? = some x) := hx
  have E : ∀ w7, CC w7 p 0 er (s : Int) X kd sz vd bg en sum → Calls Tryz.prog 50 #[.pointer (some ⟨p, 0, none⟩), .int .i64 1] (w7.setCell ⟨p, 2, none⟩ (.int .i64 ((s : Int) + 1))) fun e w' => e = .returned (.tuple #[]) ∧ CC w' p 1 er 0 X kd sz vd bg en sum ∧ Fr (w7.setCell ⟨p, 2, none⟩ (.int .i64 ((s : Int) + 1))) w' p none := fun w7 h7 => enter_any 1 (h7.set2 _)
  have hs8 : (s : Int) < 8 := by omega
  have hsz : s < ({ data := #[137, 80, 78, 71, 13, 10, 26, 10] } : ByteArray).size := hs
  have HF : Hid _ := first_at s hs hsz
  have HC : Hid (CC w.drew p 0 er (s : Int) X kd sz vd bg en sum) := h.same rfl
  have HR : Hid (Rst B w p bs (some ⟨b, off, none⟩) c) := hrs
  clear hx hrow h hrs hcell
  by_cases hq : x = ((({ data := #[137, 80, 78, 71, 13, 10, 26, 10] } : ByteArray)[s]'hsz).toNat : Int)
  · have HP : Hid (∀ w8 a' c', a' = (if c = 1 then some ⟨b, off, none⟩ else some ⟨b, off + 1, none⟩) → c' = c - 1 → Fr w w8 p none → CC w8 p (if s + 1 = 8 then 1 else 0) er (if s + 1 = 8 then 0 else (s : Int) + 1) X kd sz vd bg en sum → FiPost B w p er s X kd sz vd bg en sum bs (.returned (.tuple #[.slice a' (m - 1) c', .int .i64 0])) w8) := by
      rintro w8 a' c' rfl rfl f8 h8
      have hr := (HR.out.cut 1 (by omega)).frame f8 (by intro k hk; cases hk)
      simp only [Option.map_some, Addr.add_lit] at hr
      exact ⟨f8, fun _ => ⟨_, _, by rw [hm], hr, h8⟩, fun hn => absurd (by rw [HX.out, HF.out, hq]) hn⟩
    have q2 : (w.drew.setCell ⟨p, 2, none⟩ (.int .i64 ((s : Int) + 1))).cell? ⟨p, 2, none⟩ = some (.int .i64 ((s : Int) + 1)) := (HC.out.set2 _).cells.2.2.1
    have HF7 : Hid (Fr w (w.drew.setCell ⟨p, 2, none⟩ (.int .i64 ((s : Int) + 1))) p none) := by
      have f : Fr w.drew (w.drew.setCell ⟨p, 2, none⟩ (.int .i64 ((s : Int) + 1))) p none := Fr.set p 2 _ none
      exact ⟨f.os, f.tape, f.output, f.size, f.block⟩
    have HQ : Hid (CC (w.drew.setCell ⟨p, 2, none⟩ (.int .i64 ((s : Int) + 1))) p 0 er ((s : Int) + 1) X kd sz vd bg en sum) := HC.out.set2 _
    by_cases h7 : s + 1 = 8
    · rw [if_pos h7, if_pos h7] at HP
      have E2 := E w.drew HC.out
      have hi7 : (s : Int) + 1 = 8 := by omega
      clear E
      rw [hi7] at E2 q2 HF7
      by_cases hc1 : c = 1
      · obtain rfl : m = 1 := by omega
        obtain rfl : c = 1 := hc1
        rw [if_pos rfl] at HP
        have e0 : (1 : Nat) - 1 = 0 := rfl
        rw [e0] at HP
        go_enter Tryz.func33, Tryz.ntmps33
        go_wp2
        go_region
        go_wp2_with (go_at_call 50; refine E2.mono ?_; rintro e w1 ⟨rfl, h8, f8⟩)
        go_ret2
        exact HP.out _ _ _ rfl rfl (Fr.trans HF7.out f8 (.inl rfl)) h8
      · rw [if_neg hc1] at HP
        go_enter Tryz.func33, Tryz.ntmps33
        go_wp2
        go_region
        go_wp2_with (go_at_call 50; refine E2.mono ?_; rintro e w1 ⟨rfl, h8, f8⟩)
        go_ret2
        exact HP.out _ _ _ rfl rfl (Fr.trans HF7.out f8 (.inl rfl)) h8
    · rw [if_neg h7, if_neg h7] at HP
      have hi7 : ¬ (s : Int) + 1 = 8 := by omega
      clear E
      by_cases hc1 : c = 1
      · obtain rfl : m = 1 := by omega
        obtain rfl : c = 1 := hc1
        rw [if_pos rfl] at HP
        have e0 : (1 : Nat) - 1 = 0 := rfl
        rw [e0] at HP
        go_enter Tryz.func33, Tryz.ntmps33
        go_wp2
        go_region
        go_wp2
        go_ret2
        exact HP.out _ _ _ rfl rfl HF7.out HQ.out
      · rw [if_neg hc1] at HP
        go_enter Tryz.func33, Tryz.ntmps33
        go_wp2
        go_region
        go_wp2
        go_ret2
        exact HP.out _ _ _ rfl rfl HF7.out HQ.out
  · have HP : Hid (FiPost B w p er s X kd sz vd bg en sum bs (.returned (.tuple #[.slice none 0 0, .int .i64 3])) w.drew) :=
      ⟨⟨rfl, rfl, rfl, Nat.le_refl _, fun _ _ _ _ => rfl⟩, fun hn => absurd (by rw [HX.out, HF.out] at hn; simpa using hn) hq, fun _ => ⟨rfl, HC.out⟩⟩
    clear E
    go_enter Tryz.func33, Tryz.ntmps33
    go_wp2
    go_region
    go_wp2
    go_ret2
    exact HP.out
end
end Go.Proofs.YtpjcdfinlclhoaaGreatDoor
