/- A chunk's size, read. -/
import Derived.Test.YtpjcdfinlclhoaaGreatDoorCn4
namespace Go.Proofs.YtpjcdfinlclhoaaGreatDoor
open Go.RowKit
theorem wover_bytes {X ys : List Int} (hX : Bytes X) (hy : Bytes ys) (s : Nat) : Bytes (wover X s ys) := by
  intro z hz
  unfold wover at hz
  rcases List.mem_append.1 hz with h | h
  · exact hX z (List.mem_of_mem_take h)
  · rcases List.mem_append.1 h with h | h
    · exact hy z h
    · exact hX z (List.mem_of_mem_drop h)
theorem Bytes.takeC {l : List Int} (h : Bytes l) (k : Nat) : Bytes (l.take k) := fun z hz => h z (List.mem_of_mem_take hz)
theorem big4 (w : World) (p : Nat) (Y : List Int) (hY : Y.length = 4) (hb : Bytes Y) (hr : Row w (some ⟨p, 3, none⟩) Y) : Calls Tryz.prog 52 #[.slice (some ⟨p, 3, none⟩) 4 4, .int .i64 0, .int .i64 4] w fun e w' => e = .returned (.tuple #[.int .i64 (bigN Y), .int .i64 0]) ∧ w' = w := by
  have := Big_any (some ⟨p, 3, none⟩) 4 4 0 4 Y w hY (Nat.le_refl _) (by unfold maxLen; omega) (by decide) hb hr
  have e1 : cutE Y.length 0 4 = 0 := by unfold cutE; rw [hY, if_neg (by omega), if_neg (by omega)]
  have e2 : cutL Y 0 4 = Y := by
    unfold cutL
    rw [if_pos e1]
    show (Y.drop 0).take 4 = Y
    rw [List.drop_zero, ← hY, List.take_length]
  rw [e1, e2] at this
  exact this
section
variable {w : World} {p : Nat} {er sz sum : Int} {X : List Int} {kd : ByteArray} {vd : Value} {bg en : Bool}
def SzPost (B : Nat) (w : World) (p : Nat) (er : Int) (s : Nat) (X : List Int) (kd : ByteArray) (sz : Int) (vd : Value) (bg en : Bool) (sum : Int) (bs : List Int) (e : Ending) (w' : World) : Prop :=
  Fr w w' p none ∧ ∃ N Y a' c', N = min (4 - s) bs.length ∧ Y = wover X s (bs.take N) ∧ Rst B w' p (bs.drop N) a' c' ∧
  (s + N ≠ 4 → e = .returned (.tuple #[.slice a' (bs.length - N) c', .int .i64 0]) ∧ CC w' p 1 er ((s + N : Nat) : Int) Y kd sz vd bg en sum) ∧
  (s + N = 4 → 1048576 < bigN Y → e = .returned (.tuple #[.slice none 0 0, .int .i64 9]) ∧ CC w' p 1 er ((s + N : Nat) : Int) Y kd sz vd bg en sum) ∧
  (s + N = 4 → ¬ 1048576 < bigN Y → e = .returned (.tuple #[.slice a' (bs.length - N) c', .int .i64 0]) ∧ CC w' p 2 er 0 Y kd (bigN Y) vd bg en sum)
set_option maxHeartbeats 3200000 in
set_option maxRecDepth 20000 in
theorem rsize_any (B s : Nat) (hs : s < 4) (hX : X.length = 4) (hXb : Bytes X) (bs : List Int) (hbb : Bytes bs) (av : Option Addr) (m c : Nat) (hm : bs.length = m) (hrs : Rst B w p bs av c) (h : CC w p 1 er (s : Int) X kd sz vd bg en sum) :
    Calls Tryz.prog 34 #[.pointer (some ⟨p, 0, none⟩), .slice av m c] w fun e w' => SzPost B w p er s X kd sz vd bg en sum bs e w' := by
  have C := gather_any B s hs hX bs av m c hm hrs h
  unfold GtPost at C
  obtain ⟨N, hN⟩ : ∃ N, min (4 - s) bs.length = N := ⟨_, rfl⟩
  obtain ⟨Y, hY⟩ : ∃ Y, wover X s (bs.take N) = Y := ⟨_, rfl⟩
  rw [hN, hY, hm] at C
  have hNm : N ≤ m ∧ N ≤ 4 - s := by omega
  have hTl : (bs.take N).length = N := by rw [List.length_take]; omega
  have HY : Hid (Y.length = 4 ∧ Bytes Y) := by
    rw [← hY]
    exact ⟨wover_len X s _ hX (by rw [hTl]; omega), wover_bytes hXb (hbb.takeC N) s⟩
  have HP : Hid (∀ w8 a' c' e, Fr w w8 p none → Rst B w8 p (bs.drop N) a' c' →
    (s + N ≠ 4 → e = .returned (.tuple #[.slice a' (m - N) c', .int .i64 0]) ∧ CC w8 p 1 er ((s + N : Nat) : Int) Y kd sz vd bg en sum) →
    (s + N = 4 → 1048576 < bigN Y → e = .returned (.tuple #[.slice none 0 0, .int .i64 9]) ∧ CC w8 p 1 er ((s + N : Nat) : Int) Y kd sz vd bg en sum) →
    (s + N = 4 → ¬ 1048576 < bigN Y → e = .returned (.tuple #[.slice a' (m - N) c', .int .i64 0]) ∧ CC w8 p 2 er 0 Y kd (bigN Y) vd bg en sum) → SzPost B w p er s X kd sz vd bg en sum bs e w8) := by
    intro w8 a' c' e f8 r8 h1 h2 h3
    exact ⟨f8, N, Y, a', c', hN.symm, hY.symm, r8, by rw [hm]; exact h1, h2, by rw [hm]; exact h3⟩
  clear h hrs hbb hXb hX hTl hN hm hY
  have HB : Hid (∀ w8, Row w8 (some ⟨p, 3, none⟩) Y → Calls Tryz.prog 52 #[.slice (some ⟨p, 3, none⟩) 4 4, .int .i64 0, .int .i64 4] w8 fun e w' => e = .returned (.tuple #[.int .i64 (bigN Y), .int .i64 0]) ∧ w' = w8) := fun w8 hr => big4 w8 p Y HY.out.1 HY.out.2 hr
  obtain ⟨V, hV⟩ : ∃ V, bigN Y = V := ⟨_, rfl⟩
  rw [hV] at HB HP
  by_cases h4 : s + N = 4
  · have hd : decide (s + N = 4) = true := by simp [h4]
    rw [hd] at C
    by_cases hv : 1048576 < V
    · go_enter Tryz.func34, Tryz.ntmps34
      go_wp2_with fail
      refine C.mono ?_
      clear C
      rintro e w7 ⟨a', c', rfl, r7, h7, f7⟩
      have HB7 := HB.out w7 (h7.row HY.out.1)
      obtain ⟨q0, q1, q2, q7, q8, q9, q10, q11, q12, qf⟩ := h7.cells
      have HQ : Hid (SzPost B w p er s X kd sz vd bg en sum bs (.returned (.tuple #[.slice none 0 0, .int .i64 9])) w7) := HP.out w7 a' c' (.returned (.tuple #[.slice none 0 0, .int .i64 9])) f7 r7 (fun hh => absurd h4 hh) (fun _ _ => ⟨rfl, h7⟩) (fun _ hh => by exfalso; omega)
      clear r7 h7 f7 HP HB
      go_wp2_with (go_at_call 52; refine HB7.mono ?_; rintro e w8 ⟨rfl, hw8⟩; subst hw8)
      go_ret2
      exact HQ.out
    · go_enter Tryz.func34, Tryz.ntmps34
      go_wp2_with fail
      refine C.mono ?_
      clear C
      rintro e w7 ⟨a', c', rfl, r7, h7, f7⟩
      have HB7 := HB.out w7 (h7.row HY.out.1)
      obtain ⟨q0, q1, q2, q7, q8, q9, q10, q11, q12, qf⟩ := h7.cells
      have E := enter_any 2 (h7.set8 V)
      have HQ : Hid (∀ w9, CC w9 p 2 er 0 Y kd V vd bg en sum → Fr (w7.setCell ⟨p, 8, none⟩ (.int .i64 V)) w9 p none → SzPost B w p er s X kd sz vd bg en sum bs (.returned (.tuple #[.slice a' (m - N) c', .int .i64 0])) w9) := by
        intro w9 h9 f9
        have f79 : Fr w7 w9 p none := (Fr.set p 8 _ none).trans f9 (.inl rfl)
        exact HP.out w9 a' c' _ (f7.trans f79 (.inl rfl)) (r7.frame f79 (by intro k hk; cases hk)) (fun hh => absurd h4 hh) (fun _ hh => by exfalso; omega) (fun _ _ => ⟨rfl, h9⟩)
      clear r7 h7 f7 HP HB
      go_wp2_with (first
        | (go_at_call 52; refine HB7.mono ?_; rintro e w8 ⟨rfl, hw8⟩; subst hw8)
        | (go_at_call 50; refine E.mono ?_; rintro e w9 ⟨rfl, h9, f9⟩))
      go_ret2
      exact HQ.out _ h9 f9
  · have hd : decide (s + N = 4) = false := by simp [h4]
    rw [hd] at C
    go_enter Tryz.func34, Tryz.ntmps34
    go_wp2_with fail
    refine C.mono ?_
    clear C
    rintro e w7 ⟨a', c', rfl, r7, h7, f7⟩
    have HQ : Hid (SzPost B w p er s X kd sz vd bg en sum bs (.returned (.tuple #[.slice a' (m - N) c', .int .i64 0])) w7) := HP.out w7 a' c' (.returned (.tuple #[.slice a' (m - N) c', .int .i64 0])) f7 r7 (fun _ => ⟨rfl, h7⟩) (fun hh => absurd hh h4) (fun hh => absurd hh h4)
    clear r7 h7 f7 HP HB
    go_wp2
    go_ret2
    exact HQ.out
end
end Go.Proofs.YtpjcdfinlclhoaaGreatDoor
