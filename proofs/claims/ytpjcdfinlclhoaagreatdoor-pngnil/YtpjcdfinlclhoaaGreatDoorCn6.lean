/- A chunk's kind and its sum, read. -/
import Derived.Test.YtpjcdfinlclhoaaGreatDoorCn5
namespace Go.Proofs.YtpjcdfinlclhoaaGreatDoor
open Go.RowKit
section
variable {w : World} {p : Nat} {er sz sum : Int} {X : List Int} {kd : ByteArray} {vd : Value} {bg en : Bool}
def KdPost (B : Nat) (w : World) (p : Nat) (er : Int) (s : Nat) (X : List Int) (kd : ByteArray) (sz : Int) (vd : Value) (bg en : Bool) (sum : Int) (bs : List Int) (e : Ending) (w' : World) : Prop :=
  Fr w w' p none ∧ ∃ N Y a' c', N = min (4 - s) bs.length ∧ Y = wover X s (bs.take N) ∧ Rst B w' p (bs.drop N) a' c' ∧
  (s + N ≠ 4 → e = .returned (.tuple #[.slice a' (bs.length - N) c', .int .i64 0]) ∧ CC w' p 2 er ((s + N : Nat) : Int) Y kd sz vd bg en sum) ∧
  (s + N = 4 → isK Y = false → e = .returned (.tuple #[.slice none 0 0, .int .i64 3]) ∧ CC w' p 2 er ((s + N : Nat) : Int) Y kd sz vd bg en sum) ∧
  (s + N = 4 → isK Y = true → e = .returned (.tuple #[.slice a' (bs.length - N) c', .int .i64 0]) ∧ CC w' p 3 er 0 Y (strOfNums Y) sz vd true en ((crcM (BitVec.ofNat 32 0) Y).toNat : Int))
def SuPost (B : Nat) (w : World) (p : Nat) (er : Int) (s : Nat) (X : List Int) (kd : ByteArray) (sz : Int) (vd : Value) (bg en : Bool) (sum : Int) (bs : List Int) (e : Ending) (w' : World) : Prop :=
  Fr w w' p none ∧ ∃ N Y a' c', N = min (4 - s) bs.length ∧ Y = wover X s (bs.take N) ∧ Rst B w' p (bs.drop N) a' c' ∧
  (s + N ≠ 4 → e = .returned (.tuple #[.slice a' (bs.length - N) c', .int .i64 0]) ∧ CC w' p 4 er ((s + N : Nat) : Int) Y kd sz vd bg en sum) ∧
  (s + N = 4 → bigN Y ≠ sum → e = .returned (.tuple #[.slice none 0 0, .int .i64 4]) ∧ CC w' p 4 er ((s + N : Nat) : Int) Y kd sz vd bg en sum) ∧
  (s + N = 4 → bigN Y = sum → e = .returned (.tuple #[.slice a' (bs.length - N) c', .int .i64 0]) ∧ CC w' p 1 er 0 Y kd sz vd bg true sum)
set_option maxHeartbeats 3200000 in
set_option maxRecDepth 20000 in
theorem rkind_any (B s : Nat) (hs : s < 4) (hX : X.length = 4) (hXb : Bytes X) (bs : List Int) (hbb : Bytes bs) (av : Option Addr) (m c : Nat) (hm : bs.length = m) (hrs : Rst B w p bs av c) (h : CC w p 2 er (s : Int) X kd sz vd bg en sum) :
    Calls Tryz.prog 35 #[.pointer (some ⟨p, 0, none⟩), .slice av m c] w fun e w' => KdPost B w p er s X kd sz vd bg en sum bs e w' := by
  have C := gather_any B s hs hX bs av m c hm hrs h
  unfold GtPost at C
  obtain ⟨N, hN⟩ : ∃ N, min (4 - s) bs.length = N := ⟨_, rfl⟩
  obtain ⟨Y, hY⟩ : ∃ Y, wover X s (bs.take N) = Y := ⟨_, rfl⟩
  rw [hN, hY, hm] at C
  have hNm : N ≤ m ∧ N ≤ 4 - s := by omega
  have hTl : (bs.take N).length = N := by rw [List.length_take]; omega
  have HY : Hid (Y.length = 4 ∧ Bytes Y) := by
    rw [← hY]
    exact ⟨wover_len X s _ hX (by rw [hTl]; omega), wover_bytes hXb (hbb.takeC N) s⟩
  obtain ⟨st, hst⟩ : ∃ st, strOfNums Y = st := ⟨_, rfl⟩
  obtain ⟨V, hV⟩ : ∃ V, ((crcM (BitVec.ofNat 32 0) Y).toNat : Int) = V := ⟨_, rfl⟩
  have HP : Hid (∀ w8 a' c' e, Fr w w8 p none → Rst B w8 p (bs.drop N) a' c' →
    (s + N ≠ 4 → e = .returned (.tuple #[.slice a' (m - N) c', .int .i64 0]) ∧ CC w8 p 2 er ((s + N : Nat) : Int) Y kd sz vd bg en sum) →
    (s + N = 4 → isK Y = false → e = .returned (.tuple #[.slice none 0 0, .int .i64 3]) ∧ CC w8 p 2 er ((s + N : Nat) : Int) Y kd sz vd bg en sum) →
    (s + N = 4 → isK Y = true → e = .returned (.tuple #[.slice a' (m - N) c', .int .i64 0]) ∧ CC w8 p 3 er 0 Y st sz vd true en V) → KdPost B w p er s X kd sz vd bg en sum bs e w8) := by
    intro w8 a' c' e f8 r8 h1 h2 h3
    exact ⟨f8, N, Y, a', c', hN.symm, hY.symm, r8, by rw [hm]; exact h1, h2, by rw [hm, hst, hV]; exact h3⟩
  have HK : Hid (∀ w8, Calls Tryz.prog 53 #[.string st] w8 fun e w' => e = .returned (.bool (isK Y)) ∧ w' = w8) := by
    intro w8
    have := kind_any st w8
    rw [← hst, kb_str HY.out.2, hst] at this
    exact this
  have HCv : Hid (∀ w8, Row w8 (some ⟨p, 3, none⟩) Y → (convert 22 9 (.slice (some ⟨p, 3, none⟩) 4 4)).run Tryz.prog w8 = .ok (.string st) w8) := by
    intro w8 hr
    rw [← hst]
    exact conv_row HY.out.1 hr
  have HOf : Hid (∀ w8 sz8, sz8 = w8.heap.size → Row w8 (some ⟨p, 3, none⟩) Y → Calls Tryz.prog 54 #[.slice (some ⟨sz8, 0, none⟩) 1 1] (w8.alloc (.cells #[.slice (some ⟨p, 3, none⟩) 4 4] 22)) fun e w' => e = .returned (.int .u32 V) ∧ w' = w8.alloc (.cells #[.slice (some ⟨p, 3, none⟩) 4 4] 22)) := by
    intro w8 s8 hs8 hr
    rw [← hV]
    exact of_one w8 s8 hs8 (some ⟨p, 3, none⟩) 4 4 Y ⟨HY.out.1, HY.out.2, Nat.le_refl _, by omega, (by intro h; cases h), hr⟩
  clear h hrs hbb hXb hX hTl hN hm hY hst hV
  by_cases h4 : s + N = 4
  · have hd : decide (s + N = 4) = true := by simp [h4]
    rw [hd] at C
    cases hk : isK Y with
    | false =>
      rw [hk] at HK HP
      go_enter Tryz.func35, Tryz.ntmps35
      go_wp2_with fail
      refine C.mono ?_
      clear C
      rintro e w7 ⟨a', c', rfl, r7, h7, f7⟩
      have HK7 := HK.out w7
      have hcv := HCv.out w7 (h7.row HY.out.1)
      obtain ⟨q0, q1, q2, q7, q8, q9, q10, q11, q12, qf⟩ := h7.cells
      have HQ : Hid (KdPost B w p er s X kd sz vd bg en sum bs (.returned (.tuple #[.slice none 0 0, .int .i64 3])) w7) := HP.out w7 a' c' _ f7 r7 (fun hh => absurd h4 hh) (fun _ _ => ⟨rfl, h7⟩) (fun _ hh => by cases hh)
      clear r7 h7 f7 HP HK HCv HOf
      go_wp2_with (go_at_call 53; refine HK7.mono ?_; rintro e w8 ⟨rfl, hw8⟩; subst hw8)
      go_ret2
      exact HQ.out
    | true =>
      rw [hk] at HK HP
      go_enter Tryz.func35, Tryz.ntmps35
      go_wp2_with fail
      refine C.mono ?_
      clear C
      rintro e w7 ⟨a', c', rfl, r7, h7, f7⟩
      have HK7 := HK.out w7
      have hcv := HCv.out w7 (h7.row HY.out.1)
      obtain ⟨q0, q1, q2, q7, q8, q9, q10, q11, q12, qf⟩ := h7.cells
      obtain ⟨w8, hw8⟩ : ∃ w8, (w7.setCell ⟨p, 7, none⟩ (.string st)).setCell ⟨p, 10, none⟩ (.bool true) = w8 := ⟨_, rfl⟩
      have h8 : CC w8 p 2 er ((s + N : Nat) : Int) Y st sz vd true en sum := by rw [← hw8]; exact (h7.set7 st).set10 true
      have f8 : Fr w7 w8 p none := by rw [← hw8]; exact ((Fr.refl _ _ _).snoc _ _).snoc _ _
      have HO8 := HOf.out w8 w8.heap.size rfl (h8.row HY.out.1)
      obtain ⟨w9, hw9⟩ : ∃ w9, w8.alloc (.cells #[.slice (some ⟨p, 3, none⟩) 4 4] 22) = w9 := ⟨_, rfl⟩
      have b9 : Below w8.heap.size w8 w9 := by rw [← hw9]; exact (Below.refl _ _).alloc (Nat.le_refl _) _
      have h9 : CC w9 p 2 er ((s + N : Nat) : Int) Y st sz vd true en sum := h8.same (b9.block _ h8.lt)
      obtain ⟨u0, u1, u2, u7, u8, u9, u10, u11, u12, uf⟩ := h9.cells
      have E := enter_any 3 (h9.set12 V)
      have HQ : Hid (∀ w10, CC w10 p 3 er 0 Y st sz vd true en V → Fr (w9.setCell ⟨p, 12, none⟩ (.int .u32 V)) w10 p none → KdPost B w p er s X kd sz vd bg en sum bs (.returned (.tuple #[.slice a' (m - N) c', .int .i64 0])) w10) := by
        intro w10 h10 f10
        have f79 : Fr w7 w9 p none := f8.trans (Fr.of_heap b9) (.inl rfl)
        have f710 : Fr w7 w10 p none := (f79.snoc 12 (.int .u32 V)).trans f10 (.inl rfl)
        exact HP.out w10 a' c' _ (f7.trans f710 (.inl rfl)) (r7.frame f710 (by intro k hk; cases hk)) (fun hh => absurd h4 hh) (fun _ hh => by cases hh) (fun _ _ => ⟨rfl, h10⟩)
      clear r7 h7 f7 HP HK HCv HOf h8 f8 b9 h9
      rw [hw9] at HO8
      go_wp2_with (first
        | (go_at_call 53; refine HK7.mono ?_; rintro e wk ⟨rfl, hwk⟩; rw [hwk]; clear hwk)
        | (go_at_call 54; refine HO8.mono ?_; rintro e w11 ⟨rfl, hw11⟩; rw [hw11]; clear hw11)
        | (go_at_call 50; refine E.mono ?_; rintro e w12 ⟨rfl, h12, f12⟩))
      go_ret2
      exact HQ.out _ h12 f12
  · have hd : decide (s + N = 4) = false := by simp [h4]
    rw [hd] at C
    go_enter Tryz.func35, Tryz.ntmps35
    go_wp2_with fail
    refine C.mono ?_
    clear C
    rintro e w7 ⟨a', c', rfl, r7, h7, f7⟩
    have HQ : Hid (KdPost B w p er s X kd sz vd bg en sum bs (.returned (.tuple #[.slice a' (m - N) c', .int .i64 0])) w7) := HP.out w7 a' c' _ f7 r7 (fun _ => ⟨rfl, h7⟩) (fun hh => absurd hh h4) (fun hh => absurd hh h4)
    clear r7 h7 f7 HP HK HCv HOf
    go_wp2
    go_ret2
    exact HQ.out
set_option maxHeartbeats 3200000 in
set_option maxRecDepth 20000 in
theorem rsum_any (B s : Nat) (hs : s < 4) (hX : X.length = 4) (hXb : Bytes X) (bs : List Int) (hbb : Bytes bs) (av : Option Addr) (m c : Nat) (hm : bs.length = m) (hrs : Rst B w p bs av c) (h : CC w p 4 er (s : Int) X kd sz vd bg en sum) :
    Calls Tryz.prog 37 #[.pointer (some ⟨p, 0, none⟩), .slice av m c] w fun e w' => SuPost B w p er s X kd sz vd bg en sum bs e w' := by
  have C := gather_any B s hs hX bs av m c hm hrs h
  unfold GtPost at C
  obtain ⟨N, hN⟩ : ∃ N, min (4 - s) bs.length = N := ⟨_, rfl⟩
  obtain ⟨Y, hY⟩ : ∃ Y, wover X s (bs.take N) = Y := ⟨_, rfl⟩
  rw [hN, hY, hm] at C
  have hNm : N ≤ m ∧ N ≤ 4 - s := by omega
  have hTl : (bs.take N).length = N := by rw [List.length_take]; omega
  have HY : Hid (Y.length = 4 ∧ Bytes Y) := by
    rw [← hY]
    exact ⟨wover_len X s _ hX (by rw [hTl]; omega), wover_bytes hXb (hbb.takeC N) s⟩
  have HP : Hid (∀ w8 a' c' e, Fr w w8 p none → Rst B w8 p (bs.drop N) a' c' →
    (s + N ≠ 4 → e = .returned (.tuple #[.slice a' (m - N) c', .int .i64 0]) ∧ CC w8 p 4 er ((s + N : Nat) : Int) Y kd sz vd bg en sum) →
    (s + N = 4 → bigN Y ≠ sum → e = .returned (.tuple #[.slice none 0 0, .int .i64 4]) ∧ CC w8 p 4 er ((s + N : Nat) : Int) Y kd sz vd bg en sum) →
    (s + N = 4 → bigN Y = sum → e = .returned (.tuple #[.slice a' (m - N) c', .int .i64 0]) ∧ CC w8 p 1 er 0 Y kd sz vd bg true sum) → SuPost B w p er s X kd sz vd bg en sum bs e w8) := by
    intro w8 a' c' e f8 r8 h1 h2 h3
    exact ⟨f8, N, Y, a', c', hN.symm, hY.symm, r8, by rw [hm]; exact h1, h2, by rw [hm]; exact h3⟩
  have hVb := bigN_le HY.out.2 (by have := HY.out.1; omega)
  clear h hrs hbb hXb hX hTl hN hm hY
  have HB : Hid (∀ w8, Row w8 (some ⟨p, 3, none⟩) Y → Calls Tryz.prog 52 #[.slice (some ⟨p, 3, none⟩) 4 4, .int .i64 0, .int .i64 4] w8 fun e w' => e = .returned (.tuple #[.int .i64 (bigN Y), .int .i64 0]) ∧ w' = w8) := fun w8 hr => big4 w8 p Y HY.out.1 HY.out.2 hr
  obtain ⟨V, hV⟩ : ∃ V, bigN Y = V := ⟨_, rfl⟩
  rw [hV] at HB HP hVb
  by_cases h4 : s + N = 4
  · have hd : decide (s + N = 4) = true := by simp [h4]
    rw [hd] at C
    by_cases hv : V = sum
    · subst hv
      go_enter Tryz.func37, Tryz.ntmps37
      go_wp2_with fail
      refine C.mono ?_
      clear C
      rintro e w7 ⟨a', c', rfl, r7, h7, f7⟩
      have HB7 := HB.out w7 (h7.row HY.out.1)
      obtain ⟨q0, q1, q2, q7, q8, q9, q10, q11, q12, qf⟩ := h7.cells
      have E := enter_any 1 (h7.set11 true)
      have HQ : Hid (∀ w9, CC w9 p 1 er 0 Y kd sz vd bg true V → Fr (w7.setCell ⟨p, 11, none⟩ (.bool true)) w9 p none → SuPost B w p er s X kd sz vd bg en V bs (.returned (.tuple #[.slice a' (m - N) c', .int .i64 0])) w9) := by
        intro w9 h9 f9
        have f79 : Fr w7 w9 p none := (Fr.set p 11 _ none).trans f9 (.inl rfl)
        exact HP.out w9 a' c' _ (f7.trans f79 (.inl rfl)) (r7.frame f79 (by intro k hk; cases hk)) (fun hh => absurd h4 hh) (fun _ hh => absurd rfl hh) (fun _ _ => ⟨rfl, h9⟩)
      clear r7 h7 f7 HP HB
      go_wp2_with (first
        | (go_at_call 52; refine HB7.mono ?_; rintro e w8 ⟨rfl, hw8⟩; subst hw8)
        | (go_at_call 50; refine E.mono ?_; rintro e w9 ⟨rfl, h9, f9⟩))
      go_ret2
      exact HQ.out _ h9 f9
    · go_enter Tryz.func37, Tryz.ntmps37
      go_wp2_with fail
      refine C.mono ?_
      clear C
      rintro e w7 ⟨a', c', rfl, r7, h7, f7⟩
      have HB7 := HB.out w7 (h7.row HY.out.1)
      obtain ⟨q0, q1, q2, q7, q8, q9, q10, q11, q12, qf⟩ := h7.cells
      have HQ : Hid (SuPost B w p er s X kd sz vd bg en sum bs (.returned (.tuple #[.slice none 0 0, .int .i64 4])) w7) := HP.out w7 a' c' _ f7 r7 (fun hh => absurd h4 hh) (fun _ _ => ⟨rfl, h7⟩) (fun _ hh => absurd hh hv)
      clear r7 h7 f7 HP HB
      go_wp2_with (go_at_call 52; refine HB7.mono ?_; rintro e w8 ⟨rfl, hw8⟩; subst hw8)
      go_ret2
      exact HQ.out
  · have hd : decide (s + N = 4) = false := by simp [h4]
    rw [hd] at C
    go_enter Tryz.func37, Tryz.ntmps37
    go_wp2_with fail
    refine C.mono ?_
    clear C
    rintro e w7 ⟨a', c', rfl, r7, h7, f7⟩
    have HQ : Hid (SuPost B w p er s X kd sz vd bg en sum bs (.returned (.tuple #[.slice a' (m - N) c', .int .i64 0])) w7) := HP.out w7 a' c' _ f7 r7 (fun _ => ⟨rfl, h7⟩) (fun hh => absurd hh h4) (fun hh => absurd hh h4)
    clear r7 h7 f7 HP HB
    go_wp2
    go_ret2
    exact HQ.out
end
end Go.Proofs.YtpjcdfinlclhoaaGreatDoor
