/- What is written is read as it was; no beginning of it is one: no program in it. -/
import Derived.Test.YtaodhifkbfninaaDoorScN
namespace Go.Proofs.YtaodhifkbfninaaDoor
open Go.RowKit
theorem octs2 (v : Int) : octs v 2 = [v % 256, v / 256 % 256] := by
  simp [octs, oct, List.range_succ]
theorem nm1_ok (k : Int) (r : List Int) : nm1 k (.ok (k :: r)) = .ok r := by
  unfold nm1; rw [b1_ok, if_pos rfl, bS1_ok]
theorem nmAt_ok (X : List Int) : nmAt (.ok (nmB ++ X)) 6 = .ok X := by
  show nm1 97 (nm1 57 (nm1 56 (nm1 70 (nm1 73 (nm1 71 (.ok (71 :: 73 :: 70 :: 56 :: 57 :: 97 :: X))))))) = _
  rw [nm1_ok, nm1_ok, nm1_ok, nm1_ok, nm1_ok, nm1_ok]
theorem num_back {v : Int} (h0 : 0 ≤ v) (h1 : v ≤ 2048) : v % 256 + 256 * (v / 256 % 256) = v := by omega
theorem tb_take {m : Int} {T Z : List Int} (h : tbN m = T.length) : bL (tbN m) (.ok (T ++ Z)) = T ∧ bS (tbN m) (.ok (T ++ Z)) = .ok Z := by
  have hl : ¬ (T ++ Z).length < tbN m := by rw [h, List.length_append]; omega
  rw [bL_more hl, bS_more hl, h]
  simp
theorem gRest_ext {f : Nat} {s : Scr} {C : Int} {P : List Int} : gRest (f + 1) s (.ok (33 :: 249 :: 4 :: 1 :: 0 :: 0 :: C :: 0 :: P)) = gRest f { s with C := C } (.ok P) := by
  have hb : bgo bs0 (4 :: 1 :: 0 :: 0 :: C :: 0 :: P) = ([1, 0, 0, C], ⟨0, true, 6, P⟩) := by
    rw [bgo_zero rfl rfl, bgo_succ rfl (by decide), bgo_succ rfl (by decide), bgo_succ rfl (by decide), bgo_succ rfl (by decide), bgo_zero rfl rfl, bgo_done rfl]
    rfl
  have e1 : bS 1 (.ok (33 :: 249 :: 4 :: 1 :: 0 :: 0 :: C :: 0 :: P)) = .ok (249 :: 4 :: 1 :: 0 :: 0 :: C :: 0 :: P) := bS1_ok _ _
  have e2 : bS 1 (.ok (249 :: 4 :: 1 :: 0 :: 0 :: C :: 0 :: P)) = .ok (4 :: 1 :: 0 :: 0 :: C :: 0 :: P) := bS1_ok _ _
  have e3 : bkS (.ok (4 :: 1 :: 0 :: 0 :: C :: 0 :: P)) = .ok P := by
    show (if (bgo bs0 (4 :: 1 :: 0 :: 0 :: C :: 0 :: P)).2.done = true then Except.ok (bgo bs0 (4 :: 1 :: 0 :: 0 :: C :: 0 :: P)).2.rest else .error 2) = _
    rw [hb]; rfl
  have e4 : bkT (.ok (4 :: 1 :: 0 :: 0 :: C :: 0 :: P)) = [1, 0, 0, C] := by
    show (bgo bs0 (4 :: 1 :: 0 :: 0 :: C :: 0 :: P)).1 = _
    rw [hb]
  have e5 : bkN (.ok (4 :: 1 :: 0 :: 0 :: C :: 0 :: P)) = 6 := by
    show (bgo bs0 (4 :: 1 :: 0 :: 0 :: C :: 0 :: P)).2.seen = _
    rw [hb]
  have hY : exY (.ok (249 :: 4 :: 1 :: 0 :: 0 :: C :: 0 :: P)) := ⟨b1_ok _ _, by rw [e2, e3]; rfl⟩
  have hG : exG (.ok (249 :: 4 :: 1 :: 0 :: 0 :: C :: 0 :: P)) := ⟨by rw [e2, e4]; rfl, by rw [e2, e5]⟩
  rw [gRest_33 (b1_ok _ _), e1]
  have x1 : exS (.ok (249 :: 4 :: 1 :: 0 :: 0 :: C :: 0 :: P)) = .ok P := by unfold exS; rw [if_neg (fun h => h.2 hG), e2, e3]
  have x2 : exC s.C (.ok (249 :: 4 :: 1 :: 0 :: 0 :: C :: 0 :: P)) = C := by unfold exC; rw [if_pos ⟨hY, hG⟩, e2, e4]; rfl
  rw [x1, x2]
theorem pic_back {s : Scr} {W H B : Int} {T more : List Int} {Lo La : Bool} {k : Nat} (hp : picN W H) (hk : k < 8) (hT : T.length = 3 * 2 ^ (k + 1)) (hB : 2 ≤ B ∧ B ≤ 8) (h1 : s.W = W) (h2 : s.H = H) (h3 : s.T = if Lo then [] else T) (f : Nat) :
    gRest (f + 1) s (.ok (44 :: 0 :: 0 :: 0 :: 0 :: W % 256 :: (W / 256 % 256) :: H % 256 :: (H / 256 % 256) :: pmB Lo La k :: ((if Lo then T else []) ++ B :: more))) = .ok (⟨W, H, T, Lo, s.C, La, B⟩, more) := by
  have hW := num_back (v := W) (by have := hp.1; omega) hp.2.1
  have hH := num_back (v := H) (by have := hp.2.2.1; omega) hp.2.2.2.1
  rw [gRest_44 (b1_ok _ _), bS1_ok]
  obtain ⟨Q, hQ⟩ : ∃ Q, (if Lo then T else []) ++ B :: more = Q := ⟨_, rfl⟩
  rw [hQ]
  obtain ⟨st, hst⟩ : ∃ st : St, st = .ok (0 :: 0 :: 0 :: 0 :: W % 256 :: (W / 256 % 256) :: H % 256 :: (H / 256 % 256) :: pmB Lo La k :: Q) := ⟨_, rfl⟩
  rw [← hst]
  have a1 : bS 2 st = .ok (0 :: 0 :: W % 256 :: (W / 256 % 256) :: H % 256 :: (H / 256 % 256) :: pmB Lo La k :: Q) := by rw [hst, bS2_ok]
  have a2 : bS 2 (bS 2 st) = .ok (W % 256 :: (W / 256 % 256) :: H % 256 :: (H / 256 % 256) :: pmB Lo La k :: Q) := by rw [a1, bS2_ok]
  have a3 : bS 2 (bS 2 (bS 2 st)) = .ok (H % 256 :: (H / 256 % 256) :: pmB Lo La k :: Q) := by rw [a2, bS2_ok]
  have a4 : pc8 st = .ok (pmB Lo La k :: Q) := by unfold pc8; rw [a3, bS2_ok]
  have hM : pcM st = pmB Lo La k := by unfold pcM; rw [a4, b1_ok]
  have hok : pcOk s.W s.H st := ⟨by rw [hst, l2_ok]; rfl, by rw [a1, l2_ok]; rfl, by rw [a2, l2_ok, h1]; exact hW, by rw [a3, l2_ok, h2]; exact hH⟩
  have a5 : bS 1 (pc8 st) = .ok Q := by rw [a4, bS1_ok]
  have hTn : T ≠ [] := by
    intro e
    rw [e] at hT
    have := Nat.two_pow_pos (k + 1)
    simp only [List.length_nil] at hT
    omega
  have hA : pcA s st = .ok Q := by
    unfold pcA
    rw [if_pos hok, if_neg, a5]
    rintro ⟨q1, q2⟩
    rw [hM] at q1
    rw [h3] at q2
    cases Lo with
    | true => unfold pmB at q1; cases La <;> simp at q1 <;> omega
    | false => exact hTn q2
  have hB1 : pcB s st = .ok (B :: more) ∧ pcT s st = T := by
    unfold pcB pcT
    rw [hA, hM]
    cases Lo with
    | true =>
      have h128 : 128 ≤ pmB true La k := by unfold pmB; cases La <;> simp <;> omega
      have htb : tbN (pmB true La k) = T.length := by
        unfold tbN
        rw [hT]
        have : (pmB true La k % 8).toNat = k := by unfold pmB; cases La <;> simp <;> omega
        rw [this]
      rw [if_pos h128, if_pos h128, ← hQ]
      exact ⟨(tb_take htb).2, (tb_take htb).1⟩
    | false =>
      have h128 : ¬ 128 ≤ pmB false La k := by unfold pmB; cases La <;> simp
      rw [if_neg h128, if_neg h128, ← hQ, h3]
      exact ⟨rfl, rfl⟩
  have hS : pcS s st = .ok more := by
    unfold pcS
    rw [hB1.1, b1_ok, if_pos hB, bS1_ok]
  have hV : pcV s st = ⟨W, H, T, Lo, s.C, La, B⟩ := by
    unfold pcV
    rw [hB1.2, hB1.1, b1_ok, hM, h1, h2]
    congr 1
    · unfold pmB; cases Lo <;> cases La <;> simp <;> omega
    · unfold pmB; cases Lo <;> cases La <;> simp <;> omega
  rw [hS, hV]
  rfl
theorem back_any {W H C B : Int} {T more : List Int} {Lo La : Bool} {k : Nat} (hp : picN W H) (hk : k < 8) (hT : T.length = 3 * 2 ^ (k + 1)) (hB : 2 ≤ B ∧ B ≤ 8) :
    gAll (wrL W H T Lo C La B k ++ more) = .ok (⟨W, H, T, Lo, C, La, B⟩, more) := by
  have hW := num_back (v := W) (by have := hp.1; omega) hp.2.1
  have hH := num_back (v := H) (by have := hp.2.2.1; omega) hp.2.2.2.1
  obtain ⟨PX, hPX⟩ : ∃ PX, 44 :: 0 :: 0 :: 0 :: 0 :: W % 256 :: (W / 256 % 256) :: H % 256 :: (H / 256 % 256) :: pmB Lo La k :: ((if Lo then T else []) ++ B :: more) = PX := ⟨_, rfl⟩
  obtain ⟨Z, hZ⟩ : ∃ Z, (if C = -1 then [] else [33, 249, 4, 1, 0, 0, C, 0]) ++ PX = Z := ⟨_, rfl⟩
  have hL : wrL W H T Lo C La B k ++ more = nmB ++ (W % 256 :: (W / 256 % 256) :: H % 256 :: (H / 256 % 256) :: smB Lo k :: 0 :: 0 :: ((if Lo then [] else T) ++ Z)) := by
    rw [← hZ, ← hPX]
    unfold wrL sdL
    rw [octs2, octs2]
    simp
  obtain ⟨fu, hfu⟩ : ∃ fu, (wrL W H T Lo C La B k ++ more).length + 2 = fu + 2 := ⟨_, rfl⟩
  unfold gAll
  rw [hfu, hL, nmAt_ok]
  obtain ⟨Y, hY⟩ : ∃ Y, (if Lo then [] else T) ++ Z = Y := ⟨_, rfl⟩
  rw [hY]
  obtain ⟨st, hst⟩ : ∃ st : St, st = .ok (W % 256 :: (W / 256 % 256) :: H % 256 :: (H / 256 % 256) :: smB Lo k :: 0 :: 0 :: Y) := ⟨_, rfl⟩
  rw [← hst]
  have a0 : l2 st = W := by rw [hst, l2_ok]; exact hW
  have a1 : bS 2 st = .ok (H % 256 :: (H / 256 % 256) :: smB Lo k :: 0 :: 0 :: Y) := by rw [hst, bS2_ok]
  have a2 : sdH st = H := by unfold sdH; rw [a1, l2_ok]; exact hH
  have a3 : bS 2 (bS 2 st) = .ok (smB Lo k :: 0 :: 0 :: Y) := by rw [a1, bS2_ok]
  have a4 : sdM st = smB Lo k := by unfold sdM; rw [a3, b1_ok]
  have a5 : sdA st = .ok Y := by unfold sdA; rw [a3, bS1_ok, bS2_ok]
  have a6 : sdB st = .ok Y := by unfold sdB; rw [a0, a2, if_pos hp, a5]
  have a7 : sdT st = (if Lo then [] else T) ∧ sdS st = .ok Z := by
    unfold sdT sdS
    rw [a4, a6]
    cases Lo with
    | true =>
      have h128 : ¬ 128 ≤ smB true k := by unfold smB; simp; omega
      rw [if_neg h128, if_neg h128, ← hY]
      exact ⟨rfl, rfl⟩
    | false =>
      have h128 : 128 ≤ smB false k := by unfold smB; simp; omega
      have htb : tbN (smB false k) = T.length := by
        unfold tbN
        rw [hT]
        have : (smB false k % 8).toNat = k := by unfold smB; simp; omega
        rw [this]
      rw [if_pos h128, if_pos h128, ← hY]
      exact ⟨(tb_take htb).1, (tb_take htb).2⟩
  have a8 : sdV st = ⟨W, H, if Lo then [] else T, false, -1, false, 0⟩ := by unfold sdV; rw [a0, a2, a7.1]
  rw [a8, a7.2, ← hZ]
  by_cases hC : C = -1
  · rw [if_pos hC, List.nil_append, ← hPX, hC]
    exact pic_back hp hk hT hB rfl rfl rfl _
  · rw [if_neg hC]
    show gRest (fu + 1 + 1) _ (.ok (33 :: 249 :: 4 :: 1 :: 0 :: 0 :: C :: 0 :: PX)) = _
    rw [gRest_ext, ← hPX]
    exact pic_back (s := ⟨W, H, if Lo then [] else T, false, C, false, 0⟩) hp hk hT hB rfl rfl rfl _
end Go.Proofs.YtaodhifkbfninaaDoor
