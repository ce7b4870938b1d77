/- One part more: a size, a kind, data, a sum. -/
import Derived.Test.YtpjcdfinlclhoaaGreatDoorCn9
namespace Go.Proofs.YtpjcdfinlclhoaaGreatDoor
open Go.RowKit
section
variable {B : Nat} {w : World} {p : Nat} {pre : List Int} {L : List Sn} {cur : List Int} {bg : Bool} {D D0 : List Int} {vd : Value} {g : Option Nat} {bs : List Int} {av : Option Addr} {m c : Nat}
theorem word_known {X cur ys : List Int} {s : Nat} (hX : X.length = 4) (hs : X.take s = cur) (hl : s + ys.length ≤ 4) : (wover X s ys).take (s + ys.length) = cur ++ ys := by rw [wover_take X s ys hX hl, hs]
theorem word_full {X cur ys : List Int} {s : Nat} (hX : X.length = 4) (hs : X.take s = cur) (hl : s + ys.length = 4) : wover X s ys = cur ++ ys := by
  have := word_known hX hs (by omega : s + ys.length ≤ 4)
  rw [List.take_of_length_le (by rw [wover_len X s ys hX (by omega)]; omega)] at this
  exact this
theorem st1 (hm : bs.length = m) (hm0 : 0 < m) (hbb : Bytes bs) (hrs : Rst B w p bs av c) (hok : Ok 1 cur) (hpre : Pre pre L 1 cur) (h : CR w p 1 cur bg D vd g) :
    Calls Tryz.prog 34 #[.pointer (some ⟨p, 0, none⟩), .slice av m c] w fun e w' => ∃ val er, e = .returned (.tuple #[val, .int .i64 er]) ∧ StPost B w p pre L 1 cur bg D D0 vd g bs val er w' := by
  have hsep := h.sep
  obtain ⟨X, sum, h1, h2, h3, h4, h5, h6, h7, h8⟩ := h
  obtain ⟨rfl, rfl, rfl⟩ := h8 (by omega)
  obtain ⟨hb, ⟨hh, _⟩ | ⟨_, hl⟩ | ⟨hh, _⟩ | ⟨hh, _⟩ | ⟨hh, _⟩⟩ := hok
  · cases hh
  rotate_left
  · cases hh
  · cases hh
  · cases hh
  have hX := h4 (.inl rfl)
  have hse : seV 1 cur = cur.length := by simp [seV]
  rw [hse] at h3 hX
  have hX : X.take cur.length = cur := by rw [hX]; simp [wdV]
  refine (rsize_any B cur.length hl h1 h2 bs hbb av m c hm hrs h3).mono ?_
  rintro e w' ⟨hf, N, Y, a', c', hN, hY, hr, hA, hB, hC⟩
  have hNb : N ≤ bs.length := by omega
  have hN0 : 0 < N := by omega
  have hTl : (bs.take N).length = N := by rw [List.length_take]; omega
  have hbc : Bytes (cur ++ bs.take N) := hb.app (hbb.takeC N)
  have hlc : (cur ++ bs.take N).length = cur.length + N := by rw [List.length_append, hTl]
  have hYl : Y.length = 4 := by rw [hY]; exact wover_len X _ _ h1 (by rw [hTl]; omega)
  have hYb : Bytes Y := by rw [hY]; exact wover_bytes h2 (hbb.takeC N) _
  by_cases h44 : cur.length + N = 4
  · have hYf : Y = cur ++ bs.take N := by rw [hY]; exact word_full h1 hX (by rw [hTl]; omega)
    have hcn : ((cN (cur ++ bs.take N) : Nat) : Int) = bigN Y := by rw [cN_le hbc, List.take_of_length_le (by omega), hYf]
    by_cases hv : 1048576 < bigN Y
    · obtain ⟨rfl, hcc⟩ := hB h44 hv
      refine ⟨_, _, rfl, hf.weak g, .inr ⟨rfl, ?_, .inr (.inr rfl), ⟨_, _, _, _, hcc⟩, h7.keep hf hsep⟩⟩
      have e : bs = bs.take N ++ bs.drop N := (List.take_append_drop N bs).symm
      refine hpre.bad (by omega) ?_
      rw [e, ← List.append_assoc]
      exact ps_long (by rw [List.length_append]; omega) (by rw [cN_append _ (by omega)]; omega)
    · obtain ⟨rfl, hcc⟩ := hC h44 hv
      refine ⟨_, _, rfl, hf.weak g, .inl ⟨N, a', c', rfl, rfl, hNb, hr, .inl ⟨2, cur ++ bs.take N, false, [], [], _, g, ⟨Y, sum, hYl, hYb, ?_, fun _ => ?_, (by intro hh; cases hh), (by intro hh; cases hh), h7.keep hf hsep, fun _ => ⟨rfl, rfl, rfl⟩⟩, ⟨hbc, .inr (.inr (.inl ⟨rfl, by omega, by omega, by omega⟩))⟩, hpre.more (by omega) (by omega), (by intro hh; omega), rfl, .inl rfl, ?_, fun _ => rfl⟩⟩⟩
      · have e1 : ((seV 2 (cur ++ bs.take N) : Nat) : Int) = 0 := by simp only [seV, if_true]; omega
        have e2 : ((szV 2 (cur ++ bs.take N) : Nat) : Int) = bigN Y := by simp only [szV, Nat.le_refl, if_true]; exact hcn
        rw [e1, e2]
        exact hcc
      · have e1 : seV 2 (cur ++ bs.take N) = 0 := by simp only [seV, if_true]; omega
        rw [e1]
        simp only [wdV, if_true, List.take_zero]
        rw [List.drop_eq_nil_of_le (by omega)]
      · simp only [tk]; simp; omega
  · obtain ⟨rfl, hcc⟩ := hA h44
    refine ⟨_, _, rfl, hf.weak g, .inl ⟨N, a', c', rfl, rfl, hNb, hr, .inl ⟨1, cur ++ bs.take N, false, [], [], _, g, ⟨Y, sum, hYl, hYb, ?_, fun _ => ?_, (by intro hh; cases hh), (by intro hh; cases hh), h7.keep hf hsep, fun _ => ⟨rfl, rfl, rfl⟩⟩, ⟨hbc, .inr (.inl ⟨rfl, by omega⟩)⟩, hpre.more (by omega) (by omega), (by intro hh; omega), rfl, .inl rfl, ?_, fun _ => rfl⟩⟩⟩
    · have e1 : seV 1 (cur ++ bs.take N) = cur.length + N := by simp [seV, hTl]
      rw [e1]
      exact hcc
    · have e1 : seV 1 (cur ++ bs.take N) = cur.length + (bs.take N).length := by simp [seV]
      rw [e1, hY, word_known h1 hX (by rw [hTl]; omega)]
      simp [wdV]
    · simp only [tk]; simp; omega
theorem st2 (hm : bs.length = m) (hm0 : 0 < m) (hbb : Bytes bs) (hrs : Rst B w p bs av c) (hok : Ok 2 cur) (hpre : Pre pre L 2 cur) (h : CR w p 2 cur bg D vd g) :
    Calls Tryz.prog 35 #[.pointer (some ⟨p, 0, none⟩), .slice av m c] w fun e w' => ∃ val er, e = .returned (.tuple #[val, .int .i64 er]) ∧ StPost B w p pre L 2 cur bg D D0 vd g bs val er w' := by
  have hsep := h.sep
  obtain ⟨X, sum, h1, h2, h3, h4, h5, h6, h7, h8⟩ := h
  obtain ⟨rfl, rfl, rfl⟩ := h8 (by omega)
  obtain ⟨hb, ⟨hh, _⟩ | ⟨hh, _⟩ | ⟨_, hl4, hl8, hn⟩ | ⟨hh, _⟩ | ⟨hh, _⟩⟩ := hok
  · cases hh
  · cases hh
  rotate_left
  · cases hh
  · cases hh
  have hX := h4 (.inr (.inl rfl))
  have hse : seV 2 cur = cur.length - 4 := by simp [seV]
  rw [hse] at h3 hX
  have hX : X.take (cur.length - 4) = cur.drop 4 := by rw [hX]; simp [wdV]
  have hsz : szV 2 cur = cN cur := by simp [szV]
  refine (rkind_any B (cur.length - 4) (by omega) h1 h2 bs hbb av m c hm hrs h3).mono ?_
  rintro e w' ⟨hf, N, Y, a', c', hN, hY, hr, hA, hB, hC⟩
  have hNb : N ≤ bs.length := by omega
  have hN0 : 0 < N := by omega
  have hTl : (bs.take N).length = N := by rw [List.length_take]; omega
  have hbc : Bytes (cur ++ bs.take N) := hb.app (hbb.takeC N)
  have hlc : (cur ++ bs.take N).length = cur.length + N := by rw [List.length_append, hTl]
  have hYl : Y.length = 4 := by rw [hY]; exact wover_len X _ _ h1 (by rw [hTl]; omega)
  have hYb : Bytes Y := by rw [hY]; exact wover_bytes h2 (hbb.takeC N) _
  have hcn : cN (cur ++ bs.take N) = cN cur := cN_append _ (by omega)
  have hdr : (cur ++ bs.take N).drop 4 = cur.drop 4 ++ bs.take N := List.drop_append_of_le_length (by omega)
  by_cases h44 : cur.length - 4 + N = 4
  · have hYf : Y = (cur ++ bs.take N).drop 4 := by rw [hY, hdr]; exact word_full h1 hX (by rw [hTl]; omega)
    have hck : cK (cur ++ bs.take N) = Y := by unfold cK; rw [← hYf, List.take_of_length_le (by omega)]
    cases hv : isK Y with
    | false =>
      obtain ⟨rfl, hcc⟩ := hB h44 hv
      refine ⟨_, _, rfl, hf.weak g, .inr ⟨rfl, ?_, .inl rfl, ⟨_, _, _, _, hcc⟩, h7.keep hf hsep⟩⟩
      have e : bs = bs.take N ++ bs.drop N := (List.take_append_drop N bs).symm
      refine hpre.bad (by omega) ?_
      rw [e, ← List.append_assoc]
      exact ps_kind (by rw [List.length_append]; omega) (by rw [cN_append _ (by omega)]; omega) (by rw [cK_append _ (by omega), hck]; exact hv)
    | true =>
      obtain ⟨rfl, hcc⟩ := hC h44 hv
      have hcd : cD (cur ++ bs.take N) = [] := by unfold cD; rw [List.drop_eq_nil_of_le (by omega)]; simp
      refine ⟨_, _, rfl, hf.weak g, .inl ⟨N, a', c', rfl, rfl, hNb, hr, .inl ⟨3, cur ++ bs.take N, true, [], [], _, g, ⟨Y, _, hYl, hYb, ?_, (by intro hh; omega), fun _ => by rw [← hYf], (by intro hh; cases hh), h7.keep hf hsep, (by intro hh; omega)⟩, ⟨hbc, .inr (.inr (.inr (.inl ⟨rfl, by omega, by omega, by rw [hck]; exact hv, by omega, by omega⟩)))⟩, hpre.more (by omega) (by omega), fun _ => ⟨by rw [hcd]; rfl, fun _ => rfl⟩, by simp [gx], .inl rfl, ?_, fun _ => rfl⟩⟩⟩
      · have e1 : ((seV 3 (cur ++ bs.take N) : Nat) : Int) = 0 := by simp only [seV]; simp; omega
        have e2 : szV 3 (cur ++ bs.take N) = szV 2 cur := by rw [hsz, ← hcn]; simp [szV]
        have e3 : kdV 3 (cur ++ bs.take N) = Y := by simp [kdV, hck]
        rw [e1, e2, e3]
        exact hcc
      · simp only [tk]; simp; omega
  · obtain ⟨rfl, hcc⟩ := hA h44
    refine ⟨_, _, rfl, hf.weak g, .inl ⟨N, a', c', rfl, rfl, hNb, hr, .inl ⟨2, cur ++ bs.take N, false, [], [], _, g, ⟨Y, sum, hYl, hYb, ?_, fun _ => ?_, (by intro hh; cases hh), (by intro hh; cases hh), h7.keep hf hsep, fun _ => ⟨rfl, rfl, rfl⟩⟩, ⟨hbc, .inr (.inr (.inl ⟨rfl, by omega, by omega, by omega⟩))⟩, hpre.more (by omega) (by omega), (by intro hh; omega), rfl, .inl rfl, ?_, fun _ => rfl⟩⟩⟩
    · have e1 : seV 2 (cur ++ bs.take N) = cur.length - 4 + N := by simp only [seV, if_true]; omega
      have e2 : szV 2 (cur ++ bs.take N) = szV 2 cur := by rw [hsz, ← hcn]; simp [szV]
      rw [e1, e2]
      exact hcc
    · have e1 : seV 2 (cur ++ bs.take N) = cur.length - 4 + (bs.take N).length := by rw [hTl]; simp only [seV, if_true]; omega
      rw [e1, hY, word_known h1 hX (by rw [hTl]; omega)]
      simp only [wdV, if_true, hdr]
    · simp only [tk]; simp; omega
end
end Go.Proofs.YtpjcdfinlclhoaaGreatDoor
