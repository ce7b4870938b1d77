/- One part more: data, a sum. -/
import Derived.Test.YtpjcdfinlclhoaaGreatDoorCn10
namespace Go.Proofs.YtpjcdfinlclhoaaGreatDoor
open Go.RowKit
section
variable {B : Nat} {w : World} {p : Nat} {pre : List Int} {L : List Sn} {cur : List Int} {bg : Bool} {D D0 : List Int} {vd : Value} {g : Option Nat} {bs : List Int} {av : Option Addr} {m c : Nat}
theorem st3 (hm : bs.length = m) (hm0 : 0 < m) (hbb : Bytes bs) (hrs : Rst B w p bs av c) (hok : Ok 3 cur) (hpre : Pre pre L 3 cur) (hdv : Dv 3 cur bg D D0) (hD : D.length + m ≤ 140737488351232) (hg : ∀ k, g = some k → B ≤ k) (hnl : D = [] → vd = .slice none 0 0) (h : CR w p 3 cur bg D vd g) :
    Calls Tryz.prog 36 #[.pointer (some ⟨p, 0, none⟩), .slice av m c] w fun e w' => ∃ val, e = .returned val ∧ StPost B w p pre L 3 cur bg D D0 vd g bs val 0 w' := by
  obtain ⟨X, sum, h1, h2, h3, h4, h5, h6, h7, h8⟩ := h
  obtain ⟨hb, ⟨hh, _⟩ | ⟨hh, _⟩ | ⟨hh, _⟩ | ⟨_, hl8, hn, hk, hl, hl0⟩ | ⟨hh, _⟩⟩ := hok
  · cases hh
  · cases hh
  · cases hh
  rotate_left
  · cases hh
  have hse : seV 3 cur = cur.length - 8 := by simp [seV]
  have hsz : szV 3 cur = cN cur := by simp [szV]
  have hkd : kdV 3 cur = cK cur := by simp [kdV]
  rw [hse, hsz, hkd, h5 rfl] at h3
  obtain ⟨hcD, hbgD⟩ := hdv (Nat.le_refl _)
  refine (rdata_any B (cur.length - 8) (cN cur) (by omega) hn (crcM (BitVec.ofNat 32 0) (cur.drop 4)) bs hbb av m c hm hrs g D h7 hD hg h3).mono ?_
  rintro e w' ⟨N, vd', g', a', c', hN, rfl, hr, hcc, hsl, hg', hf, hnl'⟩
  have hnl2 : D ++ bs.take N = [] → vd' = .slice none 0 0 := fun hh => hnl' (hnl (List.append_eq_nil_iff.1 hh).1) (List.append_eq_nil_iff.1 hh).2
  have hNb : N ≤ bs.length := by omega
  have hTl : (bs.take N).length = N := by rw [List.length_take]; omega
  have hbc : Bytes (cur ++ bs.take N) := hb.app (hbb.takeC N)
  have hlc : (cur ++ bs.take N).length = cur.length + N := by rw [List.length_append, hTl]
  have hcn : cN (cur ++ bs.take N) = cN cur := cN_append _ (by omega)
  have hck : cK (cur ++ bs.take N) = cK cur := cK_append _ (by omega)
  have hdr : (cur ++ bs.take N).drop 4 = cur.drop 4 ++ bs.take N := List.drop_append_of_le_length (by omega)
  have hdr8 : (cur ++ bs.take N).drop 8 = cur.drop 8 ++ bs.take N := List.drop_append_of_le_length (by omega)
  have hcd0 : cD cur = cur.drop 8 := by unfold cD; rw [List.take_of_length_le (by rw [List.length_drop]; omega)]
  have hcd : cD (cur ++ bs.take N) = D0 ++ (D ++ bs.take N) := by
    unfold cD
    rw [hcn, List.take_of_length_le (by rw [List.length_drop, hlc]; omega), hdr8, ← hcd0, hcD, List.append_assoc]
  have hsum : crcM (crcM (BitVec.ofNat 32 0) (cur.drop 4)) (bs.take N) = crcM (BitVec.ofNat 32 0) ((cur ++ bs.take N).drop 4) := by rw [hdr, crcM_append]
  rw [hsum] at hcc
  refine ⟨_, rfl, hf, .inl ⟨N, a', c', rfl, rfl, hNb, hr, .inl ?_⟩⟩
  by_cases hE : cur.length - 8 + N = cN cur
  · rw [if_pos hE, if_pos hE] at hcc
    have e1 : seV 4 (cur ++ bs.take N) = 0 := by simp only [seV]; simp; omega
    refine ⟨4, cur ++ bs.take N, bg, D ++ bs.take N, D0, vd', g', ⟨X, ((crcM (BitVec.ofNat 32 0) ((cur ++ bs.take N).drop 4)).toNat : Int), h1, h2, ?_, fun _ => ?_, (by intro hh; cases hh), fun _ => ?_, hsl, (by intro hh; omega)⟩, ⟨hbc, .inr (.inr (.inr (.inr ⟨rfl, by omega, by omega, by omega, by rw [hck]; exact hk⟩)))⟩, hpre.more (by omega) (by omega), fun _ => ⟨hcd, hbgD⟩, by simp [gx, hck, hcn], hg', ?_, hnl2⟩
    · have e2 : szV 4 (cur ++ bs.take N) = cN cur := by simp [szV, hcn]
      have e3 : kdV 4 (cur ++ bs.take N) = cK cur := by simp [kdV, hck]
      rw [e1, e2, e3]
      exact hcc
    · rw [e1]
      simp only [wdV]
      simp
      omega
    · have e9 : ((cur ++ bs.take N).drop 4).take (4 + cN (cur ++ bs.take N)) = (cur ++ bs.take N).drop 4 := List.take_of_length_le (by rw [List.length_drop]; omega)
      unfold cW
      rw [e9]
    · simp only [tk]; simp; omega
  · rw [if_neg hE, if_neg hE] at hcc
    refine ⟨3, cur ++ bs.take N, bg, D ++ bs.take N, D0, vd', g', ⟨X, _, h1, h2, ?_, (by intro hh; omega), fun _ => rfl, (by intro hh; cases hh), hsl, (by intro hh; omega)⟩, ⟨hbc, .inr (.inr (.inr (.inl ⟨rfl, by omega, by omega, by rw [hck]; exact hk, by omega, by omega⟩)))⟩, hpre.more (by omega) (by omega), fun _ => ⟨hcd, hbgD⟩, by simp [gx, hck, hcn], hg', ?_, hnl2⟩
    · have e1 : seV 3 (cur ++ bs.take N) = cur.length - 8 + N := by simp only [seV]; simp; omega
      have e2 : szV 3 (cur ++ bs.take N) = cN cur := by simp [szV, hcn]
      have e3 : kdV 3 (cur ++ bs.take N) = cK cur := by simp [kdV, hck]
      rw [e1, e2, e3]
      exact hcc
    · simp only [tk]; simp; omega
theorem st4 (hm : bs.length = m) (hm0 : 0 < m) (hbb : Bytes bs) (hrs : Rst B w p bs av c) (hok : Ok 4 cur) (hpre : Pre pre L 4 cur) (hdv : Dv 4 cur bg D D0) (hnl : D = [] → vd = .slice none 0 0) (h : CR w p 4 cur bg D vd g) :
    Calls Tryz.prog 37 #[.pointer (some ⟨p, 0, none⟩), .slice av m c] w fun e w' => ∃ val er, e = .returned (.tuple #[val, .int .i64 er]) ∧ StPost B w p pre L 4 cur bg D D0 vd g bs val er w' := by
  have hsep := h.sep
  obtain ⟨X, sum, h1, h2, h3, h4, h5, h6, h7, h8⟩ := h
  obtain ⟨hb, ⟨hh, _⟩ | ⟨hh, _⟩ | ⟨hh, _⟩ | ⟨hh, _⟩ | ⟨_, hl8, hl12, hn, hk⟩⟩ := hok
  · cases hh
  · cases hh
  · cases hh
  · cases hh
  have hX := h4 (.inr (.inr rfl))
  have hse : seV 4 cur = cur.length - (8 + cN cur) := by simp [seV]
  have hsz : szV 4 cur = cN cur := by simp [szV]
  have hkd : kdV 4 cur = cK cur := by simp [kdV]
  rw [hse] at h3 hX
  have hX : X.take (cur.length - (8 + cN cur)) = cur.drop (8 + cN cur) := by rw [hX]; simp [wdV]
  obtain rfl := h6 rfl
  obtain ⟨hcD, hbgD⟩ := hdv (by omega)
  refine (rsum_any B (cur.length - (8 + cN cur)) (by omega) h1 h2 bs hbb av m c hm hrs h3).mono ?_
  rintro e w' ⟨hf, N, Y, a', c', hN, hY, hr, hA, hB, hC⟩
  have hNb : N ≤ bs.length := by omega
  have hN0 : 0 < N := by omega
  have hTl : (bs.take N).length = N := by rw [List.length_take]; omega
  have hbc : Bytes (cur ++ bs.take N) := hb.app (hbb.takeC N)
  have hlc : (cur ++ bs.take N).length = cur.length + N := by rw [List.length_append, hTl]
  have hYl : Y.length = 4 := by rw [hY]; exact wover_len X _ _ h1 (by rw [hTl]; omega)
  have hYb : Bytes Y := by rw [hY]; exact wover_bytes h2 (hbb.takeC N) _
  have hcn : cN (cur ++ bs.take N) = cN cur := cN_append _ (by omega)
  have hck : cK (cur ++ bs.take N) = cK cur := cK_append _ (by omega)
  have hcw : cW (cur ++ bs.take N) = cW cur := cW_append _ (by omega)
  have hcd : cD (cur ++ bs.take N) = cD cur := cD_append _ (by omega)
  have hdr : (cur ++ bs.take N).drop (8 + cN cur) = cur.drop (8 + cN cur) ++ bs.take N := List.drop_append_of_le_length (by omega)
  by_cases h44 : cur.length - (8 + cN cur) + N = 4
  · have hYf : Y = (cur ++ bs.take N).drop (8 + cN cur) := by rw [hY, hdr]; exact word_full h1 hX (by rw [hTl]; omega)
    have hcs : cS (cur ++ bs.take N) = bigN Y := by unfold cS; rw [hcn, ← hYf, List.take_of_length_le (by omega)]
    by_cases hv : bigN Y = ((cW cur).toNat : Int)
    · obtain ⟨rfl, hcc⟩ := hC h44 hv
      refine ⟨_, _, rfl, hf.weak g, .inl ⟨N, a', c', rfl, rfl, hNb, hr, .inr ⟨rfl, hN0, ⟨Y, ((cW cur).toNat : Int), hYl, hYb, ?_⟩, h7.keep hf hsep, hpre.whole (by omega) fun x => ?_⟩⟩⟩
      · rw [hkd, hsz] at hcc
        exact hcc
      · rw [ps_whole (by omega) (by rw [hck]; exact hk) (by omega) (by rw [hcs, hcw]; exact hv) x, hck, hcn, hcd]
    · obtain ⟨rfl, hcc⟩ := hB h44 hv
      refine ⟨_, _, rfl, hf.weak g, .inr ⟨rfl, ?_, .inr (.inl rfl), ⟨_, _, _, _, hcc⟩, h7.keep hf hsep⟩⟩
      have e : bs = bs.take N ++ bs.drop N := (List.take_append_drop N bs).symm
      refine hpre.bad (by omega) ?_
      rw [e, ← List.append_assoc]
      have hl' : 12 + cN (cur ++ bs.take N) ≤ (cur ++ bs.take N).length := by omega
      rw [ps_sum (by rw [cN_append _ (by omega)]; omega) (by rw [cK_append _ (by omega), hck]; exact hk) (by rw [cN_append _ (by omega), List.length_append]; omega) (by rw [cS_append _ hl', cW_append _ (by omega), hcs, hcw]; exact hv), cN_append _ (by omega), cK_append _ (by omega), cD_append _ (by omega), hck, hcn, hcd]
      simp [here]
  · obtain ⟨rfl, hcc⟩ := hA h44
    refine ⟨_, _, rfl, hf.weak g, .inl ⟨N, a', c', rfl, rfl, hNb, hr, .inl ⟨4, cur ++ bs.take N, bg, D, D0, _, g, ⟨Y, _, hYl, hYb, ?_, fun _ => ?_, (by intro hh; cases hh), fun _ => by rw [hcw], h7.keep hf hsep, (by intro hh; omega)⟩, ⟨hbc, .inr (.inr (.inr (.inr ⟨rfl, by omega, by omega, by omega, by rw [hck]; exact hk⟩)))⟩, hpre.more (by omega) (by omega), fun _ => ⟨by rw [hcd]; exact hcD, hbgD⟩, by simp [gx, hck, hcn], .inl rfl, ?_, hnl⟩⟩⟩
    · have e1 : seV 4 (cur ++ bs.take N) = cur.length - (8 + cN cur) + N := by simp only [seV]; simp; omega
      have e2 : szV 4 (cur ++ bs.take N) = szV 4 cur := by simp [szV, hcn]
      have e3 : kdV 4 (cur ++ bs.take N) = kdV 4 cur := by simp [kdV, hck]
      rw [e1, e2, e3]
      exact hcc
    · have e1 : seV 4 (cur ++ bs.take N) = cur.length - (8 + cN cur) + (bs.take N).length := by rw [hTl]; simp only [seV]; simp; omega
      rw [e1, hY, word_known h1 hX (by rw [hTl]; omega)]
      have e2 : wdV 4 (cur ++ bs.take N) = (cur ++ bs.take N).drop (8 + cN (cur ++ bs.take N)) := by simp [wdV]
      rw [e2, hcn, hdr]
    · simp only [tk]; simp; omega
end
end Go.Proofs.YtpjcdfinlclhoaaGreatDoor
