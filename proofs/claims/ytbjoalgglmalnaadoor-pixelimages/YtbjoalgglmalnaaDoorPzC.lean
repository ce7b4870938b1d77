/- A colour by the program and by the document: the same, whatever the raster and the samples. -/
import Derived.Test.YtbjoalgglmalnaaDoorPxY
import Derived.Test.YtbjoalgglmalnaaDoorPxP
import Derived.Test.YtbjoalgglmalnaaDoorPxW
import Derived.Test.YtbjoalgglmalnaaDoorPxWb
import Derived.Test.YtbjoalgglmalnaaDoorPxX
import Derived.Test.YtbjoalgglmalnaaDoorPxXb
namespace Go.Proofs.YtbjoalgglmalnaaDoor
open Go.RowKit
/-- One answer of a call of Of, from any later world. -/
def OfC (f : Nat) (w : World) (r : Rs) (la : Option Addr) (ln lc : Nat) (a b c d e : Int) : Prop :=
  ∀ u, Below w.heap.size w u → Calls Tryd.prog f #[r.V, .slice la ln lc] u fun en w' => en = .returned (.tuple #[.agg #[.int .u16 a, .int .u16 b, .int .u16 c, .int .u16 d], .int .i64 e]) ∧ Below u.heap.size u w'
theorem ckE_mh {W H C D : Int} {tn : Nat} {A K : List Int} (h : ckE W H C D tn A K = 0) : mhN C D tn A K := by
  by_cases q : mhN C D tn A K
  · exact q
  · have := ckE_may h
    unfold ckE at h; rw [if_pos this, if_neg q] at h; omega
theorem smE_len {C D : Int} {tn : Nat} {l : List Int} {px : Int} (h : smE C D tn l px = 0) : (l.length : Int) = px * spN C ∧ allB (2 ^ D.toNat) l ∧ (C = 3 → allB tn l) := by
  by_cases q : (l.length : Int) = px * spN C ∧ allB (2 ^ D.toNat) l
  · refine ⟨q.1, q.2, fun hC => ?_⟩
    by_cases q2 : allB tn l
    · exact q2
    · unfold smE at h; rw [if_pos q, if_pos ⟨hC, q2⟩] at h; omega
  · unfold smE at h; rw [if_neg q] at h; omega
theorem len1 {l : List Int} (h : l.length = 1) : ∃ a, l = [a] := by match l, h with | [a], _ => exact ⟨a, rfl⟩
theorem len2 {l : List Int} (h : l.length = 2) : ∃ a b, l = [a, b] := by match l, h with | [a, b], _ => exact ⟨a, b, rfl⟩
theorem len3 {l : List Int} (h : l.length = 3) : ∃ a b c, l = [a, b, c] := by match l, h with | [a, b, c], _ => exact ⟨a, b, c, rfl⟩
theorem len4 {l : List Int} (h : l.length = 4) : ∃ a b c d, l = [a, b, c, d] := by match l, h with | [a, b, c, d], _ => exact ⟨a, b, c, d, rfl⟩
theorem both_of (r : Rs) (A K S T : List Int) (la : Option Addr) (ln lc : Nat) (l : List Int) (w : World) (ht : Tab w) (hm : RsM w r A K S) (hti : TiM w r T) (hl : IRow w la l) (hln : l.length = ln) (hlb : ln ≤ 100000) :
    ∃ a b c d e, OfC 19 w r la ln lc a b c d e ∧ OfC 20 w r la ln lc a b c d e := by
  by_cases hk : ckE r.W r.H r.C r.D r.tn A K = 0
  · by_cases hs : smE r.C r.D r.tn l 1 = 0
    · obtain ⟨_, hdp, hCs⟩ := isPr_d (ckE_may hk).2.2.1
      obtain ⟨s1, s2, s3⟩ := smE_len hs
      have hmh := ckE_mh hk
      obtain ⟨d, hD⟩ : ∃ d : Nat, r.D = d := ⟨r.D.toNat, by unfold isDp at hdp; omega⟩
      rw [hD] at hdp
      rw [Int.one_mul] at s1
      rw [hD, Int.toNat_natCast] at s2
      have hkn := hm.kn
      rcases hCs with hC | hC | hC | hC | hC
      · -- 0
        rw [hC, show spN 0 = 1 from rfl] at s1
        obtain ⟨v0, rfl⟩ := len1 (l := l) (by omega)
        obtain rfl : ln = 1 := hln.symm
        have b0 := s2 v0 (by simp)
        have cv : ∀ u, Below w.heap.size w u → _ := fun u h => of_good r A K S la 1 lc d [v0] u (ht.old h) (hm.old h) (hl.old h) rfl (.inl hC) hD hk hs
        have e1 : ∀ cv, coN r.C (arrL d [v0] 1) cv = .agg #[.int .u16 (lvN d v0), .int .u16 (lvN d v0), .int .u16 (lvN d v0), .int .u16 cv] := fun cv => by
          unfold coN; rw [if_pos hC]; rfl
        by_cases hcn : r.cn = 0
        · have hK : K = [] := List.length_eq_zero_iff.1 (by omega)
          refine ⟨_, _, _, 65535, 0, fun u h => ?_, fun u h => rof_0_none r A K S la lc d v0 u (hm.old h) (hl.old h) hC hD hdp hk hs b0 hcn⟩
          have := cv u h
          rw [e1, show cvN K [v0] = 65535 from by unfold cvN; rw [if_neg (by rw [hK]; simp)]] at this
          exact this
        · by_cases hKl : K = [v0]
          · refine ⟨_, _, _, 0, 0, fun u h => ?_, fun u h => rof_0_same r A K S la lc d v0 u (hm.old h) (hl.old h) hC hD hdp hk hs b0 hcn hKl⟩
            have := cv u h
            rw [e1, show cvN K [v0] = 0 from by unfold cvN; rw [if_pos hKl]] at this
            exact this
          · refine ⟨_, _, _, 65535, 0, fun u h => ?_, fun u h => rof_0_unlike r A K S la lc d v0 u (hm.old h) (hl.old h) hC hD hdp hk hs b0 hcn hKl⟩
            have := cv u h
            rw [e1, show cvN K [v0] = 65535 from by unfold cvN; rw [if_neg hKl]] at this
            exact this
      · -- 2
        rw [hC, show spN 2 = 3 from rfl] at s1
        obtain ⟨v0, v1, v2, rfl⟩ := len3 (l := l) (by omega)
        obtain rfl : ln = 3 := hln.symm
        have b0 := s2 v0 (by simp)
        have b1 := s2 v1 (by simp)
        have b2 := s2 v2 (by simp)
        have cv : ∀ u, Below w.heap.size w u → _ := fun u h => of_good r A K S la 3 lc d [v0, v1, v2] u (ht.old h) (hm.old h) (hl.old h) rfl (.inr (.inl hC)) hD hk hs
        have e1 : ∀ cv, coN r.C (arrL d [v0, v1, v2] 3) cv = .agg #[.int .u16 (lvN d v0), .int .u16 (lvN d v1), .int .u16 (lvN d v2), .int .u16 cv] := fun cv => by
          unfold coN; rw [if_neg (by omega), if_neg (by omega), if_pos hC]; rfl
        by_cases hcn : r.cn = 0
        · have hK : K = [] := List.length_eq_zero_iff.1 (by omega)
          refine ⟨_, _, _, 65535, 0, fun u h => ?_, fun u h => rof_2_none r A K S la lc d v0 v1 v2 u (hm.old h) (hl.old h) hC hD hdp hk hs b0 b1 b2 hcn⟩
          have := cv u h
          rw [e1, show cvN K [v0, v1, v2] = 65535 from by unfold cvN; rw [if_neg (by rw [hK]; simp)]] at this
          exact this
        · by_cases hKl : K = [v0, v1, v2]
          · refine ⟨_, _, _, 0, 0, fun u h => ?_, fun u h => rof_2_same r A K S la lc d v0 v1 v2 u (hm.old h) (hl.old h) hC hD hdp hk hs b0 b1 b2 hcn hKl⟩
            have := cv u h
            rw [e1, show cvN K [v0, v1, v2] = 0 from by unfold cvN; rw [if_pos hKl]] at this
            exact this
          · refine ⟨_, _, _, 65535, 0, fun u h => ?_, fun u h => rof_2_unlike r A K S la lc d v0 v1 v2 u (hm.old h) (hl.old h) hC hD hdp hk hs b0 b1 b2 hcn hKl⟩
            have := cv u h
            rw [e1, show cvN K [v0, v1, v2] = 65535 from by unfold cvN; rw [if_neg hKl]] at this
            exact this
      · -- 3
        rw [hC, show spN 3 = 1 from rfl] at s1
        have s3' := s3 hC
        obtain ⟨v0, rfl⟩ := len1 (l := l) (by omega)
        obtain rfl : ln = 1 := hln.symm
        have b0 := s3' v0 (by simp)
        obtain ⟨i, rfl⟩ := Int.eq_ofNat_of_zero_le b0.1
        unfold mhN at hmh
        rw [if_pos hC] at hmh
        have hcn : r.cn = 0 := by have := hmh.2.2.2.2; omega
        refine ⟨_, _, _, _, 0, fun u h => ?_, fun u h => rof_3 r A K S la lc d i T u (hti.old h) (by omega) hmh.2.2.2.1 (hm.old h) (hl.old h) hC hD hdp hk hs hcn⟩
        exact of_good3 r A K S T la lc [(i : Int)] u (ht.old h) (hm.old h) (hti.old h) (hl.old h) hC hk hs
      · -- 4
        rw [hC, show spN 4 = 2 from rfl] at s1
        obtain ⟨v0, v1, rfl⟩ := len2 (l := l) (by omega)
        obtain rfl : ln = 2 := hln.symm
        have b0 := s2 v0 (by simp)
        have b1 := s2 v1 (by simp)
        unfold mhN at hmh
        rw [if_neg (by omega), if_neg (by omega)] at hmh
        have hcn : r.cn = 0 := by have := hmh.2.2; omega
        have e1 : ∀ cv, coN r.C (arrL d [v0, v1] 2) cv = .agg #[.int .u16 (lvN d v0), .int .u16 (lvN d v0), .int .u16 (lvN d v0), .int .u16 (lvN d v1)] := fun cv => by
          unfold coN; rw [if_neg (by omega), if_pos hC]; rfl
        refine ⟨_, _, _, _, 0, fun u h => ?_, fun u h => rof_4_none r A K S la lc d v0 v1 u (hm.old h) (hl.old h) hC hD hdp hk hs b0 b1 hcn⟩
        have := of_good r A K S la 2 lc d [v0, v1] u (ht.old h) (hm.old h) (hl.old h) rfl (.inr (.inr (.inl hC))) hD hk hs
        rw [e1] at this
        exact this
      · -- 6
        rw [hC, show spN 6 = 4 from rfl] at s1
        obtain ⟨v0, v1, v2, v3, rfl⟩ := len4 (l := l) (by omega)
        obtain rfl : ln = 4 := hln.symm
        have b0 := s2 v0 (by simp)
        have b1 := s2 v1 (by simp)
        have b2 := s2 v2 (by simp)
        have b3 := s2 v3 (by simp)
        unfold mhN at hmh
        rw [if_neg (by omega), if_neg (by omega)] at hmh
        have hcn : r.cn = 0 := by have := hmh.2.2; omega
        have e1 : ∀ cv, coN r.C (arrL d [v0, v1, v2, v3] 4) cv = .agg #[.int .u16 (lvN d v0), .int .u16 (lvN d v1), .int .u16 (lvN d v2), .int .u16 (lvN d v3)] := fun cv => by
          unfold coN; rw [if_neg (by omega), if_neg (by omega), if_neg (by omega)]; rfl
        refine ⟨_, _, _, _, 0, fun u h => ?_, fun u h => rof_6_none r A K S la lc d v0 v1 v2 v3 u (hm.old h) (hl.old h) hC hD hdp hk hs b0 b1 b2 b3 hcn⟩
        have := of_good r A K S la 4 lc d [v0, v1, v2, v3] u (ht.old h) (hm.old h) (hl.old h) rfl (.inr (.inr (.inr hC))) hD hk hs
        rw [e1] at this
        exact this
    · exact ⟨0, 0, 0, 0, _, fun u h => of_num r A K S la ln lc l u (ht.old h) (hm.old h) (hl.old h) hln (by omega) hk hs, fun u h => rof_num r A K S la ln lc l u (hm.old h) (hl.old h) hln (by omega) hk hs⟩
  · exact ⟨0, 0, 0, 0, _, fun u h => of_kind r A K S la ln lc u (ht.old h) (hm.old h) hk, fun u h => rof_kind r A K S la ln lc u (hm.old h) hk⟩
end Go.Proofs.YtbjoalgglmalnaaDoor
