/- LZW: what is packed is told: the packer beside the decoder (plain). -/
import Derived.Test.YtcbmlioeeoghkaaLzBk
namespace Go.Proofs.Ytcbmlioeeoghkaa
open Go.RowKit
/-- The packer's table beside the decoder's. -/
structure RelP (L : Nat) (fs : List Tx) (wn : Nat) (b : List Int) (fd : List Tx) (ah : Int) : Prop where
  wf : WfT L fd
  ln : fd.length = min (wn - 1) (4096 - fcN L)
  z : wn = 0 → fs = [] ∧ fd = [] ∧ ah = -1
  p : 0 < wn → ∃ (A : Nat) (y : Int) (b' : List Int), ah = (A : Int) ∧ A < fcN L + fd.length ∧ b = y :: b' ∧ fs = lrnP L fd A y
theorem lrnP_wf {L : Nat} {fd : List Tx} {A : Nat} {y : Int} (hwf : WfT L fd) (hA : A < fcN L + fd.length) (hy : 0 ≤ y ∧ y < 256) : WfT L (lrnP L fd A y) := by
  unfold lrnP
  split
  · exact hwf.push hA hy
  · exact hwf
theorem RelP.table {L : Nat} {fs : List Tx} {wn : Nat} {b : List Int} {fd : List Tx} {ah : Int} (h : RelP L fs wn b fd ah) (hby : ∀ v ∈ b, 0 ≤ v ∧ v < 256) : WfT L fs ∧ fs.length = min wn (4096 - fcN L) := by
  by_cases h0 : wn = 0
  · obtain ⟨rfl, -, -⟩ := h.z h0
    exact ⟨WfT.nil L, by simp [h0]⟩
  · obtain ⟨A, y, b', e1, e2, e3, rfl⟩ := h.p (by omega)
    refine ⟨lrnP_wf h.wf e2 (hby y (by simp [e3])), ?_⟩
    have hl := h.ln
    unfold lrnP
    split
    · rw [List.length_append, List.length_singleton]; omega
    · omega
theorem RelP.follow {L : Nat} {fs : List Tx} {wn : Nat} {x : Int} {r : List Int} {fd : List Tx} {ah : Int} (h : RelP L fs wn (x :: r) fd ah) (hx : 0 ≤ x ∧ x < ((2 ^ L : Nat) : Int)) (hx2 : x < 256) (hby : ∀ v ∈ x :: r, 0 ≤ v ∧ v < 256) {c k : Nat} (hq : lngN L fs x.toNat r = (c, k)) :
    flwN L fd ah c = some fs ∧ c ≠ 2 ^ L ∧ c ≠ 2 ^ L + 1 ∧ txC L fs c = x :: r.take k ∧ c < fcN L + fs.length := by
  obtain ⟨hwf, hfl⟩ := h.table hby
  have hxt : x.toNat < 2 ^ L := by omega
  have hFe : fcN L = 2 ^ L + 2 := rfl
  have hcb : c < fcN L + fs.length := by have := lng_bound (L := L) (fs := fs) r x.toNat (by omega); rw [hq] at this; exact this
  have hcc : c = x.toNat ∨ fcN L ≤ c := by have := lng_code (L := L) (fs := fs) r x.toNat; rw [hq] at this; exact this
  have htx : txC L fs c = x :: r.take k := by
    have := lng_text hwf r x.toNat
    rw [hq] at this
    simp only at this
    rw [this, txC_root (by omega)]
    have e : ((x.toNat : Nat) : Int) % 256 = x := by omega
    rw [e]; rfl
  refine ⟨?_, by omega, by omega, htx, hcb⟩
  by_cases h0 : wn = 0
  · obtain ⟨rfl, rfl, rfl⟩ := h.z h0
    have hc : c = x.toNat := by
      rcases hcc with e | e
      · exact e
      · simp at hcb; omega
    unfold flwN
    rw [if_pos rfl, if_neg (by omega)]
  · obtain ⟨A, y, b', e1, e2, e3, e4⟩ := h.p (by omega)
    obtain ⟨rfl, -⟩ : x = y ∧ r = b' := by simpa using e3
    have hwd := h.wf
    unfold flwN
    rw [if_neg (by omega), e1, Int.toNat_natCast]
    by_cases hlt : c < fcN L + fd.length
    · rw [if_pos hlt]
      have ht2 : txC L fs c = txC L fd c := by
        rw [e4]; unfold lrnP
        split
        · exact tx_app hwd _ c hlt
        · rfl
      have hh := tx_head hwd c hlt
      rw [← ht2, htx] at hh
      simp only [List.getElem?_cons_zero, Option.some.injEq] at hh
      rw [← hh, lrnP_lrnN, ← e4]
    · have hex : fs = fd ++ [(A, x)] := by
        rw [e4] at hcb ⊢
        unfold lrnP at hcb ⊢
        split
        · rfl
        · rename_i h9; rw [if_neg h9] at hcb; exact absurd hcb hlt
      have hce : c = fcN L + fd.length := by rw [hex, List.length_append, List.length_singleton] at hcb; omega
      rw [if_neg hlt, if_pos hce]
      have hl : fs[fd.length]? = some (A, x) := by rw [hex]; simp
      have ht2 := tx_last hwf hl
      rw [← hce, htx] at ht2
      have ht3 : txC L fs A = txC L fd A := by rw [hex]; exact tx_app hwd _ A e2
      have hh := tx_head hwd A e2
      rw [← ht3] at hh
      have hne := (txC_bytes hwf A (by rw [hex, List.length_append]; omega)).2
      have h0 : (txC L fs A ++ [x])[0]? = some x := by rw [← ht2]; rfl
      rw [List.getElem?_append_left (by omega), hh] at h0
      simp only [Option.some.injEq] at h0
      rw [h0, lrnP_lrnN, ← e4]
theorem lz_end {L : Nat} {zs more : List Int} {es1 ALL : List Em} {left : Nat} {fd : List Tx} {ah : Int} {out : List Int} {W : Nat} (hL : 2 ≤ L ∧ L ≤ 8) (hby : Bytes zs) (hA : ALL = es1 ++ [(2 ^ L + 1, W)]) (hfit : FitE ALL) (hz : outE ALL ++ more = zs) (hW : widN L (fcN L + fd.length) = W) :
    lzG L (lzAt zs (cntE es1) left fd ah out) = ⟨1, left, [], 0, [], 0, 0, out, more⟩ := by
  subst hA
  obtain ⟨v1, v2⟩ := str_val hz hfit
  have hs := lz_read (left := left) (ah := ah) (out := out) hby hW v2 v1
  have e : lzC L (lzAt zs (cntE es1 + W) left fd ah out) (2 ^ L + 1) = ⟨1, left, [], 0, [], 0, 0, out, more⟩ := by
    unfold lzC
    rw [if_neg (by omega), if_pos rfl]
    have hl := outE_len (es1 ++ [(2 ^ L + 1, W)])
    have hc : cntE (es1 ++ [(2 ^ L + 1, W)]) = cntE es1 + W := by rw [cntE_app]; rfl
    rw [hc] at hl
    have hd : ∀ j, j = (cntE es1 + W + 7) / 8 → zs.drop j = more := fun j hj => by rw [← hz, hj, ← hl, List.drop_left]
    have hr : (if (lzAt zs (cntE es1 + W) left fd ah out).gone = 0 then (lzAt zs (cntE es1 + W) left fd ah out).zs else (lzAt zs (cntE es1 + W) left fd ah out).zs.drop 1) = more := by
      show (if (cntE es1 + W) % 8 = 0 then zs.drop ((cntE es1 + W) / 8) else (zs.drop ((cntE es1 + W) / 8)).drop 1) = more
      split
      · exact hd _ (by omega)
      · rw [List.drop_drop]; exact hd _ (by omega)
    rw [hr]
    rfl
  rw [e] at hs
  exact lzG_done hL.2 rfl hs (by show 1 ≠ 0; decide)
theorem lz_clear {L : Nat} {zs more : List Int} {es1 es2 ALL : List Em} {left : Nat} {fd : List Tx} {ah : Int} {out : List Int} {W : Nat} (hL : 2 ≤ L ∧ L ≤ 8) (hby : Bytes zs) (hA : ALL = es1 ++ (2 ^ L, W) :: es2) (hfit : FitE ALL) (hz : outE ALL ++ more = zs) (hW : widN L (fcN L + fd.length) = W) :
    lzG L (lzAt zs (cntE es1) left fd ah out) = lzG L (lzAt zs (cntE (es1 ++ [(2 ^ L, W)])) left [] (-1) out) := by
  subst hA
  obtain ⟨v1, v2⟩ := str_val hz hfit
  have hs := lz_read (left := left) (ah := ah) (out := out) hby hW v2 v1
  have hc : cntE (es1 ++ [(2 ^ L, W)]) = cntE es1 + W := by rw [cntE_app]; rfl
  have e : lzC L (lzAt zs (cntE es1 + W) left fd ah out) (2 ^ L) = lzAt zs (cntE (es1 ++ [(2 ^ L, W)])) left [] (-1) out := by
    unfold lzC
    rw [if_pos rfl, hc]
    rfl
  rw [e] at hs
  exact lzG_step hL.2 rfl hs
def lzEnd (left : Nat) (out b more : List Int) : Lz := if b.length ≤ left then ⟨1, left - b.length, [], 0, [], 0, 0, out ++ b, more⟩ else ⟨2, 0, [], 0, [], 0, 9, out ++ b.take left, []⟩
theorem lz_back {L : Nat} {late : Int} (hL : 2 ≤ L ∧ L ≤ 8) (more : List Int) : ∀ (fuel : Nat) (b : List Int) (fs : List Tx) (wn : Nat) (fd : List Tx) (ah : Int) (left : Nat) (out : List Int) (es1 ALL : List Em) (zs : List Int), b.length ≤ fuel → (∀ v ∈ b, 0 ≤ v ∧ v < ((2 ^ L : Nat) : Int)) → RelP L fs wn b fd ah → ALL = es1 ++ pkE L late fuel b fs wn → FitE ALL → outE ALL ++ more = zs → Bytes zs →
    lzG L (lzAt zs (cntE es1) left fd ah out) = lzEnd left out b more := by
  intro fuel
  induction fuel with
  | zero =>
    intro b fs wn fd ah left out es1 ALL zs hb hv hR hA hfit hz hby
    obtain rfl : b = [] := List.length_eq_zero_iff.1 (by omega)
    have hF : fcN L ≤ 4096 := by have := fc_bd hL; unfold fcN; omega
    rw [lz_end hL hby hA hfit hz (wid_same hL hF hR.ln)]
    unfold lzEnd
    simp
  | succ fuel ih =>
    intro b fs wn fd ah left out es1 ALL zs hb hv hR hA hfit hz hby
    have hP := fc_bd hL
    have hF : 6 ≤ fcN L ∧ fcN L ≤ 258 := by unfold fcN; omega
    have hW := wid_same hL (by omega) hR.ln
    cases b with
    | nil =>
      rw [lz_end hL hby hA hfit hz hW]
      unfold lzEnd
      simp
    | cons x r =>
      have hx := hv x (by simp)
      have hv2 : ∀ v ∈ x :: r, 0 ≤ v ∧ v < 256 := fun v hm => by have := hv v hm; omega
      obtain ⟨c, k, hq⟩ : ∃ c k, lngN L fs x.toNat r = (c, k) := ⟨_, _, rfl⟩
      obtain ⟨f1, f2, f3, f4, f5⟩ := hR.follow hx (by omega) hv2 hq
      obtain ⟨hwf, hfl⟩ := hR.table hv2
      unfold pkE at hA
      rw [hq] at hA
      simp only at hA
      obtain ⟨Rest, hA, hRn, hRc⟩ : ∃ Rest, ALL = es1 ++ (c, widW L wn) :: Rest ∧ (r.drop k = [] → Rest = [(2 ^ L + 1, widW L (wn + 1))]) ∧ (∀ y b2, r.drop k = y :: b2 → Rest = if (wn : Int) + 1 - ((4096 - fcN L : Nat) : Int) = late then (2 ^ L, widW L (wn + 1)) :: pkE L late fuel (y :: b2) [] 0 else pkE L late fuel (y :: b2) (lrnP L fs c y) (wn + 1)) :=
        ⟨_, hA, fun h => by rw [h], fun y b2 h => by rw [h]⟩
      have hz' := hz
      have hfit' := hfit
      rw [hA] at hz' hfit'
      obtain ⟨v1, v2⟩ := str_val hz' hfit'
      have hs := lz_read (left := left) (ah := ah) (out := out) hby hW v2 v1
      have e : lzC L (lzAt zs (cntE es1 + widW L wn) left fd ah out) c = lzT (lzAt zs (cntE es1 + widW L wn) left fd ah out) fs c (x :: r.take k) := by
        unfold lzC
        rw [if_neg f2, if_neg f3]
        show (match flwN L fd ah c with | none => _ | some fs' => _) = _
        rw [f1]
        simp only
        rw [f4]
      rw [e] at hs
      have hcn : cntE (es1 ++ [(c, widW L wn)]) = cntE es1 + widW L wn := by rw [cntE_app]; rfl
      have hk : k ≤ r.length := by have := lng_len (L := L) (fs := fs) r x.toNat; rw [hq] at this; exact this
      by_cases hroom : (x :: r.take k).length ≤ left
      · have e2 : lzT (lzAt zs (cntE es1 + widW L wn) left fd ah out) fs c (x :: r.take k) = lzAt zs (cntE (es1 ++ [(c, widW L wn)])) (left - (x :: r.take k).length) fs (c : Int) (out ++ x :: r.take k) := by
          unfold lzT
          rw [if_pos (show (x :: r.take k).length ≤ (lzAt zs (cntE es1 + widW L wn) left fd ah out).left from hroom), hcn]
          rfl
        rw [e2] at hs
        rw [lzG_step hL.2 rfl hs]
        have hA2 : ALL = (es1 ++ [(c, widW L wn)]) ++ Rest := by rw [hA]; simp
        have hbT : x :: r = (x :: r.take k) ++ r.drop k := by simp
        have hend : ∀ b2, r.drop k = b2 → lzEnd (left - (x :: r.take k).length) (out ++ x :: r.take k) b2 more = lzEnd left out (x :: r) more := by
          intro b2 hb2
          unfold lzEnd
          have hl : (x :: r).length = (x :: r.take k).length + b2.length := by rw [hbT, List.length_append, hb2]
          by_cases h9 : b2.length ≤ left - (x :: r.take k).length
          · rw [if_pos h9, if_pos (by omega), hl]
            have : out ++ (x :: r) = out ++ x :: r.take k ++ b2 := by rw [hbT, hb2]; simp
            rw [this, Nat.sub_sub]
          · rw [if_neg h9, if_neg (by omega)]
            have : (x :: r).take left = (x :: r.take k) ++ b2.take (left - (x :: r.take k).length) := by rw [hbT, hb2, List.take_append, List.take_of_length_le hroom]
            rw [this]; simp
        have hlnf : fs.length = min (wn + 1 - 1) (4096 - fcN L) := hfl
        have hW2 := wid_same hL (by omega) hlnf
        cases hd : r.drop k with
        | nil =>
          rw [hRn hd] at hA2
          rw [lz_end hL hby hA2 hfit hz hW2, ← hend [] hd]
          unfold lzEnd
          simp
        | cons y b2 =>
          have hRest := hRc y b2 hd
          have hvd : ∀ v ∈ y :: b2, 0 ≤ v ∧ v < ((2 ^ L : Nat) : Int) := fun v hm => hv v (by rw [← hd] at hm; exact List.mem_cons_of_mem _ (List.mem_of_mem_drop hm))
          have hlb : (y :: b2).length ≤ fuel := by rw [← hd, List.length_drop]; simp only [List.length_cons] at hb; omega
          rw [← hend (y :: b2) hd]
          split at hRest
          · rw [hRest] at hA2
            rw [lz_clear hL hby hA2 hfit hz hW2]
            exact ih (y :: b2) [] 0 [] (-1) _ _ _ ALL zs hlb hvd ⟨WfT.nil L, by simp, fun _ => ⟨rfl, rfl, rfl⟩, fun h => absurd h (by decide)⟩ (by rw [hA2]; simp) hfit hz hby
          · rw [hRest] at hA2
            exact ih (y :: b2) (lrnP L fs c y) (wn + 1) fs (c : Int) _ _ _ ALL zs hlb hvd ⟨hwf, hlnf, fun h => by omega, fun _ => ⟨c, y, b2, rfl, f5, rfl, rfl⟩⟩ hA2 hfit hz hby
      · have e2 : lzT (lzAt zs (cntE es1 + widW L wn) left fd ah out) fs c (x :: r.take k) = lzEnd left out (x :: r) more := by
          unfold lzT lzEnd
          have hl : (x :: r.take k).length ≤ (x :: r).length := by simp only [List.length_cons, List.length_take]; omega
          rw [if_neg (show ¬ (x :: r.take k).length ≤ (lzAt zs (cntE es1 + widW L wn) left fd ah out).left from hroom), if_neg (by omega)]
          have : (x :: r).take left = (x :: r.take k).take left := by
            have hbT : x :: r = (x :: r.take k) ++ r.drop k := by simp
            rw [hbT, List.take_append_of_le_length (by omega)]
          rw [this]
          rfl
        rw [e2] at hs
        refine lzG_done hL.2 rfl hs ?_
        unfold lzEnd
        rw [if_neg (by simp only [List.length_cons, List.length_take] at hroom ⊢; omega)]
        show 2 ≠ 0
        decide
end Go.Proofs.Ytcbmlioeeoghkaa
