/- Joined: LzBl LzBm LzBn LzT LzU LzW LzZ LzAb LzCu LzBo LxA LxG LxL LxC LxF. -/
import Derived.Test.YtcbmlioeeoghkaaLzBk
import Derived.Test.YtcbmlioeeoghkaaLzY
import Derived.Test.YtcbmlioeeoghkaaRwC
import Derived.Test.YtcbmlioeeoghkaaCpB
import Derived.Test.YtcbmlioeeoghkaaLzS
import Derived.Deep.DeepCutAuto
import Derived.Deep.CutBlock
import Derived.Test.YtcbmlioeeoghkaaLzV
import Derived.Test.YtcbmlioeeoghkaaSmC
import Derived.Test.YtcbmlioeeoghkaaLzOd
import Derived.Test.YtcbmlioeeoghkaaLzOc
import Derived.Test.YtcbmlioeeoghkaaLzOe
/- LZW: what is packed is told: the packer beside the decoder (plain). -/
namespace Go.Proofs.Ytcbmlioeeoghkaa
open Go.RowKit
/-- The packer's table beside the decoder's. -/
structure RelP (L : Nat) (fs : List Tx) (wn : Nat) (b : List Int) (fd : List Tx) (ah : Int) : Prop where
  wf : WfT L fd
  ln : fd.length = min (wn - 1) (4096 - fcN L)
  z : wn = 0 → fs = [] ∧ fd = [] ∧ ah = -1
  p : 0 < wn → ∃ (A : Nat) (y : Int) (b' : List Int), ah = (A : Int) ∧ A < fcN L + fd.length ∧ b = y :: b' ∧ fs = lrnP L fd A y
theorem lrnP_wf {L : Nat} {fd : List Tx} {A : Nat} {y : Int} (hwf : WfT L fd) (hA : A < fcN L + fd.length) (hy : 0 ≤ y ∧ y < 256) : WfT L (lrnP L fd A y) := by
  unfold lrnP
  split
  · exact hwf.push hA hy
  · exact hwf
theorem RelP.table {L : Nat} {fs : List Tx} {wn : Nat} {b : List Int} {fd : List Tx} {ah : Int} (h : RelP L fs wn b fd ah) (hby : ∀ v ∈ b, 0 ≤ v ∧ v < 256) : WfT L fs ∧ fs.length = min wn (4096 - fcN L) := by
  by_cases h0 : wn = 0
  · obtain ⟨rfl, -, -⟩ := h.z h0
    exact ⟨WfT.nil L, by simp [h0]⟩
  · obtain ⟨A, y, b', e1, e2, e3, rfl⟩ := h.p (by omega)
    refine ⟨lrnP_wf h.wf e2 (hby y (by simp [e3])), ?_⟩
    have hl := h.ln
    unfold lrnP
    split
    · rw [List.length_append, List.length_singleton]; omega
    · omega
theorem RelP.follow {L : Nat} {fs : List Tx} {wn : Nat} {x : Int} {r : List Int} {fd : List Tx} {ah : Int} (h : RelP L fs wn (x :: r) fd ah) (hx : 0 ≤ x ∧ x < ((2 ^ L : Nat) : Int)) (hx2 : x < 256) (hby : ∀ v ∈ x :: r, 0 ≤ v ∧ v < 256) {c k : Nat} (hq : lngN L fs x.toNat r = (c, k)) :
    flwN L fd ah c = some fs ∧ c ≠ 2 ^ L ∧ c ≠ 2 ^ L + 1 ∧ txC L fs c = x :: r.take k ∧ c < fcN L + fs.length := by
  obtain ⟨hwf, hfl⟩ := h.table hby
  have hxt : x.toNat < 2 ^ L := by omega
  have hFe : fcN L = 2 ^ L + 2 := rfl
  have hcb : c < fcN L + fs.length := by have := lng_bound (L := L) (fs := fs) r x.toNat (by omega); rw [hq] at this; exact this
  have hcc : c = x.toNat ∨ fcN L ≤ c := by have := lng_code (L := L) (fs := fs) r x.toNat; rw [hq] at this; exact this
  have htx : txC L fs c = x :: r.take k := by
    have := lng_text hwf r x.toNat
    rw [hq] at this
    simp only at this
    rw [this, txC_root (by omega)]
    have e : ((x.toNat : Nat) : Int) % 256 = x := by omega
    rw [e]; rfl
  refine ⟨?_, by omega, by omega, htx, hcb⟩
  by_cases h0 : wn = 0
  · obtain ⟨rfl, rfl, rfl⟩ := h.z h0
    have hc : c = x.toNat := by
      rcases hcc with e | e
      · exact e
      · simp at hcb; omega
    unfold flwN
    rw [if_pos rfl, if_neg (by omega)]
  · obtain ⟨A, y, b', e1, e2, e3, e4⟩ := h.p (by omega)
    obtain ⟨rfl, -⟩ : x = y ∧ r = b' := by simpa using e3
    have hwd := h.wf
    unfold flwN
    rw [if_neg (by omega), e1, Int.toNat_natCast]
    by_cases hlt : c < fcN L + fd.length
    · rw [if_pos hlt]
      have ht2 : txC L fs c = txC L fd c := by
        rw [e4]; unfold lrnP
        split
        · exact tx_app hwd _ c hlt
        · rfl
      have hh := tx_head hwd c hlt
      rw [← ht2, htx] at hh
      simp only [List.getElem?_cons_zero, Option.some.injEq] at hh
      rw [← hh, lrnP_lrnN, ← e4]
    · have hex : fs = fd ++ [(A, x)] := by
        rw [e4] at hcb ⊢
        unfold lrnP at hcb ⊢
        split
        · rfl
        · rename_i h9; rw [if_neg h9] at hcb; exact absurd hcb hlt
      have hce : c = fcN L + fd.length := by rw [hex, List.length_append, List.length_singleton] at hcb; omega
      rw [if_neg hlt, if_pos hce]
      have hl : fs[fd.length]? = some (A, x) := by rw [hex]; simp
      have ht2 := tx_last hwf hl
      rw [← hce, htx] at ht2
      have ht3 : txC L fs A = txC L fd A := by rw [hex]; exact tx_app hwd _ A e2
      have hh := tx_head hwd A e2
      rw [← ht3] at hh
      have hne := (txC_bytes hwf A (by rw [hex, List.length_append]; omega)).2
      have h0 : (txC L fs A ++ [x])[0]? = some x := by rw [← ht2]; rfl
      rw [List.getElem?_append_left (by omega), hh] at h0
      simp only [Option.some.injEq] at h0
      rw [h0, lrnP_lrnN, ← e4]
theorem lz_end {L : Nat} {zs more : List Int} {es1 ALL : List Em} {left : Nat} {fd : List Tx} {ah : Int} {out : List Int} {W : Nat} (hL : 2 ≤ L ∧ L ≤ 8) (hby : Bytes zs) (hA : ALL = es1 ++ [(2 ^ L + 1, W)]) (hfit : FitE ALL) (hz : outE ALL ++ more = zs) (hW : widN L (fcN L + fd.length) = W) :
    lzG L (lzAt zs (cntE es1) left fd ah out) = ⟨1, left, [], 0, [], 0, 0, out, more⟩ := by
  subst hA
  obtain ⟨v1, v2⟩ := str_val hz hfit
  have hs := lz_read (left := left) (ah := ah) (out := out) hby hW v2 v1
  have e : lzC L (lzAt zs (cntE es1 + W) left fd ah out) (2 ^ L + 1) = ⟨1, left, [], 0, [], 0, 0, out, more⟩ := by
    unfold lzC
    rw [if_neg (by omega), if_pos rfl]
    have hl := outE_len (es1 ++ [(2 ^ L + 1, W)])
    have hc : cntE (es1 ++ [(2 ^ L + 1, W)]) = cntE es1 + W := by rw [cntE_app]; rfl
    rw [hc] at hl
    have hd : ∀ j, j = (cntE es1 + W + 7) / 8 → zs.drop j = more := fun j hj => by rw [← hz, hj, ← hl, List.drop_left]
    have hr : (if (lzAt zs (cntE es1 + W) left fd ah out).gone = 0 then (lzAt zs (cntE es1 + W) left fd ah out).zs else (lzAt zs (cntE es1 + W) left fd ah out).zs.drop 1) = more := by
      show (if (cntE es1 + W) % 8 = 0 then zs.drop ((cntE es1 + W) / 8) else (zs.drop ((cntE es1 + W) / 8)).drop 1) = more
      split
      · exact hd _ (by omega)
      · rw [List.drop_drop]; exact hd _ (by omega)
    rw [hr]
    rfl
  rw [e] at hs
  exact lzG_done hL.2 rfl hs (by show 1 ≠ 0; decide)
theorem lz_clear {L : Nat} {zs more : List Int} {es1 es2 ALL : List Em} {left : Nat} {fd : List Tx} {ah : Int} {out : List Int} {W : Nat} (hL : 2 ≤ L ∧ L ≤ 8) (hby : Bytes zs) (hA : ALL = es1 ++ (2 ^ L, W) :: es2) (hfit : FitE ALL) (hz : outE ALL ++ more = zs) (hW : widN L (fcN L + fd.length) = W) :
    lzG L (lzAt zs (cntE es1) left fd ah out) = lzG L (lzAt zs (cntE (es1 ++ [(2 ^ L, W)])) left [] (-1) out) := by
  subst hA
  obtain ⟨v1, v2⟩ := str_val hz hfit
  have hs := lz_read (left := left) (ah := ah) (out := out) hby hW v2 v1
  have hc : cntE (es1 ++ [(2 ^ L, W)]) = cntE es1 + W := by rw [cntE_app]; rfl
  have e : lzC L (lzAt zs (cntE es1 + W) left fd ah out) (2 ^ L) = lzAt zs (cntE (es1 ++ [(2 ^ L, W)])) left [] (-1) out := by
    unfold lzC
    rw [if_pos rfl, hc]
    rfl
  rw [e] at hs
  exact lzG_step hL.2 rfl hs
def lzEnd (left : Nat) (out b more : List Int) : Lz := if b.length ≤ left then ⟨1, left - b.length, [], 0, [], 0, 0, out ++ b, more⟩ else ⟨2, 0, [], 0, [], 0, 9, out ++ b.take left, []⟩
theorem lz_back {L : Nat} {late : Int} (hL : 2 ≤ L ∧ L ≤ 8) (more : List Int) : ∀ (fuel : Nat) (b : List Int) (fs : List Tx) (wn : Nat) (fd : List Tx) (ah : Int) (left : Nat) (out : List Int) (es1 ALL : List Em) (zs : List Int), b.length ≤ fuel → (∀ v ∈ b, 0 ≤ v ∧ v < ((2 ^ L : Nat) : Int)) → RelP L fs wn b fd ah → ALL = es1 ++ pkE L late fuel b fs wn → FitE ALL → outE ALL ++ more = zs → Bytes zs →
    lzG L (lzAt zs (cntE es1) left fd ah out) = lzEnd left out b more := by
  intro fuel
  induction fuel with
  | zero =>
    intro b fs wn fd ah left out es1 ALL zs hb hv hR hA hfit hz hby
    obtain rfl : b = [] := List.length_eq_zero_iff.1 (by omega)
    have hF : fcN L ≤ 4096 := by have := fc_bd hL; unfold fcN; omega
    rw [lz_end hL hby hA hfit hz (wid_same hL hF hR.ln)]
    unfold lzEnd
    simp
  | succ fuel ih =>
    intro b fs wn fd ah left out es1 ALL zs hb hv hR hA hfit hz hby
    have hP := fc_bd hL
    have hF : 6 ≤ fcN L ∧ fcN L ≤ 258 := by unfold fcN; omega
    have hW := wid_same hL (by omega) hR.ln
    cases b with
    | nil =>
      rw [lz_end hL hby hA hfit hz hW]
      unfold lzEnd
      simp
    | cons x r =>
      have hx := hv x (by simp)
      have hv2 : ∀ v ∈ x :: r, 0 ≤ v ∧ v < 256 := fun v hm => by have := hv v hm; omega
      obtain ⟨c, k, hq⟩ : ∃ c k, lngN L fs x.toNat r = (c, k) := ⟨_, _, rfl⟩
      obtain ⟨f1, f2, f3, f4, f5⟩ := hR.follow hx (by omega) hv2 hq
      obtain ⟨hwf, hfl⟩ := hR.table hv2
      unfold pkE at hA
      rw [hq] at hA
      simp only at hA
      obtain ⟨Rest, hA, hRn, hRc⟩ : ∃ Rest, ALL = es1 ++ (c, widW L wn) :: Rest ∧ (r.drop k = [] → Rest = [(2 ^ L + 1, widW L (wn + 1))]) ∧ (∀ y b2, r.drop k = y :: b2 → Rest = if (wn : Int) + 1 - ((4096 - fcN L : Nat) : Int) = late then (2 ^ L, widW L (wn + 1)) :: pkE L late fuel (y :: b2) [] 0 else pkE L late fuel (y :: b2) (lrnP L fs c y) (wn + 1)) :=
        ⟨_, hA, fun h => by rw [h], fun y b2 h => by rw [h]⟩
      have hz' := hz
      have hfit' := hfit
      rw [hA] at hz' hfit'
      obtain ⟨v1, v2⟩ := str_val hz' hfit'
      have hs := lz_read (left := left) (ah := ah) (out := out) hby hW v2 v1
      have e : lzC L (lzAt zs (cntE es1 + widW L wn) left fd ah out) c = lzT (lzAt zs (cntE es1 + widW L wn) left fd ah out) fs c (x :: r.take k) := by
        unfold lzC
        rw [if_neg f2, if_neg f3]
        show (match flwN L fd ah c with | none => _ | some fs' => _) = _
        rw [f1]
        simp only
        rw [f4]
      rw [e] at hs
      have hcn : cntE (es1 ++ [(c, widW L wn)]) = cntE es1 + widW L wn := by rw [cntE_app]; rfl
      have hk : k ≤ r.length := by have := lng_len (L := L) (fs := fs) r x.toNat; rw [hq] at this; exact this
      by_cases hroom : (x :: r.take k).length ≤ left
      · have e2 : lzT (lzAt zs (cntE es1 + widW L wn) left fd ah out) fs c (x :: r.take k) = lzAt zs (cntE (es1 ++ [(c, widW L wn)])) (left - (x :: r.take k).length) fs (c : Int) (out ++ x :: r.take k) := by
          unfold lzT
          rw [if_pos (show (x :: r.take k).length ≤ (lzAt zs (cntE es1 + widW L wn) left fd ah out).left from hroom), hcn]
          rfl
        rw [e2] at hs
        rw [lzG_step hL.2 rfl hs]
        have hA2 : ALL = (es1 ++ [(c, widW L wn)]) ++ Rest := by rw [hA]; simp
        have hbT : x :: r = (x :: r.take k) ++ r.drop k := by simp
        have hend : ∀ b2, r.drop k = b2 → lzEnd (left - (x :: r.take k).length) (out ++ x :: r.take k) b2 more = lzEnd left out (x :: r) more := by
          intro b2 hb2
          unfold lzEnd
          have hl : (x :: r).length = (x :: r.take k).length + b2.length := by rw [hbT, List.length_append, hb2]
          by_cases h9 : b2.length ≤ left - (x :: r.take k).length
          · rw [if_pos h9, if_pos (by omega), hl]
            have : out ++ (x :: r) = out ++ x :: r.take k ++ b2 := by rw [hbT, hb2]; simp
            rw [this, Nat.sub_sub]
          · rw [if_neg h9, if_neg (by omega)]
            have : (x :: r).take left = (x :: r.take k) ++ b2.take (left - (x :: r.take k).length) := by rw [hbT, hb2, List.take_append, List.take_of_length_le hroom]
            rw [this]; simp
        have hlnf : fs.length = min (wn + 1 - 1) (4096 - fcN L) := hfl
        have hW2 := wid_same hL (by omega) hlnf
        cases hd : r.drop k with
        | nil =>
          rw [hRn hd] at hA2
          rw [lz_end hL hby hA2 hfit hz hW2, ← hend [] hd]
          unfold lzEnd
          simp
        | cons y b2 =>
          have hRest := hRc y b2 hd
          have hvd : ∀ v ∈ y :: b2, 0 ≤ v ∧ v < ((2 ^ L : Nat) : Int) := fun v hm => hv v (by rw [← hd] at hm; exact List.mem_cons_of_mem _ (List.mem_of_mem_drop hm))
          have hlb : (y :: b2).length ≤ fuel := by rw [← hd, List.length_drop]; simp only [List.length_cons] at hb; omega
          rw [← hend (y :: b2) hd]
          split at hRest
          · rw [hRest] at hA2
            rw [lz_clear hL hby hA2 hfit hz hW2]
            exact ih (y :: b2) [] 0 [] (-1) _ _ _ ALL zs hlb hvd ⟨WfT.nil L, by simp, fun _ => ⟨rfl, rfl, rfl⟩, fun h => absurd h (by decide)⟩ (by rw [hA2]; simp) hfit hz hby
          · rw [hRest] at hA2
            exact ih (y :: b2) (lrnP L fs c y) (wn + 1) fs (c : Int) _ _ _ ALL zs hlb hvd ⟨hwf, hlnf, fun h => by omega, fun _ => ⟨c, y, b2, rfl, f5, rfl, rfl⟩⟩ hA2 hfit hz hby
      · have e2 : lzT (lzAt zs (cntE es1 + widW L wn) left fd ah out) fs c (x :: r.take k) = lzEnd left out (x :: r) more := by
          unfold lzT lzEnd
          have hl : (x :: r.take k).length ≤ (x :: r).length := by simp only [List.length_cons, List.length_take]; omega
          rw [if_neg (show ¬ (x :: r.take k).length ≤ (lzAt zs (cntE es1 + widW L wn) left fd ah out).left from hroom), if_neg (by omega)]
          have : (x :: r).take left = (x :: r.take k).take left := by
            have hbT : x :: r = (x :: r.take k) ++ r.drop k := by simp
            rw [hbT, List.take_append_of_le_length (by omega)]
          rw [this]
          rfl
        rw [e2] at hs
        refine lzG_done hL.2 rfl hs ?_
        unfold lzEnd
        rw [if_neg (by simp only [List.length_cons, List.length_take] at hroom ⊢; omega)]
        show 2 ≠ 0
        decide
end Go.Proofs.Ytcbmlioeeoghkaa
/- LZW: all that is packed, told (plain). -/
namespace Go.Proofs.Ytcbmlioeeoghkaa
open Go.RowKit
theorem pk_fit {L : Nat} {late : Int} (hL : 2 ≤ L ∧ L ≤ 8) : ∀ (fuel : Nat) (b : List Int) (fs : List Tx) (wn : Nat), fs.length ≤ wn → fcN L + fs.length ≤ 4096 → (∀ v ∈ b, 0 ≤ v ∧ v < ((2 ^ L : Nat) : Int)) → FitE (pkE L late fuel b fs wn) := by
  have hP := fc_bd hL
  have hF : 6 ≤ fcN L ∧ fcN L ≤ 258 := by unfold fcN; omega
  have hFe : fcN L = 2 ^ L + 2 := rfl
  have he : ∀ wn, 2 ^ L + 1 < 2 ^ widW L wn := fun wn => widN_fits hL.2 (by omega) (by omega)
  have hc : ∀ wn, 2 ^ L < 2 ^ widW L wn := fun wn => widN_fits hL.2 (by omega) (by omega)
  intro fuel
  induction fuel with
  | zero =>
    intro b fs wn _ _ _ p hp
    simp only [pkE, List.mem_singleton] at hp
    subst hp; exact he wn
  | succ fuel ih =>
    intro b fs wn h1 h2 hv
    cases b with
    | nil =>
      intro p hp
      simp only [pkE, List.mem_singleton] at hp
      subst hp; exact he wn
    | cons x r =>
      have hx := hv x (by simp)
      obtain ⟨c, k, hq⟩ : ∃ c k, lngN L fs x.toNat r = (c, k) := ⟨_, _, rfl⟩
      have hcb : c < fcN L + fs.length := by have := lng_bound (L := L) (fs := fs) r x.toNat (by omega); rw [hq] at this; exact this
      intro p hp
      unfold pkE at hp
      rw [hq] at hp
      simp only [List.mem_cons] at hp
      rcases hp with rfl | hp
      · exact widN_fits hL.2 (by omega) (by omega)
      · cases hd : r.drop k with
        | nil =>
          rw [hd] at hp
          simp only [List.mem_singleton] at hp
          subst hp; exact he (wn + 1)
        | cons y b2 =>
          rw [hd] at hp
          simp only at hp
          have hvd : ∀ v ∈ y :: b2, 0 ≤ v ∧ v < ((2 ^ L : Nat) : Int) := fun v hm => hv v (by rw [← hd] at hm; exact List.mem_cons_of_mem _ (List.mem_of_mem_drop hm))
          split at hp
          · rcases List.mem_cons.1 hp with rfl | hp
            · exact hc (wn + 1)
            · exact ih (y :: b2) [] 0 (Nat.le_refl _) (by simp; omega) hvd p hp
          · obtain ⟨l1, l2⟩ := lrnP_len (c := c) (y := y) (by omega) h1 h2
            exact ih (y :: b2) (lrnP L fs c y) (wn + 1) l1 l2 hvd p hp
theorem pkA_fit {L : Nat} {late : Int} (hL : 2 ≤ L ∧ L ≤ 8) {b : List Int} (hv : ∀ v ∈ b, 0 ≤ v ∧ v < ((2 ^ L : Nat) : Int)) : FitE (pkA L late b) := by
  intro p hp
  unfold pkA at hp
  have hP := fc_bd hL
  rcases List.mem_cons.1 hp with rfl | hp
  · exact widN_fits hL.2 (by unfold fcN; omega) (by omega)
  · exact pk_fit hL _ _ _ _ (Nat.le_refl _) (by unfold fcN; simp; omega) hv p hp
/-- What is packed is told. -/
theorem lzO_back {L : Nat} {late : Int} (hL : 2 ≤ L ∧ L ≤ 8) (n : Nat) {b more : List Int} (hv : ∀ v ∈ b, 0 ≤ v ∧ v < ((2 ^ L : Nat) : Int)) (hm : Bytes more) : lzO L n (outE (pkA L late b) ++ more) = lzEnd n [] b more := by
  have hf := pkA_fit (late := late) hL hv
  have hby : Bytes (outE (pkA L late b) ++ more) := fun x hx => by
    rcases List.mem_append.1 hx with h | h
    · exact outE_bytes _ x h
    · exact hm x h
  obtain ⟨zs, hz⟩ : ∃ zs, outE (pkA L late b) ++ more = zs := ⟨_, rfl⟩
  rw [hz] at hby ⊢
  have e0 : (lz0 n).fed zs = lzAt zs (cntE []) n [] (-1) [] := rfl
  unfold lzO
  rw [e0, lz_clear (es1 := []) (es2 := pkE L late b.length b [] 0) hL hby rfl hf hz rfl]
  exact lz_back (late := late) hL more b.length b [] 0 [] (-1) n [] _ (pkA L late b) zs (Nat.le_refl _) hv ⟨WfT.nil L, by simp, fun _ => ⟨rfl, rfl, rfl⟩, fun h => absurd h (by decide)⟩ rfl hf hz hby
theorem cntE_pk {L : Nat} {late : Int} (hL : 2 ≤ L ∧ L ≤ 8) : ∀ (fuel : Nat) (b : List Int) (fs : List Tx) (wn : Nat), cntE (pkE L late fuel b fs wn) ≤ 12 + 24 * b.length := by
  have hw : ∀ wn, widW L wn ≤ 12 := fun wn => (widN_le L _ hL.2).2
  intro fuel
  induction fuel with
  | zero => intro b fs wn; have := hw wn; simp only [pkE, cntE]; omega
  | succ fuel ih =>
    intro b fs wn
    cases b with
    | nil => have := hw wn; simp only [pkE, cntE]; omega
    | cons x r =>
      unfold pkE
      have h1 := hw wn
      have h2 := hw (wn + 1)
      simp only [cntE]
      cases hd : r.drop (lngN L fs x.toNat r).2 with
      | nil => simp only [cntE, List.length_cons]; omega
      | cons y b2 =>
        have hl : (y :: b2).length ≤ r.length := by rw [← hd, List.length_drop]; omega
        simp only
        split
        · have := ih (y :: b2) [] 0
          simp only [cntE, List.length_cons] at *; omega
        · have := ih (y :: b2) (lrnP L fs (lngN L fs x.toNat r).1 y) (wn + 1)
          simp only [List.length_cons] at *; omega
theorem outE_pk {L : Nat} {late : Int} (hL : 2 ≤ L ∧ L ≤ 8) (b : List Int) : (outE (pkA L late b)).length ≤ 4 + 3 * b.length := by
  have h1 := cntE_pk (late := late) hL b.length b [] 0
  have h2 : widW L 0 ≤ 12 := (widN_le L _ hL.2).2
  rw [outE_len]
  unfold pkA
  simp only [cntE]
  omega
end Go.Proofs.Ytcbmlioeeoghkaa
/- An append of a great row behind a small one, in the call's own memory. -/
namespace Go.Proofs.Ytcbmlioeeoghkaa
open Go.RowKit
theorem nextcap_quarter {need old : Nat} (h : old < need) : Builtin.nextslicecap need old ≤ need + need / 4 + 600 := by
  unfold Builtin.nextslicecap
  split
  · omega
  · split
    · omega
    · rw [growBy_four]
      repeat' split
      all_goals omega
theorem run_append_big (w : World) (base ty n m c : Nat) (v : Value) (xs news : List Value) (hown : w.ownsRow base 5 1 v n xs) (hn : 1 ≤ n) (a : Addr) (hl : news.length = m) (hnews : ∀ j u, news[j]? = some u → w.cell? (a.add j) = some u) (h1 : ∀ u ∈ news, u.oneCell' = true)
    (hbig : n + m ≤ 200000000000000) (hbase : base ≤ w.heap.size) :
    ∃ v' w', (Builtin.append_ #[22, 22] ty #[v, .slice (some a) m c]).run Try.prog w = .ok v' w' ∧ w'.ownsRow base 5 1 v' (n + m) (xs ++ news) ∧ w.grownBy w' v.ownBlock := by
  obtain ⟨i, hi, hz, hsz, hby⟩ := info_parts Try.info5
  have hl' : news.length = m * i.size := by rw [hsz]; omega
  have hxl : xs.length = n := by have := hown.1; omega
  have hml : n + m ≤ maxLen := by unfold maxLen; omega
  rcases hown.2 with ⟨rfl, rfl⟩ | ⟨g, cap, cur, rfl, hbg, hg, hnc, hcm, hcs, htake⟩
  · omega
  · have hlen : (xs ++ news).length = (n + m) * 1 := by rw [List.length_append]; omega
    by_cases hroom : n + m ≤ cap
    · have hfit : n * i.size + news.length ≤ cur.size := by rw [hsz, hcs]; omega
      have hr := run_append_room (P := Try.prog) w 22 ty 5 i Try.underlying22 hi g n cap cur hg a m c news hl' hnews h1 hroom hfit
      rw [hsz] at hr
      refine ⟨_, _, hr, ⟨hlen, .inr ⟨g, cap, _, rfl, hbg, setRow_heap w g cur _ 5 _ hg, hroom, hcm, ?_, ?_⟩⟩, ⟨rfl, rfl, rfl, by simp, fun k _ hk => setRow_other w g k _ (fun e => hk (by simp [Value.ownBlock, e]))⟩⟩
      · simp only [List.size_toArray, List.length_append, List.length_take, List.length_drop, Array.length_toList]
        omega
      · rw [htake, ← hlen]
        exact List.take_left
    · have holds : ∀ j u, xs[j]? = some u → w.cell? ((⟨g, 0, none⟩ : Addr).add j) = some u := hown.cells (g := g) rfl
      have hq := nextcap_quarter (need := n + m) (old := cap) (by omega)
      have hr := run_append_grow (P := Try.prog) w 22 ty 5 i (.int .u8 0) Try.underlying22 hi hz ⟨g, 0, none⟩ n cap xs (by rw [hsz]; omega) holds a m c news hl' hnews (by omega) (by omega) (by rw [hby]; omega)
      have hge := grownCap_ge w (n + m) cap 5
      refine ⟨_, _, hr, ⟨hlen, .inr ⟨w.heap.size, _, _, rfl, hbase, heap_alloc_new w.drew _, hge, grownCap_le_maxLen w (n + m) cap 5 hml, ?_, ?_⟩⟩, ⟨rfl, rfl, rfl, by simp, fun k hk _ => heap_alloc_old w.drew _ hk⟩⟩
      · simp only [Array.size_append, List.size_toArray, size_zeroCells, Value.cells]
        show xs.length + news.length + (_ - (n + m)) * 1 = _ * 1
        omega
      · simp only [Array.toList_append, List.append_assoc]
        rw [← List.append_assoc, ← hlen]
        exact List.take_left
theorem row_of_owns {w : World} {base n : Nat} {v : Value} {zs : List Int} (h : w.ownsRow base 5 1 v n (vals zs)) : ∃ a c, v = .slice a n c ∧ Row w a zs ∧ zs.length = n ∧ n ≤ c ∧ c ≤ maxLen ∧ (a = none → c = 0) := by
  obtain ⟨g, hs, -⟩ := Sl.of_owns h
  have hl : zs.length = n := by have := h.1; rw [vals_len] at this; omega
  obtain ⟨a, c, hv, h1, h2, h3⟩ := hs.shape
  rw [vals_len] at hv h1
  have hrow := hs.row hv
  rw [hl] at hv h1
  exact ⟨a, c, hv, hrow, hl, h1, h2, h3⟩
/-- 'append([]byte{}, x...)', as an owned row. -/
theorem wpList_copy_own {wr : World} {ops : Array Oper} {rest : List Oper} {o : Oper} {a : Act} {Q : Exit → Act → World → Prop} (hgd : o.guard = none) (s x : Operand)
    (ho : o.op = .call { callee := .builtin .append, args := #[s, x], argTypes := #[22, 22] })
    (ad : Addr) (m c : Nat) (zs : List Int) (hs : a.eval s = .slice (some ⟨wr.heap.size, 0, none⟩) 0 0) (hx : a.eval x = .slice (some ad) m c) (hm : zs.length = m) (hr : Row wr (some ad) zs) (hlen : m ≤ 140737488351232)
    (h : ∀ v' w', w'.ownsRow wr.heap.size 5 1 v' m (vals zs) → Below wr.heap.size wr w' → wpList Try.prog ops Q rest (a.put o.dst v') w') : wpList Try.prog ops Q (o :: rest) a (wr.alloc (.cells #[] 5)) := by
  obtain ⟨i0, hi, hz0, hz1, hz2⟩ := info_parts Try.info5
  have hB : Below wr.heap.size wr (wr.alloc (.cells #[] 5)) := (Below.refl _ _).alloc (Nat.le_refl _) _
  have hown : (wr.alloc (.cells #[] 5)).ownsRow wr.heap.size 5 1 (.slice (some ⟨wr.heap.size, 0, none⟩) 0 0) 0 [] := ⟨by simp, .inr ⟨wr.heap.size, 0, #[], rfl, Nat.le_refl _, heap_alloc_new _ _, Nat.le_refl _, by unfold maxLen; omega, by simp, by simp⟩⟩
  refine wpList_append_own _ hgd s x 22 ho wr.heap.size 5 i0 (.int .u8 0) 1 1 Try.underlying22 hi hz0 hz1 hz2 rfl (by decide) _ 0 [] hs hown ad m c (vals zs) hx (by rw [vals_len]; omega) (news_row (hr.alloc _)) (vals_one zs) (by unfold maxLen; omega) (by omega) (by simp) ?_
  intro v' w' h1 h2 _
  rw [Nat.zero_add, List.nil_append] at h1
  exact h v' w' h1 ⟨h2.os.trans hB.os, h2.tape.trans hB.tape, h2.output.trans hB.output, Nat.le_trans hB.size h2.size, fun k hk => (h2.block k (by simp; omega) (by simp [Value.ownBlock]; omega)).trans (hB.block k hk)⟩
/-- 'append(p, x...)' of a great x. -/
theorem wpList_more_big {w : World} {ops : Array Oper} {rest : List Oper} {o : Oper} {a : Act} {Q : Exit → Act → World → Prop} (hgd : o.guard = none) (s x : Operand)
    (ho : o.op = .call { callee := .builtin .append, args := #[s, x], argTypes := #[22, 22] })
    (base n : Nat) (v : Value) (zs : List Int) (hs : a.eval s = v) (hown : w.ownsRow base 5 1 v n (vals zs)) (hn : 1 ≤ n)
    (ad : Option Addr) (m c : Nat) (ys : List Int) (hx : a.eval x = .slice ad m c) (hc : ad = none → c = 0) (hm : ys.length = m) (hr : Row w ad ys) (hbig : n + m ≤ 200000000000000) (hbase : base ≤ w.heap.size)
    (h : ∀ v' w', w'.ownsRow base 5 1 v' (n + m) (vals (zs ++ ys)) → w.grownBy w' v.ownBlock → wpList Try.prog ops Q rest (a.put o.dst v') w') : wpList Try.prog ops Q (o :: rest) a w := by
  obtain ⟨i0, hi, hz0, hz1, hz2⟩ := info_parts Try.info5
  cases ad with
  | none =>
    have hb : ys = [] := by
      rcases hr with h | ⟨b, off, h, _⟩
      · exact h
      · cases h
    have hc0 := hc rfl
    subst hb hc0
    simp at hm
    subst hm
    obtain ⟨a', c', hv, -, -, h1, -, -⟩ := row_of_owns hown
    subst hv
    refine wpList_append_sl_none hgd s x 22 ho 5 i0 Try.underlying22 hi a' n c' hs h1 hx ?_
    refine h _ w ?_ ⟨rfl, rfl, rfl, Nat.le_refl _, fun _ _ _ => rfl⟩
    rw [List.append_nil]; exact hown
  | some y =>
    obtain ⟨v', w', hrun, h2, h3⟩ := run_append_big w base o.type n m c v (vals zs) (vals ys) hown hn y (by rw [vals_len]; exact hm) (news_row hr) (vals_one ys) hbig hbase
    refine wpList_plain hgd fun _ hK => ?_
    unfold Oper.wp execOp
    simp only [ho, resolve, invoke, builtin, Sem.run_bind, Sem.run_pure, Result.andThen_ok, List.map_toArray, List.map_cons, List.map_nil, hs, hx, hrun]
    refine hK _ _ (h v' w' ?_ h3)
    have : vals (zs ++ ys) = vals zs ++ vals ys := by simp [vals]
    rw [this]; exact h2
end Go.Proofs.Ytcbmlioeeoghkaa
/- LZW: Pack. -/
namespace Go.Proofs.Ytcbmlioeeoghkaa
open Go.RowKit
set_option maxHeartbeats 800000 in
theorem areRoots_any {w : World} {av : Option Addr} {n cap L : Nat} {bs : List Int} (hL : 2 ≤ L ∧ L ≤ 8) (hbn : bs.length = n) (hnc : n ≤ cap) (hcap : cap ≤ 9223372036854775807) (hrow : Row w av bs) (hby : Bytes bs) :
    Calls Try.prog 30 #[.slice av n cap, .int .i64 L] w fun e w' => e = .returned (.bool (decide (∀ v ∈ bs, v < ((2 ^ L : Nat) : Int)))) ∧ w' = w := by
  have CC := clearCode_any hL w
  have hb := fc_bd hL
  obtain ⟨P, hP⟩ : ∃ P, 2 ^ L = P := ⟨_, rfl⟩
  rw [hP] at CC hb ⊢
  have HA : Hid (bs.length = n ∧ Row w av bs ∧ Bytes bs) := ⟨hbn, hrow, hby⟩
  clear hP hbn hrow hby
  go_enter Try.func30, Try.ntmps30
  go_wp2
  go_loopw [4, 6, 9, 10, 11, 12, 13, 14, 15, 16, 17, 18] (fun _ _ v9 _ _ _ _ _ _ _ _ _ wr => ∃ j : Nat, v9 = .int .i64 (j : Int) ∧ j ≤ n ∧ Hid (∀ v ∈ bs.take j, v < (P : Int)) ∧ wr = w) (fun _ _ v9 _ _ _ _ _ _ _ _ _ _ => n - (intOf v9).toNat)
  case atStart => exact ⟨0, rfl, Nat.zero_le _, (by intro v hv; simp at hv), rfl⟩
  case round =>
    obtain ⟨j, rfl, hjn, HV, rfl⟩ := hrel
    by_cases hlt : j < n
    · have hltI : (j : Int) < (n : Int) := by omega
      have hjl : j < bs.length := by have := HA.out.1; omega
      have hyb := byte_at HA.out.2.2 j
      obtain ⟨b, off, hav, hce⟩ : ∃ b off, av = some ⟨b, off, none⟩ ∧ wr.cell? ⟨b, off + j, none⟩ = some (.int .u8 ((bs[j]?).getD 0)) := by
        rcases HA.out.2.1 with h | ⟨b, off, h1, h2⟩
        · rw [h] at hjl; simp at hjl
        · exact ⟨b, off, h1, h2 j hjl⟩
      subst hav
      have htk : bs.take (j + 1) = bs.take j ++ [(bs[j]?).getD 0] := by
        rw [List.take_add_one, List.getElem?_eq_getElem hjl]; rfl
      obtain ⟨y, hy⟩ : ∃ y, (bs[j]?).getD 0 = y := ⟨_, rfl⟩
      have HY : Hid (y ∈ bs) := by
        rw [← hy, List.getElem?_eq_getElem hjl]; exact List.getElem_mem hjl
      rw [hy] at hce hyb htk
      have hj0 : (0 : Int) ≤ (j : Int) := by omega
      by_cases hyP : y < (P : Int)
      · have HN : Hid (∀ v ∈ bs.take (j + 1), v < (P : Int)) := by
          intro v hv
          rw [htk] at hv
          rcases List.mem_append.1 hv with h | h
          · exact HV.out v h
          · rw [List.mem_singleton] at h; rw [h]; exact hyP
        have hyP2 : ¬ (P : Int) ≤ y := by omega
        clear htk HV hy
        go_wp2_with fail
        refine CC.mono ?_
        rintro e w1 ⟨rfl, hw1⟩
        subst w1
        go_wp2
        go_roundw
        case rel => exact ⟨j + 1, by go_num, by omega, HN.out, trivial⟩
        case measure => simp [intOf]; omega
      · have hyP2 : (P : Int) ≤ y := by omega
        have HF : Hid (decide (∀ v ∈ bs, v < (P : Int)) = false) := by
          refine decide_eq_false fun h => ?_
          have := h y HY.out; omega
        clear htk HV hy hyP
        go_wp2_with fail
        refine CC.mono ?_
        rintro e w1 ⟨rfl, hw1⟩
        subst w1
        go_wp2
        go_ret
        exact ⟨by rw [HF.out]; rfl, rfl⟩
    · obtain rfl : j = n := by omega
      have HF : Hid (decide (∀ v ∈ bs, v < (P : Int)) = true) := by
        refine decide_eq_true ?_
        have := HV.out
        rwa [List.take_of_length_le (by have := HA.out.1; omega)] at this
      clear HV
      go_wp2
      go_ret
      exact ⟨by rw [HF.out]; rfl, rfl⟩
set_option maxHeartbeats 400000 in
/-- A number of least bits, or of late ones, that may not be. -/
theorem lpack_arg (v : Value) (l t : Int) (h : ¬ (2 ≤ l ∧ l ≤ 8) ∨ t < 0) (w : World) : Calls Try.prog 18 #[v, .int .i64 l, .int .i64 t] w fun e w' => e = .returned (.tuple #[.slice none 0 0, .int .i64 1]) ∧ w' = w := by
  have C := isLeast_any l w
  by_cases hl : 2 ≤ l ∧ l ≤ 8
  · have ht : t < 0 := by omega
    rw [decide_eq_true hl] at C
    clear h hl
    go_enter Try.func18, Try.ntmps18
    go_wp2_with fail
    refine C.mono ?_
    rintro e w1 ⟨rfl, hw1⟩
    subst w1
    go_wp2
    go_ret2
    exact ⟨rfl, rfl⟩
  · rw [decide_eq_false hl] at C
    clear h hl
    go_enter Try.func18, Try.ntmps18
    go_wp2_with fail
    refine C.mono ?_
    rintro e w1 ⟨rfl, hw1⟩
    subst w1
    go_wp2
    go_ret2
    exact ⟨rfl, rfl⟩
set_option maxHeartbeats 400000 in
/-- Bytes that are no roots. -/
theorem lpack_root {w : World} {av : Option Addr} {n cap L : Nat} {t : Int} {bs : List Int} (hL : 2 ≤ L ∧ L ≤ 8) (ht : 0 ≤ t) (hbn : bs.length = n) (hnc : n ≤ cap) (hcap : cap ≤ 9223372036854775807) (hrow : Row w av bs) (hby : Bytes bs) (hno : ¬ ∀ v ∈ bs, v < ((2 ^ L : Nat) : Int)) :
    Calls Try.prog 18 #[.slice av n cap, .int .i64 L, .int .i64 t] w fun e w' => e = .returned (.tuple #[.slice none 0 0, .int .i64 1]) ∧ w' = w := by
  have C := isLeast_any (L : Int) w
  rw [decide_eq_true (by omega)] at C
  have C2 := areRoots_any hL hbn hnc hcap hrow hby
  rw [decide_eq_false hno] at C2
  have ht2 : ¬ t < 0 := by omega
  clear hbn hrow hby hno
  go_enter Try.func18, Try.ntmps18
  go_wp2_with fail
  refine C.mono ?_
  clear C
  rintro e w1 ⟨rfl, hw1⟩
  subst w1
  go_wp2_with fail
  refine C2.mono ?_
  rintro e w1 ⟨rfl, hw1⟩
  subst w1
  go_wp2
  go_ret2
  exact ⟨rfl, rfl⟩
end Go.Proofs.Ytcbmlioeeoghkaa
/- LZW: Pack, of bytes that are roots. -/
namespace Go.Proofs.Ytcbmlioeeoghkaa
open Go.RowKit
theorem mkmapT (w : World) : (Instr.makeMap 66 none).run Try.prog w = .ok (.map (some w.heap.size)) (w.alloc (.map #[] 0)) := by
  simp [Instr.makeMap]
theorem pkE_fuel (L : Nat) (late : Int) : ∀ (n k : Nat) (b : List Int) (fs : List Tx) (wr : Nat), b.length ≤ n → b.length ≤ k → pkE L late n b fs wr = pkE L late k b fs wr
  | 0, 0, _, _, _, _, _ => rfl
  | 0, k + 1, b, fs, wr, h1, _ => by
    obtain rfl : b = [] := List.length_eq_zero_iff.1 (by omega)
    rfl
  | n + 1, 0, b, fs, wr, _, h2 => by
    obtain rfl : b = [] := List.length_eq_zero_iff.1 (by omega)
    rfl
  | n + 1, k + 1, [], fs, wr, _, _ => rfl
  | n + 1, k + 1, x :: r, fs, wr, h1, h2 => by
    unfold pkE
    cases hd : r.drop (lngN L fs x.toNat r).2 with
    | nil => rfl
    | cons y b =>
      have hl : (y :: b).length ≤ r.length := by rw [← hd, List.length_drop]; omega
      simp only [List.length_cons] at h1 h2 hl
      simp only
      rw [pkE_fuel L late n k (y :: b) [] 0 (by simp only [List.length_cons]; omega) (by simp only [List.length_cons]; omega), pkE_fuel L late n k (y :: b) (lrnP L fs (lngN L fs x.toNat r).1 y) (wr + 1) (by simp only [List.length_cons]; omega) (by simp only [List.length_cons]; omega)]
def NewBytes2 (w : World) (zs : List Int) (e : Ending) (w' : World) : Prop :=
  ∃ a cap, e = .returned (.tuple #[.slice a zs.length cap, .int .i64 0]) ∧ zs.length ≤ cap ∧ cap ≤ maxLen ∧ (a = none → cap = 0) ∧ Row w' a zs ∧ Below w.heap.size w w'
/-- Between two codes. -/
structure PkR (w : World) (p r m L : Nat) (late : Int) (N : Nat) (ALL : List Em) (bs : List Int) (ar : Option Addr) (cr : Nat) (fs : List Tx) (wn : Nat) (es : List Em) (g : Option Nat) (wr : World) : Prop where
  pk : Pk w.heap.size wr p r m g L fs wn es
  be : Below w.heap.size w wr
  row : Row w ar bs
  c0 : ar = none → cr = 0
  cle : bs.length ≤ cr
  cm : cr ≤ 9223372036854775807
  byt : Bytes bs
  rt : ∀ v ∈ bs, v < ((2 ^ L : Nat) : Int)
  all : es ++ pkE L late bs.length bs fs wn = ALL
  fl : fs.length ≤ wn ∧ fcN L + fs.length ≤ 4096
  bits : cntE es + 24 * bs.length ≤ 12 + 24 * N
  wl : wn + bs.length ≤ N
set_option maxHeartbeats 6400000 in
set_option maxRecDepth 100000 in
theorem lpack_yes {w : World} {av : Option Addr} {n cap L : Nat} {t : Int} {bs : List Int} (hL : 2 ≤ L ∧ L ≤ 8) (ht : 0 ≤ t) (hn4 : n ≤ 40000) (hbn : bs.length = n) (hnc : n ≤ cap) (hcap : cap ≤ 9223372036854775807) (hc0 : av = none → cap = 0) (hrow : Row w av bs) (hby : Bytes bs) (hrt : ∀ v ∈ bs, v < ((2 ^ L : Nat) : Int)) :
    Calls Try.prog 18 #[.slice av n cap, .int .i64 L, .int .i64 t] w fun e w' => NewBytes2 w (outE (pkA L t bs)) e w' := by
  have C := isLeast_any (L : Int) w
  rw [decide_eq_true (by omega)] at C
  have C2 := areRoots_any hL hbn hnc hcap hrow hby
  rw [decide_eq_true hrt] at C2
  have ht2 : ¬ t < 0 := by omega
  have htd : decide (t < 0) = false := decide_eq_false ht2
  obtain ⟨ALL, hALL⟩ : ∃ ALL, pkA L t bs = ALL := ⟨_, rfl⟩
  rw [hALL]
  have HA : Hid (bs.length = n ∧ Row w av bs ∧ Bytes bs ∧ (∀ v ∈ bs, v < ((2 ^ L : Nat) : Int)) ∧ (av = none → cap = 0) ∧ pkA L t bs = ALL ∧ 2 ≤ L ∧ L ≤ 8) := ⟨hbn, hrow, hby, hrt, hc0, hALL, hL⟩
  have hF : 6 ≤ fcN L ∧ fcN L ≤ 258 := by have := fc_bd hL; unfold fcN; omega
  clear hbn hrow hby hrt hc0 hALL
  have hmk := mkmapT
  go_enter Try.func18, Try.ntmps18
  go_wp2_with fail
  refine C.mono ?_
  clear C
  rintro e w1 ⟨rfl, hw1⟩
  subst w1
  go_wp2_with fail
  refine C2.mono ?_
  clear C2
  rintro e w1 ⟨rfl, hw1⟩
  subst w1
  go_wp2_with fail
  refine (newW_any w).mono ?_
  rintro e w1 ⟨r, rfl, hr1, hw1, hb1⟩
  obtain ⟨w3, hw3⟩ : ∃ w3, (w1.alloc (.map #[] 0)).alloc (.cells #[.int .i64 (L : Int), .pointer (some ⟨r, 0, none⟩), .map (some w1.heap.size), .int .i64 0] 68) = w3 := ⟨_, rfl⟩
  have hb3 : Below w1.heap.size w1 w3 := by rw [← hw3]; exact ((Below.refl _ w1).alloc (Nat.le_refl _) _).alloc (by simp) _
  have HP3 : Hid (Pk w.heap.size w3 (w1.heap.size + 1) r w1.heap.size none L [] 0 [] ∧ Below w.heap.size w w3) := by
    have hm3 : w3.heap[w1.heap.size]? = some (.map #[] 0) := by rw [← hw3, Below.heap_alloc _ _ _ (by simp)]; exact heap_alloc_new w1 _
    have hp3 : w3.heap[w1.heap.size + 1]? = some (.cells #[.int .i64 (L : Int), .pointer (some ⟨r, 0, none⟩), .map (some w1.heap.size), .int .i64 0] 68 (0, 0)) := by rw [← hw3]; have := heap_alloc_new (w1.alloc (.map #[] 0)) (.cells #[.int .i64 (L : Int), .pointer (some ⟨r, 0, none⟩), .map (some w1.heap.size), .int .i64 0] 68); rwa [World.size_alloc] at this
    have hs := hb1.size
    refine ⟨⟨hp3, ⟨[], hw1.old hb3, ?_⟩, MapT.of_made hm3, by omega, hr1, hs, (fun k hk => by cases hk)⟩, hb1.trans (hb3.mono hs)⟩
    exact ⟨fun x hx => by simp at hx, rfl, rfl, by simp [cntE, numE]⟩
  clear hw1 hb1 hb3 hr1
  obtain ⟨p, hp⟩ : ∃ p, w1.heap.size + 1 = p := ⟨_, rfl⟩
  obtain ⟨m, hm⟩ : ∃ m, w1.heap.size = m := ⟨_, rfl⟩
  have HP3' := HP3.out
  rw [hp, hm] at HP3'
  rw [hm] at hp hw3
  have CB := pbegin_any hL HP3'.1 (by simp [cntE]) (by omega)
  have HB3 : Hid (Below w.heap.size w w3) := HP3'.2
  clear HP3 HP3'
  go_wp2_with fail
  clear hp hm hw3 hmk
  refine CB.mono ?_
  clear CB
  rintro e w4 ⟨rfl, g4, hp4, hb4⟩
  have HR0 : Hid (PkR w p r m L t n ALL bs av cap [] 0 [(2 ^ L, widW L 0)] g4 w4) := by
    obtain ⟨h1, h2, h3, h4, h5, h6, h7, h8⟩ := HA.out
    have hwd := (widN_le L (fcN L + (0 - 1)) hL.2).2
    refine ⟨hp4, HB3.out.trans hb4, h2, h5, by omega, hcap, h3, h4, h6, ⟨Nat.le_refl _, by simp; omega⟩, ?_, by omega⟩
    rw [h1]
    show widW L 0 + 0 + 24 * n ≤ _
    unfold widW; omega
  have HAV : Hid (Value.slice av n cap = .slice av bs.length cap) := by show _ = _; rw [HA.out.1]
  clear hp4 hb4 HB3
  go_wp2
  go_loopw [0, 9, 10, 31, 32, 33, 34, 35, 36, 37, 38, 39, 40, 41, 42, 43, 44, 45, 46, 47, 48, 49, 50, 51, 52, 53, 54, 55, 56, 57, 58, 59, 60, 61, 62, 63, 64, 65, 66, 67, 68, 69, 70, 71, 72, 73] (fun v0 _ _ _ _ _ _ _ _ _ _ _ _ _ _ _ _ _ _ _ _ _ _ _ _ _ _ _ _ _ _ _ _ _ _ _ _ _ _ _ _ _ _ _ _ _ wr => ∃ (b : List Int) (ar : Option Addr) (cr : Nat) (fs : List Tx) (wn : Nat) (es : List Em) (g : Option Nat), Hid (v0 = .slice ar b.length cr) ∧ Hid (PkR w p r m L t n ALL b ar cr fs wn es g wr)) (fun v0 _ _ _ _ _ _ _ _ _ _ _ _ _ _ _ _ _ _ _ _ _ _ _ _ _ _ _ _ _ _ _ _ _ _ _ _ _ _ _ _ _ _ _ _ _ _ => match v0 with | .slice _ n _ => n | _ => 0)
  case atStart => exact ⟨bs, av, cap, _, _, _, g4, HAV.out, HR0.out⟩
  case round =>
    clear HR0 HAV
    obtain ⟨b, ar, cr, fs, wn, es, g, HV, HX⟩ := hrel
    obtain ⟨M, hM⟩ : ∃ M, b.length = M := ⟨_, rfl⟩
    rw [HV.out, hM]
    have HM : Hid (b.length = M) := hM
    have hM4 : M ≤ 40000 := by have := HX.out.wl; omega
    have hMc : M ≤ cr := by have := HX.out.cle; omega
    have hcr := HX.out.cm
    have hwn : wn ≤ 40000 := by have := HX.out.wl; omega
    have HBE : Hid (Below w.heap.size w wr) := HX.out.be
    clear hM HV
    cases b with
    | nil =>
      obtain rfl : M = 0 := HM.out.symm
      have CE := endCode_any hL wr
      have hw9 := (widN_le L (fcN L + (wn - 1)) hL.2)
      have CT := pput_any (c := 2 ^ L + 1) hL HX.out.pk (by have := (widN_le L (fcN L + (wn - 1)) hL.2).1; have h2 : 2 ^ (L + 1) ≤ 2 ^ widW L wn := Nat.pow_le_pow_right (by omega) this; have := fc_bd hL; rw [Nat.pow_succ] at h2; omega) (by have := HX.out.bits; omega) (by omega)
      have HAT : Hid (es ++ [(2 ^ L + 1, widW L wn)] = ALL) := HX.out.all
      have HBT : Hid (cntE (es ++ [(2 ^ L + 1, widW L wn)]) ≤ 2000000) := by
        have := HX.out.bits
        rw [cntE_app]; show cntE es + (widW L wn + 0) ≤ _; unfold widW; omega
      have HBB : Hid (Below w.heap.size w wr) := HBE.out
      generalize es ++ [(2 ^ L + 1, widW L wn)] = es2 at *
      generalize 2 ^ L + 1 = E1 at *
      clear HX hw9 HM HBE
      go_wp2_with fail
      refine CE.mono ?_
      rintro e wx ⟨rfl, hwx⟩
      subst wx
      go_wp2_with fail
      refine CT.mono ?_
      clear CT
      rintro e w9 ⟨rfl, g9, hp9, hb9⟩
      obtain ⟨zs9, hz9, hz9b⟩ := hp9.wz
      have hk1 := (four_cells hp9.pc).2.1
      have CO := outW_any r g9 zs9 _ w9 hz9 (by have := hz9b.2.1; have := HBT.out; omega)
      have HFI : Hid (zs9 = outE ALL ∧ Below w.heap.size w w9) := ⟨by have := hz9b.out; rwa [HAT.out] at this, HBB.out.trans hb9⟩
      clear hp9 hb9 hz9 hz9b
      go_wp2_with fail
      refine CO.mono ?_
      clear CO
      rintro e w10 ⟨a10, c10, rfl, h101, h102, h103, h104, h105⟩
      have HPP : Hid (NewBytes2 w (outE ALL) (.returned (.tuple #[.slice a10 zs9.length c10, .int .i64 0])) w10) := by
        rw [← HFI.out.1]
        exact ⟨a10, c10, rfl, h101, h102, h103, h104, HFI.out.2.trans (h105.mono HFI.out.2.size)⟩
      clear h101 h102 h103 h104 h105
      go_wp2
      go_ret2
      exact HPP.out
    | cons x rr =>
      have hx : 0 ≤ x ∧ x < ((2 ^ L : Nat) : Int) := ⟨(HX.out.byt x (by simp)).1, HX.out.rt x (by simp)⟩
      have hPb := fc_bd hL
      have hlr : rr.length + 1 = M := HM.out
      obtain ⟨c, k, hq⟩ : ∃ c k, lngN L fs x.toNat rr = (c, k) := ⟨_, _, rfl⟩
      have hqc : c < fcN L + fs.length := by have := lng_bound (L := L) (fs := fs) rr x.toNat (by unfold fcN; omega); rw [hq] at this; exact this
      have hqk : k ≤ rr.length := by have := lng_len (L := L) (fs := fs) rr x.toNat; rw [hq] at this; exact this
      have hmx : ∀ y r', rr.drop k = y :: r' → ixT fs c y = none := fun y r' h => by have := lng_max (L := L) (fs := fs) rr x.toNat y r'; rw [hq] at this; exact this h
      have hfl := HX.out.fl
      have C1 := plongest_any (bs := x :: rr) (n := M) (av := ar) (cap := cr) HX.out.pk.pc HX.out.pk.mp hL HX.out.fl.2 HM.out (by omega) (by omega) hMc hcr (HX.out.row.old HX.out.be) HX.out.byt
      simp only [List.getElem?_cons_zero, Option.getD_some, List.drop_succ_cons, List.drop_zero] at C1
      rw [hq] at C1
      obtain ⟨K, hK⟩ : ∃ K, k + 1 = K := ⟨_, rfl⟩
      simp only at C1
      rw [hK] at C1
      have hKM : K ≤ M := by omega
      have hMp : (0 : Int) < (M : Int) := by omega
      have HP1 : Hid (∀ z, Calls Try.prog 34 #[.pointer (some ⟨p, 0, none⟩), .int .i64 c] (wr.drewN z) fun e w' => PpP w.heap.size (wr.drewN z) p r m L fs wn (es ++ [(c, widW L wn)]) e w') := fun z => pput_any hL (HX.out.pk.drewN z) (widN_fits hL.2 (by omega) (by omega)) (by have := HX.out.bits; simp only [List.length_cons] at this; omega) (by omega)
      obtain ⟨E, hE⟩ : ∃ E, es ++ [(c, widW L wn)] = E := ⟨_, rfl⟩
      rw [hE] at HP1
      have hwb := widN_le L (fcN L + (wn - 1)) hL.2
      have HALL : Hid (E ++ (match rr.drop k with
          | [] => [(2 ^ L + 1, widW L (wn + 1))]
          | y :: b => if (wn : Int) + 1 - ((4096 - fcN L : Nat) : Int) = t then (2 ^ L, widW L (wn + 1)) :: pkE L t rr.length (y :: b) [] 0
            else pkE L t rr.length (y :: b) (lrnP L fs c y) (wn + 1)) = ALL) := by
        have h := HX.out.all
        simp only [List.length_cons, pkE] at h
        rw [hq] at h
        show _ = _
        rw [← hE, ← h, List.append_assoc]
        rfl
      have HBI : Hid (cntE E + 24 * (M - K) + 12 ≤ 12 + 24 * n ∧ wn + 1 + (M - K) ≤ n) := by
        have h1 := HX.out.bits
        have h2 := HX.out.wl
        simp only [List.length_cons] at h1 h2
        rw [← hE, cntE_app]
        show cntE es + (widW L wn + 0) + _ + 12 ≤ _ ∧ _
        unfold widW
        omega
      have HRO : Hid (Row w ar (x :: rr) ∧ (ar = none → cr = 0) ∧ (∀ v ∈ rr, v < ((2 ^ L : Nat) : Int)) ∧ Bytes rr ∧ k + 1 = K ∧ rr.length + 1 = M ∧ k ≤ rr.length ∧ (∀ y r', rr.drop k = y :: r' → ixT fs c y = none) ∧ c < 4096 ∧ fs.length ≤ wn ∧ fcN L + fs.length ≤ 4096) := ⟨HX.out.row, HX.out.c0, fun v hv => HX.out.rt v (by simp [hv]), fun v hv => HX.out.byt v (by simp [hv]), hK, hlr, hqk, hmx, by omega, hfl⟩
      clear HX hE hq hqc hqk hmx hfl hx hK hlr hwb
      go_wp2_with fail
      refine C1.mono ?_
      clear C1
      rintro e w1 ⟨⟨z, rfl⟩, rfl⟩
      have CP := HP1.out z
      clear HP1
      go_wp2_with fail
      refine CP.mono ?_
      clear CP
      rintro e w2 ⟨rfl, g2, hp2, hb2⟩
      obtain ⟨-, -, -, k3, kf⟩ := four_cells hp2.pc
      have f3 := kf 3
      have hs2 := hp2.setW (wn + 1)
      rw [show ((wn + 1 : Nat) : Int) = (wn : Int) + 1 from rfl] at hs2
      obtain ⟨w3, hw3⟩ : ∃ w3, w2.setCell ⟨p, 3, none⟩ (.int .i64 ((wn : Int) + 1)) = w3 := ⟨_, rfl⟩
      rw [hw3] at hs2
      have HP3 : Hid (Pk w.heap.size w3 p r m g2 L fs (wn + 1) E ∧ Below w.heap.size w w3) := ⟨hs2.1, HBE.out.trans ((show Below w.heap.size wr w2 from ⟨hb2.os, hb2.tape, hb2.output, hb2.size, hb2.block⟩).trans hs2.2)⟩
      clear hp2 hb2 kf hs2
      have hKMi : (K : Int) ≤ (M : Int) := by omega
      have hKci : (K : Int) ≤ (cr : Int) := by omega
      have hKc : K ≤ cr := by omega
      go_upto_region 9 with fail
      clear hw3 k3 f3
      go_cut [0, 52] (fun v0 v52 wx => wx = w3 ∧ v52 = v0 ∧ v0 = .slice (if cr = K then ar else Option.map (fun x => x.add K) ar) (M - K) (cr - K))
      case first =>
        by_cases hcK : cr = K
        · obtain rfl : M = K := by omega
          subst hcK
          go_wp2
          go_meet
          exact ⟨rfl, rfl, by simp⟩
        · have hcKi : ¬ (cr : Int) = (K : Int) := by omega
          go_wp2
          go_meet
          exact ⟨rfl, rfl, by rw [if_neg hcK]⟩
      case rest =>
        obtain ⟨rfl, rfl, hv0⟩ := hcut
        have HR2 : Hid (Row w (if cr = K then ar else Option.map (fun x => x.add K) ar) (rr.drop k) ∧ ((if cr = K then ar else Option.map (fun x => x.add K) ar) = none → cr - K = 0)) := by
          obtain ⟨r1, r2, -, -, r5, r6, r7, -⟩ := HRO.out
          have h := r1.cut K cr (by simp only [List.length_cons]; omega) (by simp only [List.length_cons]; omega)
          rw [← r5, List.drop_succ_cons] at h
          rw [r5] at h
          refine ⟨h, fun e => ?_⟩
          by_cases hcK : cr = K
          · omega
          · rw [if_neg hcK] at e
            cases ar with
            | none => have := r2 rfl; omega
            | some y => simp at e
        generalize (if cr = K then ar else Option.map (fun x => x.add K) ar) = ar2 at *
        subst hv0
        obtain ⟨C2, hC2⟩ : ∃ C2, cr - K = C2 := ⟨_, rfl⟩
        obtain ⟨M2, hM2⟩ : ∃ M2, M - K = M2 := ⟨_, rfl⟩
        have HC2 : Hid (cr - K = C2 ∧ M - K = M2 ∧ 1 ≤ K) := ⟨hC2, hM2, by have := HRO.out; omega⟩
        rw [hC2, hM2]
        have hMC2 : M2 ≤ C2 := by omega
        have hC2b : C2 ≤ 9223372036854775807 := by omega
        have hM2b : M2 ≤ 40000 := by omega
        have HLN : Hid ((rr.drop k).length = M2) := by have := HRO.out; rw [List.length_drop]; show _ = _; omega
        clear hC2 hM2 hKMi hKci hKc hKM
        cases hd : rr.drop k with
        | nil =>
          rw [hd] at HALL HLN
          obtain rfl : M2 = 0 := HLN.out.symm
          have CE := endCode_any hL wc
          have CT := pput_any (c := 2 ^ L + 1) hL HP3.out.1 (by have := (widN_le L (fcN L + (wn + 1 - 1)) hL.2).1; have h2 : 2 ^ (L + 1) ≤ 2 ^ widW L (wn + 1) := Nat.pow_le_pow_right (by omega) this; rw [Nat.pow_succ] at h2; omega) (by have := HBI.out; omega) (by omega)
          have HAT : Hid (E ++ [(2 ^ L + 1, widW L (wn + 1))] = ALL) := HALL.out
          have HBT : Hid (cntE (E ++ [(2 ^ L + 1, widW L (wn + 1))]) ≤ 2000000) := by
            have := HBI.out
            have hw9 := (widN_le L (fcN L + (wn + 1 - 1)) hL.2)
            rw [cntE_app]; show cntE E + (widW L (wn + 1) + 0) ≤ _; unfold widW; omega
          have HBB : Hid (Below w.heap.size w wc) := HP3.out.2
          generalize E ++ [(2 ^ L + 1, widW L (wn + 1))] = es2 at *
          generalize 2 ^ L + 1 = E1 at *
          clear HALL HLN HBI HP3 HR2 HC2 HRO HM HBE hd hMC2
          go_wp2_with fail
          refine CE.mono ?_
          rintro e wx ⟨rfl, hwx⟩
          subst wx
          go_wp2_with fail
          refine CT.mono ?_
          clear CT
          rintro e w9 ⟨rfl, g9, hp9, hb9⟩
          obtain ⟨zs9, hz9, hz9b⟩ := hp9.wz
          have hk1 := (four_cells hp9.pc).2.1
          have CO := outW_any r g9 zs9 _ w9 hz9 (by have := hz9b.2.1; have := HBT.out; omega)
          have HFI : Hid (zs9 = outE ALL ∧ Below w.heap.size w w9) := ⟨by have := hz9b.out; rwa [HAT.out] at this, HBB.out.trans hb9⟩
          clear hp9 hb9 hz9 hz9b
          go_wp2_with fail
          refine CO.mono ?_
          clear CO
          rintro e w10 ⟨a10, c10, rfl, h101, h102, h103, h104, h105⟩
          have HPP : Hid (NewBytes2 w (outE ALL) (.returned (.tuple #[.slice a10 zs9.length c10, .int .i64 0])) w10) := by
            rw [← HFI.out.1]
            exact ⟨a10, c10, rfl, h101, h102, h103, h104, HFI.out.2.trans (h105.mono HFI.out.2.size)⟩
          clear h101 h102 h103 h104 h105
          go_wp2
          go_ret2
          exact HPP.out
        | cons y rb =>
          rw [hd] at HALL HLN HR2
          have hM21 : 1 ≤ M2 := by have := HLN.out; simp only [List.length_cons] at this; omega
          obtain ⟨b0, off0, hav, hce⟩ : ∃ b0 off0, ar2 = some ⟨b0, off0, none⟩ ∧ wc.cell? ⟨b0, off0, none⟩ = some (.int .u8 y) := by
            rcases HR2.out.1.old HP3.out.2 with h | ⟨b0, off0, h1, h2⟩
            · cases h
            · exact ⟨b0, off0, h1, by have := h2 0 (by simp); simpa using this⟩
          have hyb : 0 ≤ y ∧ y < 256 := HRO.out.2.2.2.1 y (List.mem_of_mem_drop (by rw [hd]; simp))
          have CL := plearn_any (c := c) (y := y) hL HP3.out.1 HRO.out.2.2.2.2.2.2.2.2.1 hyb (HRO.out.2.2.2.2.2.2.2.1 y rb hd) (by have := HRO.out; omega)
          subst hav
          have hM20 : ¬ (M2 : Int) = 0 := by omega
          have hM2p : (0 : Int) < (M2 : Int) := by omega
          have hM2n : ¬ M2 = 0 := by omega
          obtain ⟨fs2, hfs2⟩ : ∃ fs2, lrnP L fs c y = fs2 := ⟨_, rfl⟩
          have HF2 : Hid (lrnP L fs c y = fs2 ∧ fs2.length ≤ wn + 1 ∧ fcN L + fs2.length ≤ 4096) := by rw [← hfs2]; exact ⟨rfl, lrnP_len (by omega) HRO.out.2.2.2.2.2.2.2.2.2.1 HRO.out.2.2.2.2.2.2.2.2.2.2⟩
          have HRB : Hid ((∀ v ∈ y :: rb, v < ((2 ^ L : Nat) : Int)) ∧ Bytes (y :: rb) ∧ (y :: rb).length ≤ rr.length) := by
            rw [← hd]
            exact ⟨fun v hv => HRO.out.2.2.1 v (List.mem_of_mem_drop hv), fun v hv => HRO.out.2.2.2.1 v (List.mem_of_mem_drop hv), by rw [List.length_drop]; omega⟩
          rw [hfs2] at CL
          clear hfs2 hd HRO HBE HM
          go_wp2_with fail
          refine CL.mono ?_
          clear CL
          rintro e w5 ⟨rfl, g5, hp5, hb5⟩
          obtain ⟨k0, -, -, k3, -⟩ := four_cells hp5.pc
          rw [show ((wn + 1 : Nat) : Int) = (wn : Int) + 1 from rfl] at k3
          have HP5 : Hid (Pk w.heap.size w5 p r m g5 L fs2 (wn + 1) E ∧ Below w.heap.size w w5) := ⟨hp5, HP3.out.2.trans hb5⟩
          have d0 : w5.drew.cell? ⟨p, 0, none⟩ = _ := k0
          have d3 : w5.drew.cell? ⟨p, 3, none⟩ = _ := k3
          have CR := proom_any hL d0
          obtain ⟨R, hR⟩ : ∃ R, 4096 - fcN L = R := ⟨_, rfl⟩
          rw [hR] at CR
          have HRR : Hid (4096 - fcN L = R) := hR
          obtain ⟨D, hD⟩ : ∃ D : Int, (wn : Int) + 1 - (R : Int) = D := ⟨_, rfl⟩
          have hwd : IntKind.i64.wrap ((wn : Int) + 1 - (R : Int)) = D := by rw [IntKind.wrap_i64]; omega
          have HD : Hid ((wn : Int) + 1 - (R : Int) = D) := hD
          clear hp5 hb5 k0 k3 hR hD HP3 hce
          go_upto_region 12 with fail
          refine wp_region_still_tail 8 (by kernel_rfl) (by kernel_rfl) ?_
          simp only [List.take_succ_cons, List.take_zero, List.drop_succ_cons, List.drop_zero]
          rw [show ({ w5 with drawn := w5.drawn + 1 } : World) = w5.drew from rfl]
          iterate 5 still_step
          still_call CR
          iterate 2 still_step
          refine wpStill_nil ?_
          by_cases hDt : D = t
          · have CB := pbegin_any hL (show Pk w.heap.size w5.drew p r m g5 L fs2 (wn + 1) E from HP5.out.1.drewN 1) (by have := HBI.out; omega) (by omega)
            have HALL2 : Hid ((E ++ [(2 ^ L, widW L (wn + 1))]) ++ pkE L t (y :: rb).length (y :: rb) [] 0 = ALL) := by
              have h := HALL.out
              rw [HRR.out, if_pos (by rw [HD.out]; exact hDt), pkE_fuel L t rr.length (y :: rb).length (y :: rb) [] 0 HRB.out.2.2 (Nat.le_refl _)] at h
              show _ = _
              rw [← h]; simp
            have HB2 : Hid (cntE (E ++ [(2 ^ L, widW L (wn + 1))]) + 24 * M2 ≤ 12 + 24 * n) := by
              have h1 := HBI.out
              have h2 := HC2.out
              have hw9 := (widN_le L (fcN L + (wn + 1 - 1)) hL.2)
              rw [cntE_app]; show cntE E + (widW L (wn + 1) + 0) + _ ≤ _; unfold widW; omega
            generalize E ++ [(2 ^ L, widW L (wn + 1))] = es2 at *
            subst hDt
            clear HALL
            go_wp2_with fail
            refine CB.mono ?_
            clear CB
            rintro e w6 ⟨rfl, g6, hp6, hb6⟩
            have HN : Hid (PkR w p r m L D n ALL (y :: rb) (some ⟨b0, off0, none⟩) C2 [] 0 es2 g6 w6) := by
              have hl := HLN.out
              refine ⟨hp6, HP5.out.2.trans ⟨hb6.os, hb6.tape, hb6.output, hb6.size, hb6.block⟩, HR2.out.1, (fun e => by cases e), by omega, hC2b, HRB.out.2.1, HRB.out.1, HALL2.out, ⟨Nat.le_refl _, by simp; omega⟩, ?_, ?_⟩
              · rw [hl]; exact HB2.out
              · rw [hl]; have := HBI.out; have := HC2.out; omega
            have HVV : Hid (Value.slice (some ⟨b0, off0, none⟩) M2 C2 = .slice (some ⟨b0, off0, none⟩) (y :: rb).length C2) := by show _ = _; rw [HLN.out]
            have HME : Hid (M2 < M) := by have := HC2.out; have := HLN.out; show _ < _; omega
            clear hp6 hb6 HP5 HR2 HRB HALL2 HB2 HBI HC2
            go_wp2
            go_roundw
            case rel => exact ⟨_, _, _, _, _, _, _, HVV.out, HN.out⟩
            case measure => exact HME.out
          · have hDtI : (D == t) = false := by simpa using hDt
            have HN : Hid (PkR w p r m L t n ALL (y :: rb) (some ⟨b0, off0, none⟩) C2 fs2 (wn + 1) E g5 w5.drew) := by
              have hl := HLN.out
              refine ⟨HP5.out.1.drewN 1, ⟨HP5.out.2.os, HP5.out.2.tape, HP5.out.2.output, HP5.out.2.size, HP5.out.2.block⟩, HR2.out.1, (fun e => by cases e), by omega, hC2b, HRB.out.2.1, HRB.out.1, ?_, HF2.out.2, ?_, ?_⟩
              · have h := HALL.out
                rw [HRR.out, if_neg (by rw [HD.out]; exact hDt), pkE_fuel L t rr.length (y :: rb).length (y :: rb) _ _ HRB.out.2.2 (Nat.le_refl _), HF2.out.1] at h
                exact h
              · rw [hl]; have := HBI.out; have := HC2.out; omega
              · rw [hl]; have := HBI.out; have := HC2.out; omega
            have HVV : Hid (Value.slice (some ⟨b0, off0, none⟩) M2 C2 = .slice (some ⟨b0, off0, none⟩) (y :: rb).length C2) := by show _ = _; rw [HLN.out]
            have HME : Hid (M2 < M) := by have := HC2.out; have := HLN.out; show _ < _; omega
            clear HP5 HR2 HRB HALL HBI HC2
            go_wp2
            go_roundw
            case rel => exact ⟨_, _, _, _, _, _, _, HVV.out, HN.out⟩
            case measure => exact HME.out
end Go.Proofs.Ytcbmlioeeoghkaa
/- LZW: the calls whose answers the document fixes. -/
namespace Go.Proofs.Ytcbmlioeeoghkaa
open Go.RowKit
theorem wid_23 {n : Nat} (h : n < 8) : widN 2 n = 3 := by
  unfold widN; rw [widG_eq, if_neg (by omega)]
theorem wid_24 {n : Nat} (h : 8 ≤ n) (h2 : n < 16) : widN 2 n = 4 := by
  unfold widN; rw [widG_eq, if_pos (by omega), widG_eq, if_neg (by omega)]
theorem ex_pk : outE (pkA 2 0 [1, 1, 1, 1]) = [140, 83] := by
  have e : pkA 2 0 [1, 1, 1, 1] = [(4, 3), (1, 3), (6, 3), (1, 3), (5, 4)] := by
    simp [pkA, pkE, lngN, ixT, lrnP, fcN, widW, wid_23, wid_24]
  rw [e]
  decide
theorem tx_root {L c : Nat} {fs : List Tx} (h : c < 2 ^ L) : txC L fs c = [(c : Int) % 256] := txC_root (by unfold fcN; omega)
theorem ex_lz : lzG 2 ((lz0 4).fed [140, 83]) = ⟨1, 0, [], 0, [], 0, 0, [1, 1, 1, 1], []⟩ := by
  have e0 : (lz0 4).fed [140, 83] = ⟨0, 4, [], -1, [140, 83], 0, 0, [], []⟩ := rfl
  rw [e0]
  have w0 : ∀ s : Lz, s.fs.length ≤ 1 → lzW 2 s = 3 := fun s h => wid_23 (by unfold fcN; omega)
  have e1 : lzS 2 ⟨0, 4, [], -1, [140, 83], 0, 0, [], []⟩ = some ⟨0, 4, [], -1, [140, 83], 3, 0, [], []⟩ := by
    simp [lzS, w0, lzV, lzP, lzC, bitV, litN]
  have e2 : lzS 2 ⟨0, 4, [], -1, [140, 83], 3, 0, [], []⟩ = some ⟨0, 3, [], 1, [140, 83], 6, 0, [1], []⟩ := by
    simp [lzS, w0, lzV, lzP, lzC, bitV, litN, flwN, lzT, tx_root]
  have f1 : ∀ fs, fsC 2 fs 1 = 1 := fun fs => fsC_root (by unfold fcN; omega)
  have t6 : txC 2 [(1, 1)] 6 = [1, 1] := by
    rw [txC_eq, if_pos (by decide)]
    show txC 2 [(1, 1)] 1 ++ [1] = _
    rw [tx_root (by decide)]; rfl
  have e3 : lzS 2 ⟨0, 3, [], 1, [140, 83], 6, 0, [1], []⟩ = some ⟨0, 1, [(1, 1)], 6, [83], 1, 0, [1, 1, 1], []⟩ := by
    simp [lzS, w0, lzV, lzP, lzC, bitV, litN, flwN, lzT, f1, fcN, lrnN, t6]
  have e4 : lzS 2 ⟨0, 1, [(1, 1)], 6, [83], 1, 0, [1, 1, 1], []⟩ = some ⟨0, 0, [(1, 1), (6, 1)], 1, [83], 4, 0, [1, 1, 1, 1], []⟩ := by
    simp [lzS, w0, lzV, lzP, lzC, bitV, litN, flwN, lzT, f1, fcN, lrnN, tx_root]
  have w5 : lzW 2 ⟨0, 0, [(1, 1), (6, 1)], 1, [83], 4, 0, [1, 1, 1, 1], []⟩ = 4 := wid_24 (by decide) (by decide)
  have e5 : lzS 2 ⟨0, 0, [(1, 1), (6, 1)], 1, [83], 4, 0, [1, 1, 1, 1], []⟩ = some ⟨1, 0, [], 0, [], 0, 0, [1, 1, 1, 1], []⟩ := by
    simp [lzS, w5, lzV, lzP, lzC, bitV, litN]
  rw [lzG_step (by decide) rfl e1, lzG_step (by decide) rfl e2, lzG_step (by decide) rfl e3, lzG_step (by decide) rfl e4, lzG_done (by decide) rfl e5 (by decide)]
theorem row_litL (w : World) (l : List Int) : Row (w.alloc (.cells (vals l).toArray 5)) (some ⟨w.heap.size, 0, none⟩) l := by
  refine .inr ⟨w.heap.size, 0, rfl, fun i hi => ?_⟩
  rw [Nat.zero_add, World.cell?_alloc_mark]
  simp [vals, List.getElem?_eq_getElem hi]
set_option maxHeartbeats 1600000 in
set_option maxRecDepth 20000 in
theorem lfixed_any (w : World) : Calls Try.prog 9 #[] w fun e w' => e = .returned (.bool true) ∧ Below w.heap.size w w' := by
  have hba : Below w.heap.size w (w.alloc (.cells #[.int .u8 1, .int .u8 1, .int .u8 1, .int .u8 1] 5)) := (Below.refl _ w).alloc (Nat.le_refl _) _
  have C1 : Calls Try.prog 18 #[.slice (some ⟨w.heap.size, 0, none⟩) 4 4, .int .i64 2, .int .i64 0] (w.alloc (.cells #[.int .u8 1, .int .u8 1, .int .u8 1, .int .u8 1] 5)) fun e w' => NewBytes2 (w.alloc (.cells #[.int .u8 1, .int .u8 1, .int .u8 1, .int .u8 1] 5)) (outE (pkA 2 0 [1, 1, 1, 1])) e w' :=
    lpack_yes (L := 2) (t := 0) (bs := [1, 1, 1, 1]) (by decide) (by decide) (by decide) rfl (by decide) (by decide) (fun h => by cases h) (row_litL w [1, 1, 1, 1]) (by intro z hz; simp at hz; omega) (by intro z hz; simp at hz; subst hz; decide)
  rw [ex_pk] at C1
  have HBA : Hid (Below w.heap.size w (w.alloc (.cells #[.int .u8 1, .int .u8 1, .int .u8 1, .int .u8 1] 5))) := hba
  clear hba
  go_enter Try.func9, Try.ntmps9
  go_wp2_with fail
  refine C1.mono ?_
  clear C1
  rintro e w1 ⟨a1, c1, rfl, hc1, hm1, hn1, hr1, hb1⟩
  simp only [List.length_cons, List.length_nil, Nat.zero_add, Nat.reduceAdd] at hc1
  have HB1 : Hid (Below w.heap.size w w1) := HBA.out.trans (hb1.mono HBA.out.size)
  have HR1 : Hid (Row w1 a1 [140, 83] ∧ (a1 = none → c1 = 0)) := ⟨hr1, hn1⟩
  unfold maxLen at hm1
  clear hr1 hb1 hn1 HBA
  have C2 : Calls Try.prog 10 #[.int .i64 2, .int .i64 4] w1 fun e w' => LnPost w1 2 4 e w' := lnew_yes (L := 2) (by decide) 4 (by decide) w1
  go_wp2_with fail
  refine C2.mono ?_
  clear C2
  rintro e w2 ⟨S, rfl, hm2, hb2⟩
  have C3 := lpush_any (by decide) hm2 [140, 83] a1 2 c1 rfl HR1.out.2 (HR1.out.1.old hb2) (by intro z hz; simp at hz; omega) (fun _ => by show 0 + 2 ≤ _; decide) (fun _ => by show 0 + 2 ≤ _; decide)
  have HB2 : Hid (Below w.heap.size w w2 ∧ Row w2 a1 [140, 83] ∧ Below w1.heap.size w1 w2 ∧ ∀ k, S k → w1.heap.size ≤ k) := ⟨HB1.out.trans (hb2.mono HB1.out.size), HR1.out.1.old hb2, hb2, fun k hk => (hm2.sb k hk).1⟩
  clear hm2 hb2
  obtain ⟨D, hD⟩ : ∃ D, w1.heap.size = D := ⟨_, rfl⟩
  rw [hD] at C3 ⊢
  go_wp2_with fail
  refine C3.mono ?_
  clear C3
  rintro e w3 ⟨s', S', T, tv, tg, rfl, hs', hT, hm3, hl3, hg3, hS3, hf3⟩
  rw [ex_lz] at hs'
  subst hs'
  obtain rfl : T = [1, 1, 1, 1] := by simpa [lz0] using hT.symm
  obtain ⟨a3, c3, hv3, -⟩ := hl3.shape
  rw [vals_len] at hv3
  simp only [List.length_cons, List.length_nil, Nat.zero_add, Nat.reduceAdd] at hv3
  subst hv3
  have hb13 : Below w1.heap.size w1 w3 := by
    have h := HB2.out.2.2.1
    exact ⟨hf3.os.trans h.os, hf3.tape.trans h.tape, hf3.output.trans h.output, Nat.le_trans h.size hf3.size, fun k hk => (hf3.block k (by have := h.size; omega) (fun e => by have := HB2.out.2.2.2 k e; omega)).trans (h.block k hk)⟩
  have HX : Hid (Below w.heap.size w w3 ∧ Row w3 a1 [140, 83] ∧ Row w3 a3 [1, 1, 1, 1] ∧ ∃ S, LMem D w3 D 2 ⟨1, 0, [], 0, [], 0, 0, [1, 1, 1, 1], []⟩ S) := ⟨HB1.out.trans (hb13.mono HB1.out.size), HR1.out.1.old hb13, hl3.row rfl, S', hm3⟩
  clear hm3 hl3 hg3 hS3 hf3 hT hb13 HB2 HB1 HR1 hD
  obtain ⟨w4, hw4⟩ : ∃ w4, w3.alloc (.cells #[.int .u8 4] 5) = w4 := ⟨_, rfl⟩
  have hb4 : Below w3.heap.size w3 w4 := by rw [← hw4]; exact (Below.refl _ _).alloc (Nat.le_refl _) _
  have C4 : Calls Try.prog 18 #[.slice (some ⟨w3.heap.size, 0, none⟩) 1 1, .int .i64 2, .int .i64 0] w4 fun e w' => e = .returned (.tuple #[.slice none 0 0, .int .i64 1]) ∧ w' = w4 :=
    lpack_root (L := 2) (t := 0) (bs := [4]) (by decide) (by decide) rfl (by decide) (by decide) (by rw [← hw4]; exact row_litL w3 [4]) (by intro z hz; simp at hz; omega) (by intro h; have := h 4 (by simp); revert this; decide)
  go_wp2_with fail
  refine C4.mono ?_
  clear C4
  rintro e w' ⟨rfl, hw'⟩
  subst w'
  obtain ⟨h1, h2, h3, S2, h4⟩ := HX.out
  have HY : Hid (Below w.heap.size w w4 ∧ Row w4 a1 [140, 83] ∧ Row w4 a3 [1, 1, 1, 1] ∧ LMem D w4 D 2 ⟨1, 0, [], 0, [], 0, 0, [1, 1, 1, 1], []⟩ S2) := ⟨h1.trans (hb4.mono h1.size), h2.old hb4, h3.old hb4, h4.old hb4⟩
  clear HX h1 h2 h3 h4 hb4 hw4
  obtain ⟨w5, hw5⟩ : ∃ w5, w4.alloc (.cells #[.int .u8 140, .int .u8 83] 5) = w5 := ⟨_, rfl⟩
  have hb5 : Below w4.heap.size w4 w5 := by rw [← hw5]; exact (Below.refl _ _).alloc (Nat.le_refl _) _
  have C5 := same_any a1 (some ⟨w4.heap.size, 0, none⟩) 2 c1 2 [140, 83] w5 rfl (HY.out.2.1.old hb5) (by rw [← hw5]; exact row_litL w4 [140, 83])
  go_wp2_with fail
  refine C5.mono ?_
  clear C5
  rintro e w' ⟨rfl, hw'⟩
  subst w'
  obtain ⟨w6, hw6⟩ : ∃ w6, w5.alloc (.cells #[.int .u8 1, .int .u8 1, .int .u8 1, .int .u8 1] 5) = w6 := ⟨_, rfl⟩
  have hb6 : Below w5.heap.size w5 w6 := by rw [← hw6]; exact (Below.refl _ _).alloc (Nat.le_refl _) _
  have C6 := same_any a3 (some ⟨w5.heap.size, 0, none⟩) 4 c3 4 [1, 1, 1, 1] w6 rfl ((HY.out.2.2.1.old hb5).old hb6) (by rw [← hw6]; exact row_litL w5 [1, 1, 1, 1])
  have C7 := ldone_any ((HY.out.2.2.2.old hb5).old hb6)
  have HZ : Hid (Below w.heap.size w w6) := (HY.out.1.trans (hb5.mono HY.out.1.size)).trans (hb6.mono (Nat.le_trans HY.out.1.size hb5.size))
  clear HY hb5 hb6 hw5
  go_wp2_with fail
  refine C6.mono ?_
  clear C6
  rintro e w' ⟨rfl, hw'⟩
  subst w'
  go_wp2_with fail
  refine C7.mono ?_
  clear C7
  rintro e w' ⟨rfl, hw'⟩
  subst w'
  go_wp2
  go_ret
  exact ⟨rfl, HZ.out⟩
end Go.Proofs.Ytcbmlioeeoghkaa
/- LZW: bytes pushed in pieces: the law's own loop, walked. -/
namespace Go.Proofs.Ytcbmlioeeoghkaa
open Go.RowKit
theorem ler_cases (x : Int) : x = 0 ∨ ((x == 0) = false ∧ ¬ x = 0) := by
  by_cases e : x = 0
  · exact .inl e
  · exact .inr ⟨by simpa using e, e⟩
set_option maxHeartbeats 3200000 in
set_option maxRecDepth 20000 in
theorem lall_any (a : Option Addr) (m cap : Nat) (bs : List Int) (N L : Nat) (lim : Int) (w : World) (hL : 2 ≤ L ∧ L ≤ 8) (hm : bs.length = m) (hrow : Row w a bs) (hby : Bytes bs) (hc : m ≤ cap) (hcap : cap ≤ 9223372036854775807) (hnone : a = none → cap = 0) (hlen : m ≤ 200000000000000) (hrs : ∀ t, t ≤ bs.length → (lzO L lim.toNat (bs.take t)).k = 1 → (lzO L lim.toNat (bs.take t)).rest.length + (bs.length - t) ≤ 140737488351232) (hlim : lim ≤ 1000000) (hN1 : 1 ≤ N) (hN2 : N ≤ 900000) :
    Calls Try.prog 17 #[.slice a m cap, .int .i64 N, .int .i64 L, .int .i64 lim] w fun e w' => LaPost w bs L lim.toNat e w' := by
  have HO : Hid (Bytes bs ∧ bs.length = m ∧ lim.toNat ≤ 1000000) := ⟨hby, hm, by omega⟩
  have HR : Hid (Row w a bs ∧ (a = none → cap = 0)) := ⟨hrow, hnone⟩
  have HV : Hid (Value.slice a m cap = .slice a (bs.length - 0) cap) := by show _ = _; rw [hm]; rfl
  clear hby hrow hnone hm
  obtain ⟨n, hn⟩ : ∃ n, lim.toNat = n := ⟨_, rfl⟩
  rw [hn] at HO hrs ⊢
  have HRS : Hid (∀ t, t ≤ bs.length → (lzO L n (bs.take t)).k = 1 → (lzO L n (bs.take t)).rest.length + (bs.length - t) ≤ 140737488351232) := hrs
  clear hrs
  go_enter Try.func17, Try.ntmps17
  go_wp2_with fail
  refine (lnew_yes hL lim (by omega) w).mono ?_
  rintro e w1 ⟨S, rfl, hd, hb1⟩
  rw [hn] at hd
  have HA : Hid (LaR w bs L n w.heap.size 0 S a cap (.slice none 0 0) none w1) := by
    have e := lzO_nil hL.2 n
    exact ⟨Nat.zero_le _, by have := HO.out; omega, hcap, HR.out.2, by simpa using HR.out.1, by rw [List.take_zero, e]; exact hd, by rw [List.take_zero, e]; exact Sl.nil _ _, (fun k hk => by cases hk), hb1⟩
  clear hd hb1 HR hn
  obtain ⟨D, hD⟩ : ∃ D, w.heap.size = D := ⟨_, rfl⟩
  rw [hD] at HA ⊢
  clear hD
  go_wp2
  go_loopg [0, 12, 13, 14, 15] bs.length (fun fu b out _ _ _ wr => ∃ (t : Nat) (S : Nat → Prop) (ar : Option Addr) (cr : Nat) (g : Option Nat), t + fu = bs.length ∧ (1 ≤ fu ∨ t = 0) ∧ Hid (b = .slice ar (bs.length - t) cr) ∧ Hid (LaR w bs L n D t S ar cr out g wr))
  case atStart => exact ⟨0, S, a, cap, none, by omega, .inr rfl, HV.out, HA.out⟩
  case round =>
    clear HA HV
    obtain ⟨t, S, ar, cr, g, ht, ht0, HB, HX⟩ := hrel
    obtain ⟨M, hM⟩ : ∃ M, bs.length - t = M := ⟨_, rfl⟩
    rw [HB.out, hM]
    have HM : Hid (bs.length - t = M ∧ t + gk = bs.length ∧ (1 ≤ gk ∨ t = 0)) := ⟨hM, ht, ht0⟩
    have hMc : M ≤ cr := by have := HX.out.cle; omega
    have hcr2 := HX.out.cm
    obtain ⟨ao, co, hv, -⟩ := HX.out.sl.shape
    rw [vals_len] at hv
    have hzl : (lzO L n (bs.take t)).out.length ≤ 1000000 := by have := lzO_out hL.2 n (bs.take t); have := HO.out; omega
    have HSl : Hid (Sl wr 5 (.slice ao (lzO L n (bs.take t)).out.length co) g (vals (lzO L n (bs.take t)).out)) := by have := HX.out.sl; rw [hv] at this; exact this
    rw [hv]
    clear hM HB ht ht0 hv
    obtain ⟨O, hO⟩ : ∃ O, (lzO L n (bs.take t)).out = O := ⟨_, rfl⟩
    have HOo : Hid ((lzO L n (bs.take t)).out = O) := hO
    rw [hO] at HSl hzl ⊢
    clear hO
    go_upto_region 3 with fail
    go_cut [13] (fun v wx => wx = wr ∧ ∃ K : Nat, v = .int .i64 K ∧ K ≤ M ∧ (K = M ∨ K = N) ∧ K ≤ N)
    case first =>
      rcases (show (N : Int) < (M : Int) ∨ M < N ∨ N = M by omega) with hlt | hlt | hlt
      · go_wp2
        go_meet
        exact ⟨rfl, N, rfl, by omega, .inr rfl, Nat.le_refl _⟩
      · have hlt2 : (M : Int) < (N : Int) := by omega
        go_wp2
        go_meet
        exact ⟨rfl, M, rfl, by omega, .inl rfl, by omega⟩
      · subst hlt
        go_wp2
        go_meet
        exact ⟨rfl, N, rfl, by omega, .inl rfl, Nat.le_refl _⟩
    case rest =>
      obtain ⟨hwc, K, rfl, hKM, hKo, hKN⟩ := hcut
      rw [hwc]
      clear hwc wc
      have C1 := HX.out.push hL HO.out.1 HRS.out K (by have := HM.out; have := HX.out.tle; omega) (by omega)
      have HKK : Hid (K ≤ M ∧ (K = M ∨ K = N)) := ⟨hKM, hKo⟩
      have hKMi : (K : Int) ≤ (M : Int) := by omega
      have hKci : (K : Int) ≤ (cr : Int) := by omega
      have hKc : K ≤ cr := by omega
      clear hKo
      go_wp2_with fail
      refine C1.mono ?_
      rintro e w2 ⟨z', S', T, tv, tg, rfl, hz', hT, hm2, hs2, hg2, hS2, hf2⟩
      have hzz : z' = lzO L n (bs.take (t + K)) := by rw [hz', lzO_more hL.2, ← List.take_add]
      rw [hzz] at hT hm2 ⊢
      rw [HOo.out] at hT
      obtain ⟨ax, cx, hv2, _, _, hx2⟩ := hs2.shape
      rw [vals_len] at hv2
      have hlz : T.length ≤ 1000000 := by
        have h1 := lzO_out hL.2 n (bs.take (t + K))
        have h2 := HO.out
        rw [hT, List.length_append] at h1; omega
      obtain ⟨Q, hQ⟩ : ∃ Q, T.length = Q := ⟨_, rfl⟩
      have HQ : Hid (T.length = Q) := hQ
      rw [hQ] at hv2 hlz
      subst hv2
      obtain ⟨P, hP⟩ : ∃ P, O.length = P := ⟨_, rfl⟩
      have HPP : Hid (O.length = P) := hP
      rw [hP] at hzl ⊢
      have HS2 : Hid (Row w2 ax T ∧ (ax = none → cx = 0) ∧ Sl w2 5 (.slice ao P co) g (vals O)) := by
        have h1 := HSl.out
        rw [hP] at h1
        exact ⟨hs2.row rfl, hx2, h1.same fun k hk => hf2.block k (h1.lt hk) (HX.out.new k hk).2⟩
      have HN : Hid (∀ v7 g7 w7, Sl w7 5 v7 g7 (vals (O ++ T)) → (g7 = g ∨ ∃ k, g7 = some k ∧ w2.heap.size ≤ k) → w2.grownBy w7 g → LaR w bs L n D (t + K) S' (if cr = K then ar else Option.map (fun x => x.add K) ar) (cr - K) v7 g7 w7) :=
        fun v7 g7 w7 h1 h2 h3 => HX.out.step (by have := HM.out; have := HX.out.tle; omega) hm2 (by rw [HOo.out]; exact hT) hS2 hf2 (by rw [HOo.out]; exact h1) h2 h3
      have herr' := ler_cases (lzO L n (bs.take (t + K))).er
      obtain ⟨ER, hER⟩ : ∃ ER, (lzO L n (bs.take (t + K))).er = ER := ⟨_, rfl⟩
      have HER : Hid ((lzO L n (bs.take (t + K))).er = ER) := hER
      rw [hER] at herr' ⊢
      have HT : Hid (t ≤ bs.length) := HX.out.tle
      clear hm2 hT hs2 hg2 hS2 hf2 hx2 C1 hER hQ hP HX HSl hz' hzz
      go_wp2
      have hcc : cr = K ∨ ¬ cr = K := by omega
      rcases hcc with hcK | hcK
      · obtain rfl : M = cr := by have := HKK.out; omega
        have HN' := HN.out
        rw [if_pos hcK] at HN'
        have HN2 : Hid (∀ v7 g7 w7, Sl w7 5 v7 g7 (vals (O ++ T)) → (g7 = g ∨ ∃ k, g7 = some k ∧ w2.heap.size ≤ k) → w2.grownBy w7 g → LaR w bs L n D (t + K) S' ar (M - K) v7 g7 w7) := HN'
        clear HN HN'
        subst hcK
        go_region_law (first
          | (refine step_more rfl _ _ rfl (.slice ao P co) g O rfl (HS2.out.2.2.same fun _ _ => rfl) ax Q cx T rfl HS2.out.2.1 HQ.out (HS2.out.1.same fun _ _ _ => rfl) (by rw [HPP.out]; omega) ?_; intro v7 w7 g7 hs7 hg7 hgr7; obtain ⟨a7, c7, hv7, -⟩ := hs7.shape; generalize (vals (O ++ T)).length = z7 at hv7; subst hv7)
          | fail)
        all_goals
          have HF : Hid (_) := HN2.out _ g7 w7 hs7 hg7 ⟨hgr7.os, hgr7.tape, hgr7.output, hgr7.size, hgr7.block⟩
          clear hs7 hg7 hgr7 HS2 HN2
          have HFF : Hid (LaPost w bs L n (.returned (.tuple #[.slice a7 z7 c7, .int .i64 ER, .pointer (some ⟨D, 0, none⟩)])) w7) := by
            have := HF.out.fin hL (.inr (by have := HM.out; have := HT.out; omega))
            rw [HER.out] at this
            exact this
          clear HF
          rcases herr' with he | ⟨he, hen⟩
          · rw [he] at HFF ⊢
            go_wp2
            all_goals
              go_ret3
              exact HFF.out
          · go_wp2
            all_goals
              go_ret3
              exact HFF.out
      · have hcKi : ¬ (cr : Int) = (K : Int) := by omega
        have HN' := HN.out
        rw [if_neg hcK] at HN'
        have HN2 : Hid (∀ v7 g7 w7, Sl w7 5 v7 g7 (vals (O ++ T)) → (g7 = g ∨ ∃ k, g7 = some k ∧ w2.heap.size ≤ k) → w2.grownBy w7 g → LaR w bs L n D (t + K) S' (Option.map (fun x => x.add K) ar) (cr - K) v7 g7 w7) := HN'
        clear HN HN'
        go_region_law (first
          | (refine step_more rfl _ _ rfl (.slice ao P co) g O rfl (HS2.out.2.2.same fun _ _ => rfl) ax Q cx T rfl HS2.out.2.1 HQ.out (HS2.out.1.same fun _ _ _ => rfl) (by rw [HPP.out]; omega) ?_; intro v7 w7 g7 hs7 hg7 hgr7; obtain ⟨a7, c7, hv7, -⟩ := hs7.shape; generalize (vals (O ++ T)).length = z7 at hv7; subst hv7)
          | fail)
        all_goals
          have HF : Hid (_) := HN2.out _ g7 w7 hs7 hg7 ⟨hgr7.os, hgr7.tape, hgr7.output, hgr7.size, hgr7.block⟩
          clear hs7 hg7 hgr7 HS2 HN2
          by_cases hKM2 : K = M
          · have HFF : Hid (LaPost w bs L n (.returned (.tuple #[.slice a7 z7 c7, .int .i64 ER, .pointer (some ⟨D, 0, none⟩)])) w7) := by
              have := HF.out.fin hL (.inr (by have := HM.out; have := HT.out; omega))
              rw [HER.out] at this
              exact this
            clear HF
            subst hKM2
            rcases herr' with he | ⟨he, hen⟩
            · rw [he] at HFF ⊢
              go_wp2
              all_goals
                go_ret3
                exact HFF.out
            · go_wp2
              all_goals
                go_ret3
                exact HFF.out
          · have hlt : (K : Int) < (M : Int) := by have := HKK.out; omega
            have hne : ¬ (M : Int) - (K : Int) = 0 := by omega
            have hMK : ¬ M - K = 0 := by omega
            rcases herr' with he | ⟨he, hen⟩
            · rw [he]
              go_wp2
              go_roundg (bs.length - (t + K))
              case rel => exact ⟨t + K, _, _, cr - K, g7, by have := HM.out; have := HKK.out; omega, .inl (by have := HM.out; have := HKK.out; omega), (by rw [show bs.length - (t + K) = M - K by have := HM.out; omega] : Value.slice (Option.map (fun x => x.add K) ar) (M - K) (cr - K) = .slice (Option.map (fun x => x.add K) ar) (bs.length - (t + K)) (cr - K)), HF.out⟩
              case measure => have := HM.out; have := HKK.out; omega
            · have HFF : Hid (LaPost w bs L n (.returned (.tuple #[.slice a7 z7 c7, .int .i64 ER, .pointer (some ⟨D, 0, none⟩)])) w7) := by
                have := HF.out.fin hL (.inl (by rw [HER.out]; simpa using he))
                rw [HER.out] at this
                exact this
              clear HF
              go_wp2
              all_goals
                go_ret3
                exact HFF.out
end Go.Proofs.Ytcbmlioeeoghkaa
/- LZW: the law's own loop over a decoder of least bits that may not be. -/
namespace Go.Proofs.Ytcbmlioeeoghkaa
open Go.RowKit
def LabPost (w : World) (l : Int) (e : Ending) (w' : World) : Prop :=
  ∃ d a c, e = .returned (.tuple #[.slice a 0 c, .int .i64 1, .pointer (some ⟨d, 0, none⟩)]) ∧ LBad w' d l ∧ Below w.heap.size w w'
set_option maxHeartbeats 3200000 in
set_option maxRecDepth 20000 in
theorem lall_bad (a : Option Addr) (m cap : Nat) (N : Nat) (l lim : Int) (w : World) (hl : ¬ (2 ≤ l ∧ l ≤ 8)) (hc : m ≤ cap) (hcap : cap ≤ 9223372036854775807) :
    Calls Try.prog 17 #[.slice a m cap, .int .i64 N, .int .i64 l, .int .i64 lim] w fun e w' => LabPost w l e w' := by
  have HN := lnew_no l hl lim w
  have HL : Hid (¬ (2 ≤ l ∧ l ≤ 8)) := hl
  clear hl
  go_enter Try.func17, Try.ntmps17
  go_wp2_with fail
  refine HN.mono ?_
  clear HN
  rintro e w1 ⟨rfl, hd, hb1⟩
  obtain ⟨D, hD⟩ : ∃ D, w.heap.size = D := ⟨_, rfl⟩
  have HD : Hid (w.heap.size = D ∧ LBad w1 D l ∧ Below w.heap.size w w1) := ⟨hD, by rw [← hD]; exact hd, hb1⟩
  rw [hD]
  clear hD hd hb1
  go_wp2
  go_loopg [0, 12, 13, 14, 15] 0 (fun _ b out _ _ _ wr => b = .slice a m cap ∧ out = .slice none 0 0 ∧ wr = w1)
  case atStart => exact ⟨rfl, rfl, rfl⟩
  case round =>
    obtain ⟨rfl, rfl, rfl⟩ := hrel
    go_upto_region 3 with fail
    go_cut [13] (fun v wx => wx = wr ∧ ∃ K : Nat, v = .int .i64 K ∧ K ≤ m)
    case first =>
      rcases (show (N : Int) < (m : Int) ∨ m < N ∨ N = m by omega) with hlt | hlt | hlt
      · go_wp2
        go_meet
        exact ⟨rfl, N, rfl, by omega⟩
      · have hlt2 : (m : Int) < (N : Int) := by omega
        go_wp2
        go_meet
        exact ⟨rfl, m, rfl, by omega⟩
      · subst hlt
        go_wp2
        go_meet
        exact ⟨rfl, N, rfl, by omega⟩
    case rest =>
      obtain ⟨hwc, K, rfl, hKM⟩ := hcut
      rw [hwc]
      clear hwc wc
      have hKMi : (K : Int) ≤ (m : Int) := by omega
      have hKci : (K : Int) ≤ (cap : Int) := by omega
      have hKc : K ≤ cap := by omega
      have C1 := lpush_bad HD.out.2.1 HL.out (.slice a K cap)
      go_wp2_with fail
      refine C1.mono ?_
      clear C1
      rintro e w' ⟨rfl, hw'⟩
      subst w'
      have HE : Hid (∀ v7 w7 g7, Sl w7 5 v7 g7 (vals ([] ++ [])) → wr.grownBy w7 none → ∃ a c, v7 = .slice a 0 c ∧ LabPost w l (.returned (.tuple #[.slice a 0 c, .int .i64 1, .pointer (some ⟨D, 0, none⟩)])) w7) := by
        intro v7 w7 g7 h1 h2
        obtain ⟨a7, c7, hv7, -⟩ := h1.shape
        obtain ⟨q1, q2, q3⟩ := HD.out
        obtain ⟨lf, q2⟩ := q2
        refine ⟨a7, c7, hv7, D, a7, c7, rfl, ⟨lf, (h2.block D (lt_of_block q2) (by simp)).trans q2⟩, ?_⟩
        exact q3.grown h2 q3.size (fun k hk => by cases hk)
      by_cases hcK : cap = K
      · subst hcK
        obtain rfl : m = cap := by omega
        go_wp2
        go_region_law (first
          | (refine step_more rfl _ _ rfl (.slice none 0 0) none [] rfl (Sl.nil _ _) none 0 0 [] rfl (fun _ => rfl) rfl (.inl rfl) (by decide) ?_; intro v7 w7 g7 hs7 hg7 hgr7; obtain ⟨a7, c7, hv7, HP⟩ := HE.out v7 w7 g7 hs7 ⟨hgr7.os, hgr7.tape, hgr7.output, hgr7.size, hgr7.block⟩; have HPP : Hid (LabPost w l (.returned (.tuple #[.slice a7 0 c7, .int .i64 1, .pointer (some ⟨D, 0, none⟩)])) w7) := HP; subst hv7; clear hs7 hg7 hgr7 HP)
          | fail)
        all_goals
          go_wp2
          all_goals
            go_ret3
            exact HPP.out
      · have hcKi : ¬ (cap : Int) = (K : Int) := by omega
        go_wp2
        go_region_law (first
          | (refine step_more rfl _ _ rfl (.slice none 0 0) none [] rfl (Sl.nil _ _) none 0 0 [] rfl (fun _ => rfl) rfl (.inl rfl) (by decide) ?_; intro v7 w7 g7 hs7 hg7 hgr7; obtain ⟨a7, c7, hv7, HP⟩ := HE.out v7 w7 g7 hs7 ⟨hgr7.os, hgr7.tape, hgr7.output, hgr7.size, hgr7.block⟩; have HPP : Hid (LabPost w l (.returned (.tuple #[.slice a7 0 c7, .int .i64 1, .pointer (some ⟨D, 0, none⟩)])) w7) := HP; subst hv7; clear hs7 hg7 hgr7 HP)
          | fail)
        all_goals
          go_wp2
          all_goals
            go_ret3
            exact HPP.out
end Go.Proofs.Ytcbmlioeeoghkaa
/- LZW: bytes pushed at once and in pieces. -/
namespace Go.Proofs.Ytcbmlioeeoghkaa
open Go.RowKit
theorem LaPost.open {w w' : World} {bs : List Int} {L n : Nat} {e : Ending} (h : LaPost w bs L n e w') : ∃ S d a c, e = .returned (.tuple #[.slice a (lzO L n bs).out.length c, .int .i64 (lzO L n bs).er, .pointer (some ⟨d, 0, none⟩)]) ∧ LMem w.heap.size w' d L (lzO L n bs) S ∧ Row w' a (lzO L n bs).out ∧ (lzO L n bs).out.length ≤ c ∧ c ≤ 9223372036854775807 ∧ (a = none → c = 0) ∧ Below w.heap.size w w' := by
  obtain ⟨S, d, v, g, he, hm, hs, hg, hb⟩ := h
  obtain ⟨a', c', hv, hle, h2, h3⟩ := hs.shape
  rw [vals_len] at hv hle
  exact ⟨S, d, a', c', by rw [he, hv], hm, hs.row hv, hle, h2, h3, hb⟩
theorem LrPost.open {w w' : World} {z : List Int} {e : Ending} (h : LrPost w z e w') : ∃ a c, e = .returned (.slice a z.length c) ∧ Row w' a z ∧ z.length ≤ c ∧ (a = none → c = 0) ∧ Below w.heap.size w w' := by
  obtain ⟨v, g, he, hs, hg, hb⟩ := h
  obtain ⟨ax, cx, hv, hle, _, h3⟩ := hs.shape
  rw [vals_len] at hv hle
  exact ⟨ax, cx, by rw [he, hv], hs.row hv, hle, h3, hb⟩
set_option maxHeartbeats 3200000 in
set_option maxRecDepth 20000 in
theorem lcuts_walk (a : Option Addr) (len cap : Nat) (s l m : Int) (w : World) (ha : BArg w a len cap) (ws : (Lit.int .u8 s).wf = true) (wl : (Lit.int .u8 l).wf = true) (wm : (Lit.int .u16 m).wf = true) :
    Calls Try.prog 4 #[.slice a len cap, .int .u8 s, .int .u8 l, .int .u16 m] w fun e w' => e = .returned (.bool true) ∧ Below w.heap.size w w' := by
  have hs := bounds_u8 ws
  have hl := bounds_u8 wl
  have hm := bounds_u16 wm
  clear ws wl wm
  obtain ⟨n, rfl⟩ : ∃ n : Nat, m = (n : Int) := ⟨m.toNat, by omega⟩
  obtain ⟨q, rfl⟩ : ∃ q : Nat, s = (q : Int) := ⟨s.toNat, by omega⟩
  obtain ⟨l0, rfl⟩ : ∃ l0 : Nat, l = (l0 : Int) := ⟨l.toNat, by omega⟩
  obtain ⟨A, hA, hAl, hn, hc, hc0, hAr⟩ := ha
  have HA : Hid (Bytes A ∧ Row w a A ∧ (a = none → cap = 0) ∧ A.length = len) := ⟨hA, hAr, hc0, hAl⟩
  clear hA hAr hc0 hAl
  by_cases hbig : 3000 < (len : Int)
  · go_enter Try.func4, Try.ntmps4
    go_wp2_with (go_at_call 9; refine (lfixed_any _).mono ?_; rintro e w1 ⟨rfl, hbel⟩)
    go_ret
    exact ⟨rfl, hbel⟩
  obtain ⟨N, hN⟩ : ∃ N : Nat, 1 + q % 16 = N := ⟨_, rfl⟩
  have hN1 : 1 ≤ N ∧ N ≤ 100 := by omega
  have hNi : (1 : Int) + ((q : Int) % 16) = (N : Int) := by omega
  obtain ⟨L, hLe⟩ : ∃ L : Nat, l0 % 10 = L := ⟨_, rfl⟩
  have hLi : (l0 : Int) % 10 = (L : Int) := by omega
  have hL9 : L ≤ 9 := by omega
  clear hLe hN
  go_enter Try.func4, Try.ntmps4
  go_wp2_with fail
  refine (lfixed_any w).mono ?_
  rintro e w1 ⟨rfl, b1⟩
  have HB1 : Hid (Below w.heap.size w w1) := b1
  clear b1
  by_cases hL : 2 ≤ L ∧ L ≤ 8
  · have C1 := lall_any a len cap A 4000 L (n : Int) w1 hL HA.out.2.2.2 (HA.out.2.1.old HB1.out) HA.out.1 hn (by omega) HA.out.2.2.1 (by omega) (lzO_rests hL.2 _ A (by have := HA.out; omega)) (by omega) (by omega) (by omega)
    have en : (n : Int).toNat = n := by simp
    rw [en] at C1
    go_wp2_with fail
    refine C1.mono ?_
    rintro e w2 hp
    obtain ⟨S, d, ax, cx, rfl, hd, hrow, hcx, _, _, b2⟩ := hp.open
    have H2 : Hid (LMem w1.heap.size w2 d L (lzO L n A) S ∧ Row w2 ax (lzO L n A).out) := ⟨hd, hrow⟩
    have HB2 : Hid (Below w.heap.size w w2) := HB1.out.trans (b2.mono HB1.out.size)
    have HP2 := lall_any a len cap A N L (n : Int) w2 hL HA.out.2.2.2 (HA.out.2.1.old HB2.out) HA.out.1 hn (by omega) HA.out.2.2.1 (by omega) (lzO_rests hL.2 _ A (by have := HA.out; omega)) (by omega) hN1.1 (by omega)
    rw [en] at HP2
    have hzb := lzO_out hL.2 n A
    have hrb := lzO_rest hL.2 n A
    obtain ⟨z, hz⟩ : ∃ z, lzO L n A = z := ⟨_, rfl⟩
    rw [hz] at H2 hzb hrb ⊢
    have HZ0 : Hid (lzO L n A = z) := hz
    obtain ⟨ER, hER⟩ : ∃ ER, z.er = ER := ⟨_, rfl⟩
    have HER : Hid (z.er = ER) := hER
    obtain ⟨Z, hZ⟩ : ∃ Z, z.out.length = Z := ⟨_, rfl⟩
    have HZ : Hid (z.out.length = Z) := hZ
    have hZl : Z ≤ 65535 := by omega
    have HRB : Hid (z.rest.length ≤ 140737488351232) := by have := HA.out; show _ ≤ _; omega
    rw [hER, hZ]
    clear C1 hp hd hrow b2 HB1 hER hZ hcx hzb hrb hz en
    go_wp2_with fail
    refine HP2.mono ?_
    rintro e w3 hp
    obtain ⟨S2, d2, ay, cy, rfl, hd, hrow, hcy, _, _, b3⟩ := hp.open
    rw [HZ0.out] at hd hrow hcy ⊢
    have H3 : Hid (LMem w2.heap.size w3 d2 L z S2 ∧ Row w3 ay z.out ∧ LMem w1.heap.size w3 d L z S ∧ Row w3 ax z.out) := ⟨hd, hrow, H2.out.1.old b3, H2.out.2.old b3⟩
    have HB3 : Hid (Below w.heap.size w w3) := HB2.out.trans (b3.mono HB2.out.size)
    rw [HER.out, HZ.out]
    clear HP2 hp hd hrow hcy b3 H2 HB2
    have HSM := same_any ax ay Z cx cy z.out w3 HZ.out H3.out.2.2.2 H3.out.2.1
    have HD1 := ldone_any H3.out.2.2.1
    have HD2 := ldone_any H3.out.1
    have HR1 := lrest_any H3.out.2.2.1 HRB.out
    obtain ⟨DN, hDN⟩ : ∃ DN, (z.k == 1) = DN := ⟨_, rfl⟩
    rw [hDN] at HD1 HD2
    clear hDN
    go_wp2_with fail
    refine HSM.mono ?_
    rintro e w4 ⟨rfl, hw⟩
    rw [hw]
    clear hw HSM
    go_wp2_with fail
    refine HD1.mono ?_
    rintro e w4 ⟨rfl, hw⟩
    rw [hw]
    clear hw HD1
    go_wp2_with fail
    refine HD2.mono ?_
    rintro e w4 ⟨rfl, hw⟩
    rw [hw]
    clear hw HD2
    go_wp2_with fail
    refine HR1.mono ?_
    rintro e w4 hp
    obtain ⟨au, cu, rfl, hru, _, _, hb4⟩ := hp.open
    have H4 : Hid (Row w4 au z.rest ∧ Below w3.heap.size w3 w4 ∧ Below w.heap.size w w4) := ⟨hru, hb4, HB3.out.trans (hb4.mono HB3.out.size)⟩
    have HR2 := lrest_any (H3.out.1.old hb4) HRB.out
    obtain ⟨RL, hRL⟩ : ∃ RL, z.rest.length = RL := ⟨_, rfl⟩
    have HRL : Hid (z.rest.length = RL) := hRL
    rw [hRL]
    clear hru hb4 HR1 HB3 hRL hp
    go_wp2_with fail
    refine HR2.mono ?_
    rintro e w5 hp
    obtain ⟨av, cv, rfl, hrv, _, _, hb5⟩ := hp.open
    have HS2 := same_any au av RL cu cv z.rest w5 HRL.out (H4.out.1.old hb5) hrv
    have HB5 : Hid (Below w.heap.size w w5) := H4.out.2.2.trans (hb5.mono H4.out.2.2.size)
    rw [HRL.out]
    clear HR2 hrv hb5 H4 H3 hp
    go_wp2_with fail
    refine HS2.mono ?_
    rintro e w6 ⟨rfl, hw⟩
    rw [hw]
    clear hw HS2
    go_wp2
    go_ret
    exact ⟨rfl, HB5.out⟩
  · have hLb : ¬ (2 ≤ (L : Int) ∧ (L : Int) ≤ 8) := by omega
    have C1 := lall_bad a len cap 4000 (L : Int) (n : Int) w1 hLb hn (by omega)
    go_wp2_with fail
    refine C1.mono ?_
    clear C1
    rintro e w2 ⟨d, ax, cx, rfl, hd, b2⟩
    have HB2 : Hid (Below w.heap.size w w2) := HB1.out.trans (b2.mono HB1.out.size)
    have HP2 := lall_bad a len cap N (L : Int) (n : Int) w2 hLb hn (by omega)
    have HD : Hid (LBad w2 d L) := hd
    clear hd b2 HB1
    go_wp2_with fail
    refine HP2.mono ?_
    clear HP2
    rintro e w3 ⟨d2, ay, cy, rfl, hd, b3⟩
    have hd1 : LBad w3 d L := by obtain ⟨lf, h⟩ := HD.out; exact ⟨lf, (b3.block _ (lt_of_block h)).trans h⟩
    have HB3 : Hid (Below w.heap.size w w3) := HB2.out.trans (b3.mono HB2.out.size)
    have HSM := same_any ax ay 0 cx cy [] w3 rfl (.inl rfl) (.inl rfl)
    have HD1 := ldone_bad hd1
    have HD2 := ldone_bad hd
    have HR1 := lrest_bad hd1
    have HDD : Hid (LBad w3 d2 L) := hd
    clear hd hd1 b3 HB2 HD
    go_wp2_with fail
    refine HSM.mono ?_
    rintro e w4 ⟨rfl, hw⟩
    rw [hw]
    clear hw HSM
    go_wp2_with fail
    refine HD1.mono ?_
    rintro e w4 ⟨rfl, hw⟩
    rw [hw]
    clear hw HD1
    go_wp2_with fail
    refine HD2.mono ?_
    rintro e w4 ⟨rfl, hw⟩
    rw [hw]
    clear hw HD2
    go_wp2_with fail
    refine HR1.mono ?_
    rintro e w4 hp
    obtain ⟨au, cu, rfl, hru, _, _, hb4⟩ := hp.open
    have HB4 : Hid (Below w.heap.size w w4) := HB3.out.trans (hb4.mono HB3.out.size)
    have hd4 : LBad w4 d2 L := by obtain ⟨lf, h⟩ := HDD.out; exact ⟨lf, (hb4.block _ (lt_of_block h)).trans h⟩
    have HR2 := lrest_bad hd4
    simp only [List.length_nil]
    clear hru hb4 HR1 HB3 hp hd4 HDD
    go_wp2_with fail
    refine HR2.mono ?_
    rintro e w5 hp
    obtain ⟨av, cv, rfl, hrv, _, _, hb5⟩ := hp.open
    have HS2 := same_any au av 0 cu cv [] w5 rfl (.inl rfl) (.inl rfl)
    have HB5 : Hid (Below w.heap.size w w5) := HB4.out.trans (hb5.mono HB4.out.size)
    simp only [List.length_nil]
    clear HR2 hrv hb5 HB4 hp
    go_wp2_with fail
    refine HS2.mono ?_
    rintro e w6 ⟨rfl, hw⟩
    rw [hw]
    clear hw HS2
    go_wp2
    go_ret
    exact ⟨rfl, HB5.out⟩
end Go.Proofs.Ytcbmlioeeoghkaa
/- LZW: bytes that are written are read as they were. -/
namespace Go.Proofs.Ytcbmlioeeoghkaa
open Go.RowKit
theorem outE_pos {L : Nat} {late : Int} (hL : 2 ≤ L ∧ L ≤ 8) (b : List Int) : 1 ≤ (outE (pkA L late b)).length := by
  rw [outE_len]
  unfold pkA
  simp only [cntE]
  have : L + 1 ≤ widW L 0 := (widN_le L _ hL.2).1
  omega
theorem back_rests {L n : Nat} (hL : L ≤ 8) {Z M A : List Int} (hb : lzO L n (Z ++ M) = lzEnd n [] A M) (hn : A.length ≤ n) (hM : M.length ≤ 140737488351232) : ∀ t, t ≤ (Z ++ M).length → (lzO L n ((Z ++ M).take t)).k = 1 → (lzO L n ((Z ++ M).take t)).rest.length + ((Z ++ M).length - t) ≤ 140737488351232 := by
  intro t ht hk
  have h := lzO_more hL n ((Z ++ M).take t) ((Z ++ M).drop t)
  rw [List.take_append_drop, hb] at h
  have hf : (lzO L n ((Z ++ M).take t)).fed ((Z ++ M).drop t) = { lzO L n ((Z ++ M).take t) with rest := (lzO L n ((Z ++ M).take t)).rest ++ (Z ++ M).drop t } := by
    unfold Lz.fed; rw [if_neg (by omega), if_pos hk]
  rw [hf, lzG_stop (.inl (by show (lzO L n ((Z ++ M).take t)).k ≠ 0; omega))] at h
  have hr := congrArg (fun s => s.rest.length) h
  unfold lzEnd at hr
  rw [if_pos hn] at hr
  simp only [List.length_append, List.length_drop] at hr ⊢
  omega
theorem end_yes {n : Nat} {A M : List Int} (h : A.length ≤ n) : lzEnd n [] A M = ⟨1, n - A.length, [], 0, [], 0, 0, A, M⟩ := by unfold lzEnd; rw [if_pos h]; rfl
set_option maxHeartbeats 3200000 in
set_option maxRecDepth 20000 in
theorem lback_walk (a : Option Addr) (len cap : Nat) (t : Int) (a2 : Option Addr) (len2 cap2 : Nat) (q : Int) (w : World) (ha : BArg w a len cap) (wt : (Lit.int .u16 t).wf = true) (ha2 : BArg w a2 len2 cap2) (wq : (Lit.int .u8 q).wf = true) :
    Calls Try.prog 7 #[.slice a len cap, .int .u16 t, .slice a2 len2 cap2, .int .u8 q] w fun e w' => e = .returned (.bool true) ∧ Below w.heap.size w w' := by
  have ht := bounds_u16 wt
  have hq := bounds_u8 wq
  clear wt wq
  obtain ⟨q, rfl⟩ : ∃ k : Nat, q = (k : Int) := ⟨q.toNat, by omega⟩
  obtain ⟨A, hA, hAl, hn, hc, hc0, hAr⟩ := ha
  obtain ⟨M, hM, hMl, hn2, hcm2, hc02, hMr⟩ := ha2
  have HA : Hid (Bytes A ∧ Row w a A ∧ (a = none → cap = 0) ∧ A.length = len) := ⟨hA, hAr, hc0, hAl⟩
  have HM : Hid (Bytes M ∧ Row w a2 M ∧ (a2 = none → cap2 = 0) ∧ M.length = len2) := ⟨hM, hMr, hc02, hMl⟩
  clear hA hAr hc0 hAl hM hMr hc02 hMl
  by_cases hbig : 6000 < (len : Int)
  · go_enter Try.func7, Try.ntmps7
    go_wp2_with (go_at_call 9; refine (lfixed_any _).mono ?_; rintro e w1 ⟨rfl, hbel⟩)
    go_ret
    exact ⟨rfl, hbel⟩
  have h8 : 2 ≤ 8 ∧ 8 ≤ 8 := by omega
  have HV : Hid (∀ v ∈ A, 0 ≤ v ∧ v < ((2 ^ 8 : Nat) : Int)) := fun v hv => HA.out.1 v hv
  obtain ⟨Z, hZ⟩ : ∃ Z, outE (pkA 8 t A) = Z := ⟨_, rfl⟩
  have HZ : Hid (outE (pkA 8 t A) = Z ∧ Bytes Z ∧ 1 ≤ Z.length ∧ Z.length ≤ 18004) := by
    have h1 := outE_pos (late := t) h8 A
    have h2 := outE_pk (late := t) h8 A
    have h3 := outE_bytes (pkA 8 t A)
    rw [hZ] at h1 h2 h3
    exact ⟨hZ, h3, h1, by have := HA.out; omega⟩
  obtain ⟨P, hP⟩ : ∃ P, Z.length = P := ⟨_, rfl⟩
  have HP : Hid (Z.length = P) := hP
  have hP1 : 1 ≤ P ∧ P ≤ 18004 := by have := HZ.out; omega
  clear hP
  go_enter Try.func7, Try.ntmps7
  go_wp2_with fail
  refine (lfixed_any w).mono ?_
  rintro e w1 ⟨rfl, b1⟩
  have C1 : Calls Try.prog 18 #[.slice a len cap, .int .i64 8, .int .i64 t] w1 fun e w' => NewBytes2 w1 (outE (pkA 8 t A)) e w' := lpack_yes (L := 8) h8 (by omega) (by omega) HA.out.2.2.2 hn (by omega) HA.out.2.2.1 (HA.out.2.1.old b1) HA.out.1 (fun v hv => (HV.out v hv).2)
  rw [hZ] at C1
  clear hZ
  have HB1 : Hid (Below w.heap.size w w1) := b1
  clear b1
  go_wp2_with fail
  refine C1.mono ?_
  clear C1
  rintro e w2 ⟨a1, c1, rfl, h11, h12, h13, h14, h15⟩
  have HB2 : Hid (Below w.heap.size w w2) := HB1.out.trans (h15.mono HB1.out.size)
  obtain ⟨b0, off0, rfl⟩ : ∃ b0 off0, a1 = some ⟨b0, off0, none⟩ := by
    rcases h14 with h | ⟨b0, off0, h, -⟩
    · have := HZ.out.2.2.1; rw [h] at this; simp at this
    · exact ⟨b0, off0, h⟩
  have HR1 : Hid (Row w2 (some ⟨b0, off0, none⟩) Z ∧ Row w2 a2 M) := ⟨h14, HM.out.2.1.old HB2.out⟩
  rw [HP.out] at h11 ⊢
  unfold maxLen at h12
  clear h13 h14 h15 HB1
  have hn48 : P + len2 ≤ 200000000000000 := by omega
  have hpc : (P : Int) ≤ (c1 : Int) := by omega
  go_wp2_with (first
    | (at_builtin; refine wpList_copy_own rfl _ _ rfl ⟨b0, off0, none⟩ P c1 Z rfl rfl HP.out HR1.out.1 (by omega) ?_; intro v3 w3 ho3 hb3; obtain ⟨a3, c3, hv3, -⟩ := row_of_owns ho3; subst hv3)
    | (at_builtin; refine wpList_more_big rfl _ _ rfl w2.heap.size P (.slice a3 P c3) Z rfl ho3 hP1.1 a2 len2 cap2 M rfl HM.out.2.2.1 HM.out.2.2.2 (HR1.out.2.old hb3) hn48 hb3.size ?_; intro v4 w4 ho4 hg4; obtain ⟨a4, c4, hv4, hr4, hl4, hcc4, hcm4, hn4⟩ := row_of_owns ho4; subst hv4)
    | fail)
  have hb4 : Below w2.heap.size w2 w4 := hb3.grown hg4 hb3.size (fun k hk => (ho3.lt k hk).1)
  have HB4 : Hid (Below w.heap.size w w4) := HB2.out.trans (hb4.mono HB2.out.size)
  have HP4 : Hid (Row w4 (some ⟨b0, off0, none⟩) Z) := HR1.out.1.old hb4
  have HR4 : Hid (Row w4 a4 (Z ++ M) ∧ (a4 = none → c4 = 0) ∧ (Z ++ M).length = P + len2) := ⟨hr4, hn4, hl4⟩
  have hbk : lzO 8 len (Z ++ M) = lzEnd len [] A M := by
    rw [← HZ.out.1]
    exact lzO_back h8 len HV.out HM.out.1
  have hbyZM : Bytes (Z ++ M) := fun x hx => by
    rcases List.mem_append.1 hx with h | h
    · exact HZ.out.2.1 x h
    · exact HM.out.1 x h
  unfold maxLen at hcm4
  have C2 : Calls Try.prog 17 #[.slice a4 (P + len2) c4, .int .i64 50, .int .i64 8, .int .i64 (len : Int)] w4 fun e w' => LaPost w4 (Z ++ M) 8 (len : Int).toNat e w' :=
    lall_any a4 (P + len2) c4 (Z ++ M) 50 8 (len : Int) w4 h8 hl4 hr4 hbyZM hcc4 (by omega) hn4 hn48 (by rw [show (len : Int).toNat = len by simp]; exact back_rests h8.2 hbk (by have := HA.out; omega) (by have := HM.out; omega)) (by omega) (by omega) (by omega)
  rw [show (len : Int).toNat = len by simp] at C2
  have HE1 : Hid (lzO 8 len (Z ++ M) = ⟨1, len - A.length, [], 0, [], 0, 0, A, M⟩) := by show _ = _; rw [hbk]; exact end_yes (by have := HA.out; omega)
  clear hbk hbyZM hr4 hl4 hn4 ho3 ho4 hb3 hb4 hg4 HR1 HB2
  go_wp2_with fail
  refine C2.mono ?_
  clear C2
  rintro e w5 hp5
  obtain ⟨S5, d5, a5, c5, rfl, hm5, hr5, hc5, -, -, hb5⟩ := hp5.open
  rw [HE1.out] at hm5 hr5 hc5 ⊢
  simp only at hr5 hc5 ⊢
  have HB5 : Hid (Below w.heap.size w w5) := HB4.out.trans (hb5.mono HB4.out.size)
  have HM5 : Hid (LMem w4.heap.size w5 d5 8 ⟨1, len - A.length, [], 0, [], 0, 0, A, M⟩ S5 ∧ Row w5 a5 A ∧ Row w5 (some ⟨b0, off0, none⟩) Z) := ⟨hm5, hr5, HP4.out.old hb5⟩
  have HD5 := ldone_any hm5
  have HS5 := same_any a5 a len c5 cap A w5 HA.out.2.2.2 hr5 (HA.out.2.1.old HB5.out)
  have HT5 := lrest_any hm5 (by have := HM.out; show M.length ≤ _; omega)
  rw [HA.out.2.2.2]
  clear hp5 hm5 hr5 hc5 hb5 HB4 HP4 HR4 HE1
  go_wp2_with fail
  refine HD5.mono ?_
  clear HD5
  rintro e w' ⟨rfl, hw'⟩
  subst w'
  go_wp2_with fail
  refine HS5.mono ?_
  clear HS5
  rintro e w' ⟨rfl, hw'⟩
  subst w'
  go_wp2_with fail
  refine HT5.mono ?_
  clear HT5
  rintro e w6 hp6
  obtain ⟨a6, c6, rfl, hr6, -, -, hb6⟩ := hp6.open
  have HB6 : Hid (Below w.heap.size w w6 ∧ Row w6 (some ⟨b0, off0, none⟩) Z) := ⟨HB5.out.trans (hb6.mono HB5.out.size), HM5.out.2.2.old hb6⟩
  have HS6 := same_any a6 a2 len2 c6 cap2 M w6 HM.out.2.2.2 hr6 (HM.out.2.1.old HB6.out.1)
  have hml : M.length = len2 := HM.out.2.2.2
  simp only [hml]
  clear hp6 hr6 hb6 HB5 HM5 hml
  go_wp2_with fail
  refine HS6.mono ?_
  clear HS6
  rintro e w' ⟨rfl, hw'⟩
  subst w'
  go_upto_region 9 with fail
  go_cut [14] (fun v wx => wx = w6 ∧ ∃ K : Nat, v = .int .i64 K ∧ K ≤ len)
  case first =>
    rcases (show (q : Int) < (len : Int) ∨ len < q ∨ q = len by omega) with hlt | hlt | hlt
    · go_wp2
      go_meet
      exact ⟨rfl, q, rfl, by omega⟩
    · have hlt2 : (len : Int) < (q : Int) := by omega
      go_wp2
      go_meet
      exact ⟨rfl, len, rfl, by omega⟩
    · subst hlt
      go_wp2
      go_meet
      exact ⟨rfl, q, rfl, by omega⟩
  case rest =>
    obtain ⟨hwc, K, rfl, hKM⟩ := hcut
    rw [hwc]
    clear hwc wc
    obtain ⟨R, hR⟩ : ∃ R, len - K = R := ⟨_, rfl⟩
    have HR : Hid (len - K = R) := hR
    have hRi : (len : Int) - (K : Int) = (R : Int) := by omega
    have hbk : lzO 8 R Z = lzEnd R [] A [] := by
      have := lzO_back (late := t) h8 R HV.out (more := []) (fun x hx => by cases hx)
      rwa [List.append_nil, HZ.out.1] at this
    have C3 : Calls Try.prog 17 #[.slice (some ⟨b0, off0, none⟩) P c1, .int .i64 50, .int .i64 8, .int .i64 (R : Int)] w6 fun e w' => LaPost w6 Z 8 (R : Int).toNat e w' :=
      lall_any (some ⟨b0, off0, none⟩) P c1 Z 50 8 (R : Int) w6 h8 HP.out HB6.out.2 HZ.out.2.1 h11 (by omega) (fun h => by cases h) (by omega) (lzO_rests h8.2 _ Z (by have := HZ.out; omega)) (by omega) (by omega) (by omega)
    rw [show (R : Int).toNat = R by simp] at C3
    obtain ⟨s7, hs7⟩ : ∃ s7, lzEnd R [] A [] = s7 := ⟨_, rfl⟩
    have HS7 : Hid (s7.out = A.take R ∧ (K = 0 → s7.er = 0) ∧ (K ≠ 0 → s7.er = 9)) := by
      have h1 := HA.out.2.2.2
      rw [← hs7]
      unfold lzEnd
      by_cases hK0 : K = 0
      · rw [if_pos (by omega)]
        exact ⟨by show [] ++ A = _; rw [List.nil_append, List.take_of_length_le (by omega)], fun _ => rfl, fun h => absurd hK0 h⟩
      · rw [if_neg (by omega)]
        exact ⟨rfl, fun h => absurd h hK0, fun _ => rfl⟩
    rw [hs7] at hbk
    have HBK : Hid (lzO 8 R Z = s7) := hbk
    clear hR hbk hs7
    have hRc : (R : Int) ≤ (cap : Int) := by omega
    go_wp2_with fail
    refine C3.mono ?_
    clear C3
    rintro e w7 hp7
    obtain ⟨S7, d7, a7, c7, rfl, -, hr7, hc7, -, -, hb7⟩ := hp7.open
    rw [HBK.out] at hr7 hc7 ⊢
    have hl7 : s7.out.length = R := by rw [HS7.out.1, List.length_take, HA.out.2.2.2]; have := HR.out; omega
    rw [hl7]
    have HB7 : Hid (Below w.heap.size w w7) := HB6.out.1.trans (hb7.mono HB6.out.1.size)
    have HS8 := same_any a7 a R c7 cap (A.take R) w7 (by rw [← HS7.out.1]; exact hl7) (by rw [← HS7.out.1]; exact hr7) ((HA.out.2.1.take R).old HB7.out)
    obtain ⟨E, hE⟩ : ∃ E, s7.er = E := ⟨_, rfl⟩
    have HE : Hid ((K = 0 → E = 0) ∧ (K ≠ 0 → E = 9)) := by rw [← hE]; exact HS7.out.2
    rw [hE]
    clear hp7 hr7 hc7 hb7 hl7 hE
    by_cases hK0 : K = 0
    · obtain rfl : E = 0 := HE.out.1 hK0
      subst hK0
      obtain rfl : R = len := by have := HR.out; omega
      go_wp2_with fail
      refine HS8.mono ?_
      clear HS8
      rintro e w' ⟨rfl, hw'⟩
      subst w'
      go_wp2
      go_ret
      exact ⟨rfl, HB7.out⟩
    · obtain rfl : E = 9 := HE.out.2 hK0
      have hKp : (0 : Int) < (K : Int) := by omega
      go_wp2_with fail
      refine HS8.mono ?_
      clear HS8
      rintro e w' ⟨rfl, hw'⟩
      subst w'
      go_wp2
      go_ret
      exact ⟨by simp; omega, HB7.out⟩
end Go.Proofs.Ytcbmlioeeoghkaa
/- LZW: a decoder of any least bits between two pushes. -/
namespace Go.Proofs.Ytcbmlioeeoghkaa
open Go.RowKit
theorem lzC_er {L : Nat} {s : Lz} {c : Nat} (h : s.er ≠ 2) : (lzC L s c).er ≠ 2 := by
  unfold lzC
  split
  · exact h
  split
  · exact h
  split
  · show (6 : Int) ≠ 2; decide
  · unfold lzT
    split
    · exact h
    · show (9 : Int) ≠ 2; decide
theorem lzO_er {L : Nat} (hL : L ≤ 8) (n : Nat) (bs : List Int) : (lzO L n bs).er ≠ 2 :=
  lzG_ind hL (fun t => t.er ≠ 2) (fun a b h _ e => by
    unfold lzS at e
    split at e
    · cases e
    · injection e with e; subst e
      exact lzC_er (s := lzP a _) h) _ _ (Nat.lt_succ_self _) (by
        show (((lz0 n).fed bs)).er ≠ 2
        have : ((lz0 n).fed bs).er = 0 := rfl
        rw [this]; decide)
/-- What a decoder tells whose least bits may not be. -/
def lzB0 : Lz := ⟨2, 0, [], 0, [], 0, 1, [], []⟩
def lzX (l lim : Int) (bs : List Int) : Lz := if 2 ≤ l ∧ l ≤ 8 then lzO l.toNat lim.toNat bs else lzB0
def LX (base : Nat) (w : World) (d : Nat) (l lim : Int) (bs : List Int) (S : Nat → Prop) : Prop :=
  ((2 ≤ l ∧ l ≤ 8) ∧ LMem base w d l.toNat (lzX l lim bs) S) ∨ (¬ (2 ≤ l ∧ l ≤ 8) ∧ LBad w d l ∧ S d ∧ ∀ k, S k → base ≤ k ∧ k < w.heap.size)
theorem lzX_yes {l lim : Int} {bs : List Int} (h : 2 ≤ l ∧ l ≤ 8) : lzX l lim bs = lzO l.toNat lim.toNat bs := if_pos h
theorem lzX_no {l lim : Int} {bs : List Int} (h : ¬ (2 ≤ l ∧ l ≤ 8)) : lzX l lim bs = lzB0 := if_neg h
theorem lzX_nil (l lim : Int) : (lzX l lim []).out = [] ∧ ((lzX l lim []).er != 0) = decide (¬ (2 ≤ l ∧ l ≤ 8)) := by
  by_cases h : 2 ≤ l ∧ l ≤ 8
  · rw [lzX_yes h, lzO_nil (by omega)]
    refine ⟨rfl, ?_⟩
    rw [decide_eq_false (by omega)]; rfl
  · rw [lzX_no h, decide_eq_true h]
    exact ⟨rfl, rfl⟩
theorem lzX_rest (l lim : Int) (bs : List Int) : (lzX l lim bs).rest.length ≤ bs.length := by
  by_cases h : 2 ≤ l ∧ l ≤ 8
  · rw [lzX_yes h]; exact lzO_rest (by omega) _ _
  · rw [lzX_no h]; exact Nat.zero_le _
/-- What the document's error is beside the program's. -/
def clE (s : Lz) : Int := if (if s.k = 0 then 2 else s.er) = 2 then 0 else (if s.k = 0 then 2 else s.er)
section
variable {base : Nat} {w w' : World} {d : Nat} {l lim : Int} {bs : List Int} {S : Nat → Prop}
theorem LX.sb (h : LX base w d l lim bs S) : ∀ k, S k → base ≤ k ∧ k < w.heap.size := by
  rcases h with ⟨_, h⟩ | ⟨_, _, _, h⟩
  · exact h.sb
  · exact h
theorem LX.keep (h : LX base w d l lim bs S) (hk : ∀ k, S k → w'.heap[k]? = w.heap[k]?) (hz : w.heap.size ≤ w'.heap.size) : LX base w' d l lim bs S := by
  rcases h with ⟨h1, h⟩ | ⟨h1, ⟨lf, h2⟩, h3, h4⟩
  · exact .inl ⟨h1, h.keep hk hz⟩
  · exact .inr ⟨h1, ⟨lf, (hk d h3).trans h2⟩, h3, fun k e => ⟨(h4 k e).1, Nat.lt_of_lt_of_le (h4 k e).2 hz⟩⟩
theorem LX.old (h : LX base w d l lim bs S) (hb : Below w.heap.size w w') : LX base w' d l lim bs S := h.keep (fun k hk => hb.block k (h.sb k hk).2) hb.size
theorem LX.k2 (h : LX base w d l lim bs S) : (lzX l lim bs).k = 2 ↔ (lzX l lim bs).er ≠ 0 := by
  rcases h with ⟨h1, h⟩ | ⟨h1, -⟩
  · obtain ⟨B, r, g, hle⟩ := h.le
    exact hle.cells.2.2.2
  · rw [lzX_no h1]; decide
theorem LX.clE (h : LX base w d l lim bs S) : clE (lzX l lim bs) = (lzX l lim bs).er := by
  have h2 := h.k2
  have h3 : (lzX l lim bs).er ≠ 2 := by
    by_cases hl : 2 ≤ l ∧ l ≤ 8
    · rw [lzX_yes hl]; exact lzO_er (by omega) _ _
    · rw [lzX_no hl]; decide
  unfold Go.Proofs.Ytcbmlioeeoghkaa.clE
  by_cases hk : (lzX l lim bs).k = 0
  · rw [if_pos hk, if_pos rfl]
    have : ¬ (lzX l lim bs).k = 2 := by omega
    have : ¬ (lzX l lim bs).er ≠ 0 := fun e => this (h2.2 e)
    omega
  · rw [if_neg hk, if_neg h3]
theorem LX.err (h : LX base w d l lim bs S) (he : (lzX l lim bs).er ≠ 0) (m : List Int) : lzX l lim (bs ++ m) = lzX l lim bs := by
  by_cases hl : 2 ≤ l ∧ l ≤ 8
  · have := h.k2.2 he
    rw [lzX_yes hl] at this ⊢
    rw [lzX_yes hl]
    exact lzO_err (by omega) _ _ _ this
  · rw [lzX_no hl, lzX_no hl]
end
theorem lxnew (l lim : Int) (hlim : lim ≤ 9223372036854775807) (w : World) : Calls Try.prog 10 #[.int .i64 l, .int .i64 lim] w fun e w' => ∃ S, e = .returned (.pointer (some ⟨w.heap.size, 0, none⟩)) ∧ LX w.heap.size w' w.heap.size l lim [] S ∧ Below w.heap.size w w' := by
  by_cases hl : 2 ≤ l ∧ l ≤ 8
  · obtain ⟨L, rfl⟩ : ∃ L : Nat, l = (L : Int) := ⟨l.toNat, by omega⟩
    have hL : 2 ≤ L ∧ L ≤ 8 := by omega
    refine (lnew_yes hL lim hlim w).mono ?_
    rintro e w1 ⟨S, rfl, hd, hb⟩
    refine ⟨S, rfl, .inl ⟨hl, ?_⟩, hb⟩
    rw [lzX_yes hl, lzO_nil (by omega)]
    exact hd
  · refine (lnew_no l hl lim w).mono ?_
    rintro e w1 ⟨rfl, hd, hb⟩
    refine ⟨fun k => k = w.heap.size, rfl, .inr ⟨hl, hd, rfl, fun k hk => ?_⟩, hb⟩
    subst hk
    obtain ⟨lf, h⟩ := hd
    exact ⟨Nat.le_refl _, lt_of_block h⟩
def LxPost (base : Nat) (w : World) (d : Nat) (l lim : Int) (bs zs : List Int) (S : Nat → Prop) (e : Ending) (w' : World) : Prop :=
  ∃ S' T tv tg, e = .returned (.tuple #[tv, .int .i64 (lzX l lim (bs ++ zs)).er]) ∧ (lzX l lim (bs ++ zs)).out = (lzX l lim bs).out ++ T ∧ LX base w' d l lim (bs ++ zs) S' ∧ Sl w' 5 tv tg (vals T) ∧ (∀ k, tg = some k → w.heap.size ≤ k ∧ ¬ S' k) ∧ (∀ k, S' k → S k ∨ w.heap.size ≤ k) ∧ LFr S w w'
section
variable {base : Nat} {w : World} {d : Nat} {l lim : Int} {bs : List Int} {S : Nat → Prop}
theorem lxpush (h : LX base w d l lim bs S) (zs : List Int) (a : Option Addr) (m c : Nat) (hm : zs.length = m) (hc : a = none → c = 0) (hrow : Row w a zs) (hby : Bytes zs) (hsm : bs.length + m ≤ 900000) : Calls Try.prog 11 #[.pointer (some ⟨d, 0, none⟩), .slice a m c] w fun e w' => LxPost base w d l lim bs zs S e w' := by
  rcases h with ⟨h1, h⟩ | ⟨h1, h2, h3, h4⟩
  · obtain ⟨L, rfl⟩ : ∃ L : Nat, l = (L : Int) := ⟨l.toNat, by omega⟩
    have hL : 2 ≤ L ∧ L ≤ 8 := by omega
    have e := lzX_yes (lim := lim) (bs := bs) h1
    have e2 := lzX_yes (lim := lim) (bs := bs ++ zs) h1
    rw [Int.toNat_natCast] at h e e2
    rw [e] at h
    refine (lpush_any hL h zs a m c hm hc hrow hby (fun h0 => ?_) (fun _ => ?_)).mono ?_
    · have := lzO_zs hL.2 lim.toNat bs h0; omega
    · have := lzO_rest hL.2 lim.toNat bs; omega
    · rintro e9 w2 ⟨z', S', T, tv, tg, rfl, hz', hT, hm2, hs2, hg2, hS2, hf2⟩
      rw [lzO_more hL.2] at hz'
      subst hz'
      refine ⟨S', T, tv, tg, by rw [e2], by rw [e2, e]; exact hT, .inl ⟨h1, by rw [e2, Int.toNat_natCast]; exact hm2⟩, hs2, hg2, hS2, hf2⟩
  · refine (lpush_bad h2 h1 _).mono ?_
    rintro e w2 ⟨rfl, rfl⟩
    refine ⟨S, [], .slice none 0 0, none, by rw [lzX_no h1]; rfl, by rw [lzX_no h1, lzX_no h1]; rfl, .inr ⟨h1, h2, h3, h4⟩, Sl.nil _ _, (fun k hk => by cases hk), fun k hk => .inl hk, LFr.refl _ _⟩
theorem lxdone (h : LX base w d l lim bs S) : Calls Try.prog 15 #[.pointer (some ⟨d, 0, none⟩)] w fun e w' => e = .returned (.bool ((lzX l lim bs).k == 1)) ∧ w' = w := by
  rcases h with ⟨h1, h⟩ | ⟨h1, h2, h3, h4⟩
  · exact ldone_any h
  · rw [lzX_no h1]; exact ldone_bad h2
theorem lxrest (h : LX base w d l lim bs S) (hb : bs.length ≤ 900000) : Calls Try.prog 16 #[.pointer (some ⟨d, 0, none⟩)] w fun e w' => LrPost w (lzX l lim bs).rest e w' := by
  rcases h with ⟨h1, h⟩ | ⟨h1, h2, h3, h4⟩
  · exact lrest_any h (by have := lzX_rest l lim bs; omega)
  · rw [lzX_no h1]; exact lrest_bad h2
end
set_option maxHeartbeats 1600000 in
set_option maxRecDepth 100000 in
theorem rof9_bad {l : Int} (hl : ¬ (2 ≤ l ∧ l ≤ 8)) (v : Value) (lim : Int) (w : World) : Calls Try.prog 12 #[v, .int .i64 l, .int .i64 lim] w fun e w' => OfP w lzB0 e w' := by
  obtain ⟨w9, hw9⟩ : ∃ w9, w.alloc (.cells #[.slice none 0 0, .slice none 0 0, .int .i64 1, .bool false] 30) = w9 := ⟨_, rfl⟩
  have HP : OfP w lzB0 (.returned (.agg #[.slice none 0 0, .slice none 0 0, .int .i64 1, .bool false])) w9 := ⟨none, 0, none, 0, rfl, .inl rfl, .inl rfl, Nat.zero_le _, by decide, fun _ => rfl, by rw [← hw9]; exact (Below.refl _ _).alloc (Nat.le_refl _) _⟩
  have hr : RC9 w9 w.heap.size (.slice none 0 0) (.slice none 0 0) 1 false := by rw [← hw9]; exact heap_alloc_new _ _
  have HH : Hid (OfP w lzB0 (.returned (.agg #[.slice none 0 0, .slice none 0 0, .int .i64 1, .bool false])) w9 ∧ RC9 w9 w.heap.size (.slice none 0 0) (.slice none 0 0) 1 false ∧ w.alloc (.cells #[.slice none 0 0, .slice none 0 0, .int .i64 1, .bool false] 30) = w9) := ⟨HP, hr, hw9⟩
  clear HP hr hw9
  rcases (show l < 2 ∨ (¬ l < 2 ∧ 8 < l) by omega) with h | ⟨h, h2⟩
  all_goals
    clear hl
    go_enter Try.func12, Try.ntmps12
    go_wp2
    rw [HH.out.2.2]
    obtain ⟨z0, z1, z2, z3, zf⟩ := HH.out.2.1.cells
    refine bodyPost_ret (v := .agg #[.slice none 0 0, .slice none 0 0, .int .i64 1, .bool false]) ?_ rfl HH.out.1
    rw [results_cell9 rfl]
    go_simp
/-- The document's Of, of all least bits. -/
def LOf : Prop := ∀ (a : Option Addr) (n cap : Nat) (zs : List Int) (l lim : Int) (w : World), zs.length = n → n ≤ 30000 → Bytes zs → Row w a zs → lim ≤ 9223372036854775807 →
  Calls Try.prog 12 #[.slice a n cap, .int .i64 l, .int .i64 lim] w fun e w' => OfP w (lzX l lim zs) e w'
end Go.Proofs.Ytcbmlioeeoghkaa
/- LZW: the law's rows of bytes. -/
namespace Go.Proofs.Ytcbmlioeeoghkaa
open Go.RowKit
def GrPost (w : World) (n : Nat) (P : Int) (e : Ending) (w' : World) : Prop :=
  ∃ A a c, e = .returned (.slice a n c) ∧ A.length = n ∧ (∀ v ∈ A, 0 ≤ v ∧ v < P) ∧ Row w' a A ∧ n ≤ c ∧ c ≤ 9223372036854775807 ∧ (a = none → c = 0) ∧ Below w.heap.size w w'
structure GrR (w : World) (P : Int) (A : List Int) (v : Value) (g : Option Nat) (wr : World) : Prop where
  sl : Sl wr 5 v g (vals A)
  be : Below w.heap.size w wr
  gn : ∀ k, g = some k → w.heap.size ≤ k
  bd : ∀ v ∈ A, 0 ≤ v ∧ v < P
theorem GrR.step {w wr W w7 : World} {P : Int} {A : List Int} {v v7 : Value} {g g7 : Option Nat} {z : Int} (h : GrR w P A v g wr) (hz : 0 ≤ z ∧ z < P) (hb : Below wr.heap.size wr W) (h1 : Sl w7 5 v7 g7 (vals (A ++ [z]))) (h2 : g7 = g ∨ ∃ k, g7 = some k ∧ W.heap.size ≤ k) (h3 : W.grownBy w7 g) : GrR w P (A ++ [z]) v7 g7 w7 := by
  have hs := hb.size
  have hws := h.be.size
  refine ⟨h1, ?_, fun k hk => ?_, fun v hv => ?_⟩
  · exact (h.be.trans (hb.mono hws)).grown h3 (by omega) h.gn
  · rcases h2 with e | ⟨j, e, hj⟩
    · exact h.gn k (by rw [← e, hk])
    · rw [e] at hk; cases hk; omega
  · rcases List.mem_append.1 hv with hv | hv
    · exact h.bd v hv
    · simp at hv; rw [hv]; exact hz
theorem GrR.fin {w wr : World} {P : Int} {A : List Int} {a : Option Addr} {n c : Nat} {g : Option Nat} (hn : A.length = n) (h : GrR w P A (.slice a n c) g wr) : GrPost w n P (.returned (.slice a n c)) wr := by
  obtain ⟨a', c', hv, h1, h2, h3⟩ := h.sl.shape
  rw [vals_len] at hv h1
  simp only [Value.slice.injEq] at hv
  obtain ⟨rfl, -, rfl⟩ := hv
  unfold maxLen at h2
  exact ⟨A, a, c, rfl, hn, h.bd, h.sl.row rfl, by omega, by omega, h3, h.be⟩
theorem GrR.at {w wr : World} {P : Int} {A : List Int} {a : Option Addr} {n c : Nat} {g : Option Nat} (hn : A.length = n) (h : GrR w P A (.slice a n c) g wr) {i : Nat} (hi : i < n) : ∃ b off, a = some ⟨b, off, none⟩ ∧ wr.cell? ⟨b, off + i, none⟩ = some (.int .u8 (A[i]?.getD 0)) ∧ 0 ≤ A[i]?.getD 0 ∧ A[i]?.getD 0 < P := by
  rcases h.sl.row rfl with e | ⟨b, off, rfl, hc⟩
  · rw [e] at hn; simp at hn; omega
  · refine ⟨b, off, rfl, hc i (by omega), ?_⟩
    have := h.bd (A[i]'(by omega)) (List.getElem_mem _)
    rw [List.getElem?_eq_getElem (by omega)]
    exact this
theorem row_oneG (w : World) (z : Int) : Row (w.alloc (.cells #[.int .u8 z] 5)) (some ⟨w.heap.size, 0, none⟩) [z] := by
  refine .inr ⟨w.heap.size, 0, rfl, fun i hi => ?_⟩
  obtain rfl : i = 0 := by simp at hi; omega
  have := heap_alloc_new w (.cells #[.int .u8 z] 5)
  simp only [World.cell?]
  rw [this]
  rfl
theorem GrR_app {w wr : World} {P : Int} {A : List Int} {v : Value} {g : Option Nat} {z : Int} {i : Nat} (h : GrR w P A v g wr) (hi : A.length = i) (hz : 0 ≤ z ∧ z < P) : ∀ v7 w7 g7, Sl w7 5 v7 g7 (vals (A ++ [z])) → (g7 = g ∨ ∃ k, g7 = some k ∧ (wr.alloc (.cells #[.int .u8 z] 5)).heap.size ≤ k) → (wr.alloc (.cells #[.int .u8 z] 5)).grownBy w7 g → ∃ a7 c7, v7 = .slice a7 (i + 1) c7 ∧ Hid ((A ++ [z]).length = i + 1 ∧ GrR w P (A ++ [z]) (.slice a7 (i + 1) c7) g7 w7) := by
  intro v7 w7 g7 h1 h2 h3
  obtain ⟨a7, c7, hv, -⟩ := h1.shape
  have hl : (A ++ [z]).length = i + 1 := by rw [List.length_append, hi]; rfl
  rw [vals_len, hl] at hv
  refine ⟨a7, c7, hv, hl, ?_⟩
  rw [← hv]
  exact h.step hz ((Below.refl _ wr).alloc (Nat.le_refl _) _) h1 h2 h3
set_option maxHeartbeats 6400000 in
set_option maxRecDepth 20000 in
theorem grown_any (s m P : Int) (n : Nat) (hs : 0 ≤ s ∧ s ≤ 65535) (hn : n ≤ 9000) (hm : (m = 2 ∧ P = 4) ∨ (m = 3 ∧ P = 8) ∨ (m = 4 ∧ P = 16) ∨ (m = 5 ∧ P = 32) ∨ (m = 6 ∧ P = 64) ∨ (m = 7 ∧ P = 128) ∨ (m = 8 ∧ P = 256)) (w : World) : Calls Try.prog 20 #[.int .u16 s, .int .u8 m, .int .i64 n] w fun e w' => GrPost w n P e w' := by
  have H0 : Hid (GrR w P [] (.slice none 0 0) none w) := ⟨Sl.nil _ _, Below.refl _ _, (fun k hk => by cases hk), (fun v hv => by cases hv)⟩
  have hs1 : IntKind.u32.wrap s = s := by simp [IntKind.wrap, IntKind.bits, IntKind.signed]; omega
  rcases hm with ⟨rfl, hP⟩ | ⟨rfl, hP⟩ | ⟨rfl, hP⟩ | ⟨rfl, hP⟩ | ⟨rfl, hP⟩ | ⟨rfl, hP⟩ | ⟨rfl, hP⟩
  all_goals
    have HP : Hid (P = _) := hP
    clear hP
    go_enter Try.func20, Try.ntmps20
    go_wp2
    go_loopw [7, 8, 9, 10] (fun v7 v8 v9 _ wr => ∃ (X : Int) (i : Nat) (a : Option Addr) (c : Nat) (A : List Int) (g : Option Nat), v7 = .int .u32 X ∧ 0 ≤ X ∧ X < 4294967296 ∧ v8 = .slice a i c ∧ v9 = .int .i64 i ∧ i ≤ n ∧ Hid (A.length = i ∧ GrR w P A (.slice a i c) g wr)) (fun _ _ v9 _ _ => n - (intOf v9).toNat)
    case atStart => exact ⟨_, 0, none, 0, [], none, rfl, by omega, by omega, rfl, rfl, Nat.zero_le _, rfl, H0.out⟩
    case round =>
      clear H0
      obtain ⟨X, i, a, c, A, g, rfl, hX0, hX1, rfl, rfl, hi, HX⟩ := hrel
      by_cases hlt : i < n
      · have hlti : (i : Int) < (n : Int) := by omega
        go_upto_region 6 with fail
        go_cut [7] (fun v wx => wx = wr ∧ ∃ Y : Int, v = .int .u32 Y ∧ 0 ≤ Y ∧ Y < 4294967296)
        case first =>
          go_wp2
          go_meet
          exact ⟨rfl, _, rfl, by omega, by omega⟩
        case rest =>
        obtain ⟨hwc, Y, rfl, hY0, hY1⟩ := hcut
        rw [hwc]
        clear hwc wc hX0 hX1
        go_upto_region 7 with fail
        go_cut [10] (fun v wx => wx = wr ∧ ∃ z : Int, v = .int .u8 z ∧ Hid (0 ≤ z ∧ z < P))
        case first =>
          go_wp2
          go_meet
          refine ⟨rfl, _, rfl, ?_⟩
          show _ ∧ _
          have := HP.out
          omega
        case rest =>
        obtain ⟨hwc, z, rfl, HZ⟩ := hcut
        rw [hwc]
        clear hwc wc
        obtain ⟨q, hq⟩ : ∃ q, bits .and .u32 (Y / 1048576) 3 = q := ⟨_, rfl⟩
        go_upto_region 8 with fail
        go_cut [35] (fun v wx => wx = wr ∧ (v = .bool false ∨ (v = .bool true ∧ 10 < i)))
        case first =>
          by_cases hqz : q = 0
          · subst hqz
            by_cases hi10 : 10 < i
            · have hi10i : decide (10 < (i : Int)) = true := by simp; omega
              go_wp2
              go_meet
              exact ⟨rfl, .inr ⟨by first | rfl | trivial, hi10⟩⟩
            · have hi10i : decide (10 < (i : Int)) = false := by simp; omega
              go_wp2
              go_meet
              exact ⟨rfl, .inl rfl⟩
          · have hqb : (q == 0) = false := by simpa using hqz
            go_wp2
            go_meet
            exact ⟨rfl, .inl rfl⟩
        case rest =>
        obtain ⟨hwc, hv⟩ := hcut
        rw [hwc]
        clear hwc wc hq
        rcases hv with rfl | ⟨rfl, h10⟩
        · have HB := GrR_app HX.out.2 HX.out.1 HZ.out
          have HSW : Hid (Sl (wr.alloc (.cells #[.int .u8 z] 5)) 5 (.slice a i c) g (vals A)) := HX.out.2.sl.same fun k hk => Below.heap_alloc _ _ _ (HX.out.2.sl.lt hk)
          have HLn : Hid (A.length + 1 ≤ 140737488351232) := by have := HX.out.1; show _ ≤ _; omega
          have HHB : Hid _ := HB
          clear HB
          go_wp2_with (at_builtin; refine wpList_more rfl _ _ rfl (.slice a i c) g A rfl HSW.out (some ⟨wr.heap.size, 0, none⟩) 1 1 [z] rfl (fun h => by cases h) rfl (row_oneG wr z) HLn.out ?_; intro v7 w7 g7 hs7 hg7 hgr7; obtain ⟨a7, c7, hv7, HN7⟩ := HHB.out v7 w7 g7 hs7 hg7 ⟨hgr7.os, hgr7.tape, hgr7.output, hgr7.size, hgr7.block⟩; subst hv7; clear hs7 hg7 hgr7)
          go_roundw
          case rel => exact ⟨Y, i + 1, a7, c7, A ++ [z], g7, rfl, hY0, hY1, rfl, by go_num, by omega, HN7⟩
          case measure => simp [intOf]; omega
        · have h10i : (10 : Int) ≤ (i : Int) := by omega
          have hsub : (i : Int) - 10 = ((i - 10 : Nat) : Int) := by omega
          obtain ⟨bb, off, rfl, hx, hx0, hx1⟩ := HX.out.2.at HX.out.1 (i := i - 10) (by omega)
          obtain ⟨i9, hi9⟩ : ∃ i9, i - 10 = i9 := ⟨_, rfl⟩
          rw [hi9] at hx hx0 hx1 hsub
          have hi9i : (i9 : Int) < (i : Int) := by omega
          obtain ⟨y, hy⟩ : ∃ y, A[i9]?.getD 0 = y := ⟨_, rfl⟩
          rw [hy] at hx hx0 hx1
          have HB := GrR_app HX.out.2 HX.out.1 ⟨hx0, hx1⟩
          have HSW : Hid (Sl (wr.alloc (.cells #[.int .u8 y] 5)) 5 (.slice (some ⟨bb, off, none⟩) i c) g (vals A)) := HX.out.2.sl.same fun k hk => Below.heap_alloc _ _ _ (HX.out.2.sl.lt hk)
          have HLn : Hid (A.length + 1 ≤ 140737488351232) := by have := HX.out.1; show _ ≤ _; omega
          have HHB : Hid _ := HB
          clear HB hx0 hx1 hi9 hy
          go_wp2_with (at_builtin; refine wpList_more rfl _ _ rfl (.slice (some ⟨bb, off, none⟩) i c) g A rfl HSW.out (some ⟨wr.heap.size, 0, none⟩) 1 1 [y] rfl (fun h => by cases h) rfl (row_oneG wr y) HLn.out ?_; intro v7 w7 g7 hs7 hg7 hgr7; obtain ⟨a7, c7, hv7, HN7⟩ := HHB.out v7 w7 g7 hs7 hg7 ⟨hgr7.os, hgr7.tape, hgr7.output, hgr7.size, hgr7.block⟩; subst hv7; clear hs7 hg7 hgr7)
          go_roundw
          case rel => exact ⟨Y, i + 1, a7, c7, A ++ [y], g7, rfl, hY0, hY1, rfl, by go_num, by omega, HN7⟩
          case measure => simp [intOf]; omega
      · obtain rfl : i = n := by omega
        go_wp2
        go_ret
        exact HX.out.2.fin HX.out.1
end Go.Proofs.Ytcbmlioeeoghkaa
/- LZW: a row of bytes that fills the table, written and read. -/
namespace Go.Proofs.Ytcbmlioeeoghkaa
open Go.RowKit
set_option maxHeartbeats 3200000 in
set_option maxRecDepth 20000 in
theorem llong_walk (hof : LOf) (s l n t : Int) (w : World) (ws : (Lit.int .u16 s).wf = true) (wl : (Lit.int .u8 l).wf = true) (wn : (Lit.int .u16 n).wf = true) (wt : (Lit.int .u8 t).wf = true) :
    Calls Try.prog 6 #[.int .u16 s, .int .u8 l, .int .u16 n, .int .u8 t] w fun e w' => e = .returned (.bool true) ∧ Below w.heap.size w w' := by
  have hs := bounds_u16 ws
  have hl := bounds_u8 wl
  have hn := bounds_u16 wn
  have ht := bounds_u8 wt
  clear ws wl wn wt
  obtain ⟨M, hM⟩ : ∃ M : Nat, 2 + l % 7 = (M : Int) := ⟨(2 + l % 7).toNat, by omega⟩
  obtain ⟨N, hN⟩ : ∃ N : Nat, n % 9000 = (N : Int) := ⟨(n % 9000).toNat, by omega⟩
  have hM8 : 2 ≤ M ∧ M ≤ 8 := by omega
  have hN9 : N ≤ 9000 := by omega
  obtain ⟨Pw, hPw⟩ : ∃ Pw : Nat, 2 ^ M = Pw := ⟨_, rfl⟩
  have HPw : Hid (2 ^ M = Pw) := hPw
  have HMP : Hid (((M : Int) = 2 ∧ (Pw : Int) = 4) ∨ ((M : Int) = 3 ∧ (Pw : Int) = 8) ∨ ((M : Int) = 4 ∧ (Pw : Int) = 16) ∨ ((M : Int) = 5 ∧ (Pw : Int) = 32) ∨ ((M : Int) = 6 ∧ (Pw : Int) = 64) ∨ ((M : Int) = 7 ∧ (Pw : Int) = 128) ∨ ((M : Int) = 8 ∧ (Pw : Int) = 256)) := by
    show _ ∨ _
    have : M = 2 ∨ M = 3 ∨ M = 4 ∨ M = 5 ∨ M = 6 ∨ M = 7 ∨ M = 8 := by omega
    rcases this with rfl | rfl | rfl | rfl | rfl | rfl | rfl <;> (subst hPw; simp)
  clear hPw
  go_enter Try.func6, Try.ntmps6
  go_wp2_with fail
  refine (lfixed_any w).mono ?_
  rintro e w1 ⟨rfl, b1⟩
  have HB1 : Hid (Below w.heap.size w w1) := b1
  clear b1
  go_upto_region 3 with fail
  go_cut [9] (fun v wx => wx = w1 ∧ v = .int .u8 M)
  case first =>
    go_wp2
    go_meet
    exact ⟨rfl, by first | rfl | rw [hM]⟩
  case rest =>
  obtain ⟨hwc, rfl⟩ := hcut
  rw [hwc]
  clear hwc wc hM
  have hM2 : (2 : Int) ≤ (M : Int) := by omega
  have hMb : (M : Int) ≤ 8 := by omega
  have C1 := grown_any s M Pw N hs hN9 HMP.out w1
  go_wp2_with fail
  rw [hN]
  refine C1.mono ?_
  clear C1 hN
  rintro e w2 ⟨A, a, c, rfl, hAl, hAb, hAr, hc, hc9, hc0, b2⟩
  have hby : Bytes A := fun v hv => by
    have h1 := hAb v hv
    have h2 := HMP.out
    exact ⟨h1.1, by omega⟩
  have HA : Hid (Bytes A ∧ Row w2 a A ∧ (a = none → c = 0) ∧ A.length = N ∧ (∀ v ∈ A, 0 ≤ v ∧ v < ((2 ^ M : Nat) : Int))) := ⟨hby, hAr, hc0, hAl, by rw [HPw.out]; exact hAb⟩
  have HB2 : Hid (Below w.heap.size w w2) := HB1.out.trans (b2.mono HB1.out.size)
  clear hAb hAr hc0 hAl hby b2 HB1
  obtain ⟨Z, hZ⟩ : ∃ Z, outE (pkA M t A) = Z := ⟨_, rfl⟩
  have HZ : Hid (outE (pkA M t A) = Z ∧ Bytes Z ∧ 1 ≤ Z.length ∧ Z.length ≤ 27004) := by
    have h1 := outE_pos (late := t) hM8 A
    have h2 := outE_pk (late := t) hM8 A
    have h3 := outE_bytes (pkA M t A)
    rw [hZ] at h1 h2 h3
    exact ⟨hZ, h3, h1, by have := HA.out; omega⟩
  obtain ⟨P, hP⟩ : ∃ P, Z.length = P := ⟨_, rfl⟩
  have HP : Hid (Z.length = P) := hP
  have hP1 : 1 ≤ P ∧ P ≤ 27004 := by have := HZ.out; omega
  have C1 : Calls Try.prog 18 #[.slice a N c, .int .i64 M, .int .i64 t] w2 fun e w' => NewBytes2 w2 (outE (pkA M t A)) e w' := lpack_yes (L := M) hM8 (by omega) (by omega) HA.out.2.2.2.1 hc (by omega) HA.out.2.2.1 HA.out.2.1 HA.out.1 (fun v hv => (HA.out.2.2.2.2 v hv).2)
  rw [hZ] at C1
  clear hP hZ
  go_wp2_with fail
  refine C1.mono ?_
  clear C1
  rintro e w3 ⟨a1, c1, rfl, h11, h12, h13, h14, h15⟩
  have HB3 : Hid (Below w.heap.size w w3) := HB2.out.trans (h15.mono HB2.out.size)
  have HR3 : Hid (Row w3 a1 Z ∧ Row w3 a A ∧ (a1 = none → c1 = 0)) := ⟨h14, HA.out.2.1.old h15, h13⟩
  rw [HP.out] at h11 ⊢
  unfold maxLen at h12
  have hbk : lzO M N Z = ⟨1, N - A.length, [], 0, [], 0, 0, A, []⟩ := by
    have h := lzO_back (late := t) hM8 N HA.out.2.2.2.2 (more := []) (fun x hx => by cases hx)
    rw [List.append_nil, HZ.out.1] at h
    rw [h]
    exact end_yes (by have := HA.out; omega)
  have C2 := hof a1 P c1 Z (M : Int) (N : Int) w3 HP.out (by omega) HZ.out.2.1 HR3.out.1 (by omega)
  rw [lzX_yes (by omega)] at C2
  simp only [Int.toNat_natCast] at C2
  rw [hbk] at C2
  unfold OfP at C2
  simp only [HA.out.2.2.2.1, List.length_nil, Nat.one_ne_zero, if_false, show ((1 : Nat) == 1) = true from rfl] at C2
  have HBK : Hid (lzO M N Z = ⟨1, N - A.length, [], 0, [], 0, 0, A, []⟩) := hbk
  clear hbk h13 h14 h15 HB2
  go_wp2_with fail
  refine C2.mono ?_
  clear C2
  rintro e w4 ⟨ao, co, ar, cr, rfl, hro, hrr, hco1, hco2, hco3, hb4⟩
  obtain ⟨W5, hW5⟩ : ∃ W5, w4.alloc (.cells #[.slice ao N co, .slice ar 0 cr, .int .i64 0, .bool true] 30) = W5 := ⟨_, rfl⟩
  have hz5 : RC9 W5 w4.heap.size (.slice ao N co) (.slice ar 0 cr) 0 true := by rw [← hW5]; exact heap_alloc_new w4 _
  have hb45 : Below w4.heap.size w4 W5 := by rw [← hW5]; exact (Below.refl _ w4).alloc (Nat.le_refl _) _
  have hb35 : Below w3.heap.size w3 W5 := hb4.trans (hb45.mono hb4.size)
  have HB5 : Hid (Below w.heap.size w W5) := HB3.out.trans (hb35.mono HB3.out.size)
  have C3 := lall_any a1 P c1 Z 100 M (N : Int) W5 hM8 HP.out (HR3.out.1.old hb35) HZ.out.2.1 h11 (by omega) HR3.out.2.2 (by omega) (lzO_rests hM8.2 _ Z (by have := HP.out; omega)) (by omega) (by omega) (by omega)
  simp only [Int.toNat_natCast] at C3
  obtain ⟨R, hR⟩ : ∃ R, w4.heap.size = R := ⟨_, rfl⟩
  rw [hR] at hz5
  have H5 : Hid (RC9 W5 R (.slice ao N co) (.slice ar 0 cr) 0 true ∧ Row W5 ao A ∧ Row W5 a A ∧ w4.alloc (.cells #[.slice ao N co, .slice ar 0 cr, .int .i64 0, .bool true] 30) = W5 ∧ w4.heap.size = R) := ⟨hz5, hro.old hb45, HR3.out.2.1.old hb35, hW5, hR⟩
  clear hz5 hb45 hb35 hro hrr hb4 hR hW5 HB3 HR3
  go_upto_region 9 with fail
  rw [H5.out.2.2.2.1, H5.out.2.2.2.2]
  go_wp2_with fail
  refine C3.mono ?_
  clear C3
  rintro e w6 hp6
  obtain ⟨S6, d6, a6, c6, rfl, hm6, hr6, hc6, -, -, hb6⟩ := hp6.open
  rw [HBK.out] at hm6 hr6 hc6 ⊢
  simp only [HA.out.2.2.2.1] at hr6 hc6 ⊢
  have HB6 : Hid (Below w.heap.size w w6) := HB5.out.trans (hb6.mono HB5.out.size)
  have hz6 : RC9 w6 R (.slice ao N co) (.slice ar 0 cr) 0 true := (hb6.block R (lt_of_block H5.out.1)).trans H5.out.1
  obtain ⟨k0, k1, k2, k3, kf⟩ := hz6.cells
  have HS1 := same_any ao a N co c A w6 HA.out.2.2.2.1 (H5.out.2.1.old hb6) (H5.out.2.2.1.old hb6)
  have HS2 := same_any a6 a N c6 c A w6 HA.out.2.2.2.1 hr6 (H5.out.2.2.1.old hb6)
  have HD := ldone_any hm6
  simp only [show ((1 : Nat) == 1) = true from rfl] at HD
  have HT := lrest_any hm6 (Nat.zero_le _)
  clear hp6 hm6 hr6 hc6 hb6 HB5 H5 hz6
  go_wp2_with fail
  refine HS1.mono ?_
  clear HS1
  rintro e w' ⟨rfl, hw'⟩
  subst w'
  go_wp2_with fail
  refine HD.mono ?_
  clear HD
  rintro e w' ⟨rfl, hw'⟩
  subst w'
  go_wp2_with fail
  refine HS2.mono ?_
  clear HS2
  rintro e w' ⟨rfl, hw'⟩
  subst w'
  go_wp2_with fail
  refine HT.mono ?_
  clear HT
  rintro e w7 hp7
  obtain ⟨a7, c7, rfl, -, -, -, hb7⟩ := hp7.open
  have HB7 : Hid (Below w.heap.size w w7) := HB6.out.trans (hb7.mono HB6.out.size)
  simp only [List.length_nil]
  clear hp7 hb7 HB6
  go_wp2
  go_ret
  exact ⟨rfl, HB7.out⟩
end Go.Proofs.Ytcbmlioeeoghkaa
/- LZW: the document's Of, of all least bits. -/
namespace Go.Proofs.Ytcbmlioeeoghkaa
open Go.RowKit
theorem lof_all : LOf := by
  intro a n cap zs l lim w hn hn3 hby hrow hlim
  by_cases hl : 2 ≤ l ∧ l ≤ 8
  · obtain ⟨L, rfl⟩ : ∃ L : Nat, l = (L : Int) := ⟨l.toNat, by omega⟩
    rw [lzX_yes hl, Int.toNat_natCast]
    exact rof9_try (by omega) hn hn3 hby hrow hlim
  · rw [lzX_no hl]
    exact rof9_bad hl _ lim w
end Go.Proofs.Ytcbmlioeeoghkaa
/- LZW: LzwLong, whole. -/
namespace Go.Proofs.Ytcbmlioeeoghkaa
open Go.RowKit
theorem llong_all (s l n t : Int) (w : World) (ws : (Lit.int .u16 s).wf = true) (wl : (Lit.int .u8 l).wf = true) (wn : (Lit.int .u16 n).wf = true) (wt : (Lit.int .u8 t).wf = true) :
    Calls Try.prog 6 #[.int .u16 s, .int .u8 l, .int .u16 n, .int .u8 t] w fun e w' => e = .returned (.bool true) ∧ Below w.heap.size w w' :=
  llong_walk lof_all s l n t w ws wl wn wt
end Go.Proofs.Ytcbmlioeeoghkaa
