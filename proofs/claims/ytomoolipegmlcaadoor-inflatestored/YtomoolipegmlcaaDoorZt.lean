/- Joined: Jg PtB Kh. -/
import Derived.Test.YtomoolipegmlcaaDoorZm
import Derived.Test.YtomoolipegmlcaaDoorZr
import Derived.Test.YtomoolipegmlcaaDoorZq
import Derived.Deep.Slices
/- Stored blocks, by the machine. -/
namespace Go.Proofs.YtomoolipegmlcaaDoor
open Go.RowKit
theorem bV_lit (A B R : List Int) (hB : Bytes B) (k n : Nat) (hk : k = 8 * A.length) (hn : n = 8 * B.length) : bV (bitsL (A ++ (B ++ R))) k n = (litN B).toNat := by
  unfold bV
  rw [hk, bitsL_drop, List.drop_left, bitsL_append, hn, ← bitsL_len B, List.take_left, binN_bitsL hB]
theorem litN_one (z : Int) : litN [z] = z := by simp [litN]
theorem litN_two (x y : Int) : litN [x, y] = x + 256 * y := by simp [litN]
def stk (now : Nat) (s : St) (out : List Int) (left : Nat) : St := { s with now := now, out := out, left := left, la := none, da := none }
theorem item_st {lim : Nat} {s : St} (h : s.now = 2) (l : List Int) : item lim s l = itStored lim s l := by unfold item; rw [h]; rfl
theorem bytes_head {z : Int} {t : List Int} (h : Bytes (z :: t)) : 0 ≤ z ∧ z < 256 := h z (by simp)
theorem bytes_tail {z : Int} {t : List Int} (h : Bytes (z :: t)) : Bytes t := fun y hy => h y (by simp [hy])
theorem bytes_one {z : Int} (h : 0 ≤ z ∧ z < 256) : Bytes [z] := fun y hy => by simp at hy; subst hy; exact h
theorem runs_stored (lim : Nat) (R : List Int) : ∀ (t : List Int) (s : St), s.now = 2 → s.left = t.length → t ≠ [] → Bytes t → s.out.length + t.length ≤ lim →
    ∃ s1, s1.now = (if s.last then 11 else 0) ∧ s1.out = s.out ++ t ∧ ∀ r, Runs lim s1 (bitsL R) r → Runs lim s (bitsL (t ++ R)) r
  | [], _, _, _, h, _, _ => absurd rfl h
  | z :: t, s, h2, hl, _, hb, hlim => by
    have hz := bytes_head hb
    have e0 : bV (bitsL (z :: t ++ R)) 0 8 = z.toNat := by
      have := bV_lit [] [z] (t ++ R) (bytes_one hz) 0 8 rfl rfl
      rw [litN_one] at this
      exact this
    have e1 : ((z.toNat : Nat) : Int) = z := Int.toNat_of_nonneg hz.1
    have hlen : (bitsL (z :: t ++ R)).length = 8 * (t.length + R.length) + 8 := by rw [bitsL_len]; simp; omega
    have hd : (bitsL (z :: t ++ R)).drop 8 = bitsL (t ++ R) := by
      have := bitsL_drop 1 (z :: t ++ R)
      exact this
    simp only [List.length_cons] at hlim hl
    cases t with
    | nil =>
      have hit : item lim s (bitsL ([z] ++ R)) = endB { s with out := s.out ++ [z], left := 0 } (bitsL ([z] ++ R)) 8 := by
        rw [item_st h2, itStored, if_neg (by rw [hlen]; omega), if_neg (by omega), if_pos (by simpa using hl), e0, e1]
      unfold endB at hit
      simp only at hit
      by_cases hla : s.last = true
      · rw [if_pos hla, hlen, show 8 + (8 * (([] : List Int).length + R.length) + 8 - 8) % 8 = 8 by omega] at hit
        refine ⟨{ s with out := s.out ++ [z], left := 0, la := none, da := none, now := 11 }, ?_, ?_, fun r hr => .ok (by omega) hit ?_⟩
        · rw [if_pos hla]
        · rfl
        · rw [hd]; exact hr
      · rw [if_neg hla] at hit
        refine ⟨{ s with out := s.out ++ [z], left := 0, la := none, da := none, now := 0 }, ?_, ?_, fun r hr => .ok (by omega) hit ?_⟩
        · rw [if_neg hla]
        · rfl
        · rw [hd]; exact hr
    | cons y t' =>
      have hit : item lim s (bitsL (z :: y :: t' ++ R)) = .ok { s with out := s.out ++ [z], left := s.left - 1 } 8 := by
        rw [item_st h2, itStored, if_neg (by rw [hlen]; omega), if_neg (by omega), if_neg (by simp at hl; omega), e0, e1]
      obtain ⟨s1, f1, f2, f3⟩ := runs_stored lim R (y :: t') { s with out := s.out ++ [z], left := s.left - 1 } h2 (by simp only [List.length_cons] at hl ⊢; omega) (by simp) (bytes_tail hb) (by simp only [List.length_append, List.length_cons, List.length_nil] at hlim ⊢; omega)
      refine ⟨s1, f1, ?_, fun r hr => .ok (by omega) hit ?_⟩
      · rw [f2]; simp
      · rw [hd]; exact f3 r hr
theorem runs_long (lim : Nat) (R : List Int) : ∀ (t : List Int) (s : St), s.now = 2 → s.left = t.length → Bytes t → s.out.length ≤ lim → lim < s.out.length + t.length →
    Runs lim s (bitsL (t ++ R)) (.fail 9 (s.out ++ t.take (lim - s.out.length)))
  | [], _, _, _, _, h1, h2 => by simp at h2; omega
  | z :: t, s, h2, hl, hb, h1, hlim => by
    have hz := bytes_head hb
    have e0 : bV (bitsL (z :: t ++ R)) 0 8 = z.toNat := by
      have := bV_lit [] [z] (t ++ R) (bytes_one hz) 0 8 rfl rfl
      rw [litN_one] at this
      exact this
    have e1 : ((z.toNat : Nat) : Int) = z := Int.toNat_of_nonneg hz.1
    have hlen : (bitsL (z :: t ++ R)).length = 8 * (t.length + R.length) + 8 := by rw [bitsL_len]; simp; omega
    have hd : (bitsL (z :: t ++ R)).drop 8 = bitsL (t ++ R) := by
      have := bitsL_drop 1 (z :: t ++ R)
      exact this
    simp only [List.length_cons] at hlim hl
    by_cases he : s.out.length = lim
    · have hit : item lim s (bitsL (z :: t ++ R)) = .bad 9 s.out := by
        rw [item_st h2, itStored, if_neg (by rw [hlen]; omega), if_pos he]
      rw [he, Nat.sub_self, List.take_zero, List.append_nil]
      exact .bad (by omega) hit
    · have hit : item lim s (bitsL (z :: t ++ R)) = .ok { s with out := s.out ++ [z], left := s.left - 1 } 8 := by
        rw [item_st h2, itStored, if_neg (by rw [hlen]; omega), if_neg he, if_neg (by omega), e0, e1]
      have ih := runs_long lim R t { s with out := s.out ++ [z], left := s.left - 1 } h2 (by simp only; omega) (bytes_tail hb) (by simp only [List.length_append, List.length_cons, List.length_nil]; omega) (by simp only [List.length_append, List.length_cons, List.length_nil]; omega)
      refine .ok (by omega) hit ?_
      rw [hd]
      simp only [List.length_append, List.length_cons, List.length_nil] at ih
      rw [show lim - s.out.length = (lim - (s.out.length + (0 + 1))) + 1 by omega, List.take_succ_cons]
      rw [List.append_assoc] at ih
      exact ih
/-- A stored block's bytes. -/
def blkB (last : Bool) (t : List Int) : List Int := [if last then 1 else 0, (t.length : Int) % 256, (t.length : Int) / 256, 255 - (t.length : Int) % 256, 255 - (t.length : Int) / 256] ++ t
theorem lowL_one : lowL 1 8 = [1, 0, 0, 0, 0, 0, 0, 0] := by decide
theorem lowL_zero : lowL 0 8 = [0, 0, 0, 0, 0, 0, 0, 0] := by decide
theorem run_head (lim : Nat) (last : Bool) (X : List Int) (s : St) (h0 : s.now = 0) : item lim s (bitsL ((if last then 1 else 0) :: X)) = .ok { s with last := last, now := 1 } 8 := by
  have hlen : (bitsL ((if last then 1 else 0) :: X)).length = 8 * X.length + 8 := by rw [bitsL_len]; simp; omega
  have e1 : bV (bitsL ((if last then 1 else 0) :: X)) 1 2 = 0 := by
    cases last <;> simp [bV, bitsL_cons, lowL_one, lowL_zero, binN]
  have e2 : decide (bV (bitsL ((if last then 1 else 0) :: X)) 0 1 = 1) = last := by
    cases last <;> simp [bV, bitsL_cons, lowL_one, lowL_zero, binN]
  have : item lim s (bitsL ((if last then 1 else 0) :: X)) = itHead s (bitsL ((if last then 1 else 0) :: X)) := by unfold item; rw [h0]; rfl
  rw [this, itHead, if_neg (by omega), if_pos e1, e2, hlen, show 3 + (8 * X.length + 8 - 3) % 8 = 8 by omega]
theorem run_size (lim : Nat) (t X : List Int) (ht : t.length ≤ 300) (s : St) (h1 : s.now = 1) : item lim s (bitsL ([(t.length : Int) % 256, (t.length : Int) / 256, 255 - (t.length : Int) % 256, 255 - (t.length : Int) / 256] ++ X)) = if t.length = 0 then endB { s with left := 0 } (bitsL ([(t.length : Int) % 256, (t.length : Int) / 256, 255 - (t.length : Int) % 256, 255 - (t.length : Int) / 256] ++ X)) 32 else .ok { s with left := t.length, now := 2 } 32 := by
  have b1 : Bytes [(t.length : Int) % 256, (t.length : Int) / 256] := by
    intro y hy; simp at hy; omega
  have b2 : Bytes [255 - (t.length : Int) % 256, 255 - (t.length : Int) / 256] := by
    intro y hy; simp at hy; omega
  have e1 := bV_lit [] [(t.length : Int) % 256, (t.length : Int) / 256] ([255 - (t.length : Int) % 256, 255 - (t.length : Int) / 256] ++ X) b1 0 16 rfl rfl
  have e2 := bV_lit [(t.length : Int) % 256, (t.length : Int) / 256] [255 - (t.length : Int) % 256, 255 - (t.length : Int) / 256] X b2 16 16 rfl rfl
  rw [litN_two] at e1 e2
  simp only [List.nil_append, List.cons_append] at e1 e2 ⊢
  have hlen : (bitsL ((t.length : Int) % 256 :: (t.length : Int) / 256 :: (255 - (t.length : Int) % 256) :: (255 - (t.length : Int) / 256) :: X)).length = 8 * X.length + 32 := by rw [bitsL_len]; simp; omega
  have hi : ∀ l, item lim s l = itSize s l := by intro l; unfold item; rw [h1]; rfl
  rw [show ((t.length : Int) % 256 + 256 * ((t.length : Int) / 256)).toNat = t.length by omega] at e1
  rw [show (255 - (t.length : Int) % 256 + 256 * (255 - (t.length : Int) / 256)).toNat = 65535 - t.length by omega] at e2
  rw [hi, itSize, if_neg (by omega), e1, e2, if_neg (by simp)]
theorem run_block (lim : Nat) (last : Bool) (t R : List Int) (s : St) (h0 : s.now = 0) (hb : Bytes t) (ht : t.length ≤ 300) (hlim : s.out.length + t.length ≤ lim) :
    ∃ s1, s1.now = (if last then 11 else 0) ∧ s1.out = s.out ++ t ∧ ∀ r, Runs lim s1 (bitsL R) r → Runs lim s (bitsL (blkB last t ++ R)) r := by
  have hh := run_head lim last ([(t.length : Int) % 256, (t.length : Int) / 256, 255 - (t.length : Int) % 256, 255 - (t.length : Int) / 256] ++ (t ++ R)) s h0
  have hs := run_size lim t (t ++ R) ht { s with last := last, now := 1 } rfl
  have eB : blkB last t ++ R = (if last then 1 else 0) :: ([(t.length : Int) % 256, (t.length : Int) / 256, 255 - (t.length : Int) % 256, 255 - (t.length : Int) / 256] ++ (t ++ R)) := by simp [blkB]
  have d1 : (bitsL ((if last then 1 else 0) :: ([(t.length : Int) % 256, (t.length : Int) / 256, 255 - (t.length : Int) % 256, 255 - (t.length : Int) / 256] ++ (t ++ R)))).drop 8 = bitsL ([(t.length : Int) % 256, (t.length : Int) / 256, 255 - (t.length : Int) % 256, 255 - (t.length : Int) / 256] ++ (t ++ R)) := bitsL_drop 1 _
  have d2 : (bitsL ([(t.length : Int) % 256, (t.length : Int) / 256, 255 - (t.length : Int) % 256, 255 - (t.length : Int) / 256] ++ (t ++ R))).drop 32 = bitsL (t ++ R) := bitsL_drop 4 _
  have l2 : (bitsL ([(t.length : Int) % 256, (t.length : Int) / 256, 255 - (t.length : Int) % 256, 255 - (t.length : Int) / 256] ++ (t ++ R))).length = 8 * (t ++ R).length + 32 := by rw [bitsL_len, List.length_append]; simp; omega
  rw [eB]
  by_cases hz : t.length = 0
  · rw [if_pos hz] at hs
    obtain rfl := List.length_eq_zero_iff.1 hz
    unfold endB at hs
    simp only at hs
    cases last with
    | true =>
      rw [if_pos rfl, l2, show 32 + (8 * (([] : List Int) ++ R).length + 32 - 32) % 8 = 32 by omega] at hs
      refine ⟨{ s with last := true, left := 0, la := none, da := none, now := 11 }, ?_, ?_, fun r hr => .ok (by omega) hh ?_⟩
      rotate_left 2
      · rw [d1]
        refine .ok (by simp) hs ?_
        rw [d2]
        exact hr
      · rfl
      · simp
    | false =>
      rw [if_neg (by decide)] at hs
      refine ⟨{ s with last := false, left := 0, la := none, da := none, now := 0 }, ?_, ?_, fun r hr => .ok (by omega) hh ?_⟩
      rotate_left 2
      · rw [d1]
        refine .ok (by simp) hs ?_
        rw [d2]
        exact hr
      · rfl
      · simp
  · rw [if_neg hz] at hs
    obtain ⟨s1, f1, f2, f3⟩ := runs_stored lim R t { s with last := last, left := t.length, now := 2 } rfl rfl (by intro e; subst e; exact hz rfl) hb hlim
    refine ⟨s1, f1, f2, fun r hr => .ok (by omega) hh ?_⟩
    rw [d1]
    refine .ok (by simp) hs ?_
    rw [d2]
    exact f3 r hr
theorem run_full (lim : Nat) (last : Bool) (t R : List Int) (s : St) (h0 : s.now = 0) (hb : Bytes t) (ht : t.length ≤ 300) (h1 : s.out.length ≤ lim) (hlim : lim < s.out.length + t.length) :
    Runs lim s (bitsL (blkB last t ++ R)) (.fail 9 (s.out ++ t.take (lim - s.out.length))) := by
  have hh := run_head lim last ([(t.length : Int) % 256, (t.length : Int) / 256, 255 - (t.length : Int) % 256, 255 - (t.length : Int) / 256] ++ (t ++ R)) s h0
  have hs := run_size lim t (t ++ R) ht { s with last := last, now := 1 } rfl
  have eB : blkB last t ++ R = (if last then 1 else 0) :: ([(t.length : Int) % 256, (t.length : Int) / 256, 255 - (t.length : Int) % 256, 255 - (t.length : Int) / 256] ++ (t ++ R)) := by simp [blkB]
  have d1 : (bitsL ((if last then 1 else 0) :: ([(t.length : Int) % 256, (t.length : Int) / 256, 255 - (t.length : Int) % 256, 255 - (t.length : Int) / 256] ++ (t ++ R)))).drop 8 = bitsL ([(t.length : Int) % 256, (t.length : Int) / 256, 255 - (t.length : Int) % 256, 255 - (t.length : Int) / 256] ++ (t ++ R)) := bitsL_drop 1 _
  have d2 : (bitsL ([(t.length : Int) % 256, (t.length : Int) / 256, 255 - (t.length : Int) % 256, 255 - (t.length : Int) / 256] ++ (t ++ R))).drop 32 = bitsL (t ++ R) := bitsL_drop 4 _
  rw [eB]
  rw [if_neg (by omega)] at hs
  have f3 := runs_long lim R t { s with last := last, left := t.length, now := 2 } rfl rfl hb h1 hlim
  refine .ok (by omega) hh ?_
  rw [d1]
  refine .ok (by simp) hs ?_
  rw [d2]
  exact f3
/-- Texts, one block each; the last block is marked. -/
def blksB : List (List Int) → List Int
  | [] => []
  | [t] => blkB true t
  | t :: u :: r => blkB false t ++ blksB (u :: r)
theorem runs_blks (lim : Nat) : ∀ (ts : List (List Int)) (s : St), s.now = 0 → (∀ t ∈ ts, Bytes t ∧ t.length ≤ 300) → s.out.length + ts.flatten.length ≤ lim →
    ∃ s1 : St, (s1.now = 11 ↔ ts ≠ []) ∧ s1.out = s.out ++ ts.flatten ∧ Runs lim s (bitsL (blksB ts)) (.stop s1 [])
  | [], s, h0, _, _ => ⟨s, by simp [h0], by simp, .short (by omega) (by unfold item; rw [h0]; rfl)⟩
  | [t], s, h0, ht, hl => by
    obtain ⟨hb, h3⟩ := ht t (by simp)
    obtain ⟨s1, f1, f2, f3⟩ := run_block lim true t [] s h0 hb h3 (by simpa using hl)
    refine ⟨s1, by simpa using f1, by simpa using f2, ?_⟩
    have := f3 (.stop s1 []) (.fin (by simpa using f1))
    rw [List.append_nil] at this
    exact this
  | t :: u :: r, s, h0, ht, hl => by
    obtain ⟨hb, h3⟩ := ht t (by simp)
    have hl' : s.out.length + (t.length + (u :: r).flatten.length) ≤ lim := by rw [List.flatten_cons, List.length_append] at hl; exact hl
    obtain ⟨s1, f1, f2, f3⟩ := run_block lim false t (blksB (u :: r)) s h0 hb h3 (by omega)
    obtain ⟨s2, g1, g2, g3⟩ := runs_blks lim (u :: r) s1 (by simpa using f1) (fun x hx => ht x (by simp [hx])) (by rw [f2, List.length_append]; omega)
    refine ⟨s2, by rw [g1]; simp, by rw [g2, f2]; simp, f3 _ g3⟩
theorem runs_less (lim : Nat) : ∀ (ts : List (List Int)) (s : St), s.now = 0 → (∀ t ∈ ts, Bytes t ∧ t.length ≤ 300) → s.out.length ≤ lim → lim < s.out.length + ts.flatten.length →
    Runs lim s (bitsL (blksB ts)) (.fail 9 ((s.out ++ ts.flatten).take lim))
  | [], s, h0, _, h1, h2 => by simp at h2; omega
  | [t], s, h0, ht, h1, h2 => by
    obtain ⟨hb, h3⟩ := ht t (by simp)
    have := run_full lim true t [] s h0 hb h3 h1 (by simpa using h2)
    rw [List.append_nil] at this
    rw [List.take_append, List.take_of_length_le h1, List.flatten_cons, List.flatten_nil, List.append_nil]
    exact this
  | t :: u :: r, s, h0, ht, h1, h2 => by
    obtain ⟨hb, h3⟩ := ht t (by simp)
    have h2' : lim < s.out.length + (t.length + (u :: r).flatten.length) := by rw [List.flatten_cons, List.length_append] at h2; exact h2
    by_cases hx : s.out.length + t.length ≤ lim
    · obtain ⟨s1, f1, f2, f3⟩ := run_block lim false t (blksB (u :: r)) s h0 hb h3 hx
      have g3 := runs_less lim (u :: r) s1 (by simpa using f1) (fun x hx => ht x (by simp [hx])) (by rw [f2, List.length_append]; exact hx) (by rw [f2, List.length_append]; omega)
      rw [f2, List.append_assoc, ← List.flatten_cons] at g3
      exact f3 _ g3
    · have g := run_full lim false t (blksB (u :: r)) s h0 hb h3 h1 (by omega)
      rw [List.flatten_cons, List.take_append, List.take_of_length_le h1, List.take_append, show lim - s.out.length - t.length = 0 by omega, List.take_zero, List.append_nil]
      exact g
end Go.Proofs.YtomoolipegmlcaaDoor
/- Parts that came in: a slice of slices of bytes. -/
namespace Go.Proofs.YtomoolipegmlcaaDoor
open Go.RowKit Go.ChangeShapes Go.WideShapes

structure Pt where
  a : Option Addr
  c : Nat
  z : List Int
def PtOk (W : World) (q : Pt) : Prop := Bytes q.z ∧ q.z.length ≤ q.c ∧ (q.z.length ≤ 140737488351232 ∧ q.c ≤ 9223372036854775807) ∧ (q.a = none → q.c = 0) ∧ Row W q.a q.z
def PtArg (W : World) (a : Option Addr) (len cap : Nat) (F : Nat → Pt) : Prop :=
  len ≤ cap ∧ cap ≤ maxLen ∧ (0 < len → ∃ b off, a = some ⟨b, off, none⟩ ∧ ∀ i, i < len → W.cell? ⟨b, off + i, none⟩ = some (.slice (F i).a (F i).z.length (F i).c) ∧ PtOk W (F i))
theorem weightsAll_mem {H : Type} {P : Program} {e : TypeId} : ∀ {l : List (DataW H)} {d : DataW H}, d ∈ l → ∀ n ∈ d.weights P e, n ∈ DataW.weightsAll P e l
  | x :: r, d, hd, n, hn => by
    simp only [DataW.weightsAll, List.mem_append]
    rcases List.mem_cons.1 hd with h | h
    · subst h; exact .inl hn
    · exact .inr (weightsAll_mem h n hn)
theorem Tryd.cells22 : Tryd.prog.cellsOf 22 = 1 := by kernel_rfl

theorem open_parts {H : Type} {enc : TypeId × Value → H} {W : World} {a : Option Addr} {len cap j : Nat} {d : DataW H} {p : List MemPlace} {ts : List TypeId} {ds : List (DataW H)}
    (h0 : DataW.Trod enc Tryd.prog W 0 (fun _ => true) true 43 (.slice a len cap) d p) (hsz : (DataW.weightsEach Tryd.prog ts ds).all (· ≤ reachBytes) = true) (ht : ts[j]? = some 43) (hd : ds[j]? = some d) : ∃ F, PtArg W a len cap F := by
  obtain ⟨fuel, hf⟩ := h0
  rcases Deep.open_slice1 Tryd.underlying43 Tryd.cells22 hf with ⟨hcs, _⟩ | ⟨x, l, c, m, n, V, D, Pl, hcs, _, hl, hm, hmm, hdx, hx⟩
  · simp [Value.cells] at hcs
    obtain ⟨rfl, rfl, rfl⟩ := hcs
    exact ⟨fun _ => ⟨none, 0, []⟩, Nat.le_refl _, by unfold maxLen; omega, fun h => absurd h (by omega)⟩
  · simp [Value.cells] at hcs
    obtain ⟨rfl, rfl, rfl⟩ := hcs
    have hml : len ≤ m := by rw [hmm]; simp; exact hl
    simp only [Prod.mk.injEq] at hdx
    obtain ⟨hd', _⟩ := hdx
    have hw : ∀ i, i < len → ∀ n ∈ (D i).weights Tryd.prog 22, n ≤ reachBytes := by
      intro i hi n hn
      have h1 : D i ∈ (List.range len).map D := List.mem_map.2 ⟨i, List.mem_range.2 hi, rfl⟩
      have h2 : n ∈ d.weights Tryd.prog 43 := by
        rw [hd']
        simp only [DataW.weights, Tryd.underlying43, List.mem_cons, List.mem_append]
        exact .inr (.inl (weightsAll_mem h1 n hn))
      have h3 := List.all_eq_true.1 hsz _ (DataW.weights_mem_each ht hd n h2)
      simpa using h3
    have each : ∀ i, i < len → ∃ q : Pt, W.cell? (x.add i) = some (.slice q.a q.z.length q.c) ∧ PtOk W q := by
      intro i hi
      obtain ⟨h1, h2⟩ := hx i (by omega)
      have hwi := hw i hi
      rcases open_ints Tryd.underlying22 Tryd.underlying5 Tryd.cells5 h2 with ⟨hcs, _⟩ | ⟨x', l', c', zs, hcs, _, hl', hm', hz, hx', hcl, hwz⟩
      · simp at hcs
        exact ⟨⟨none, 0, []⟩, by rw [h1, hcs]; rfl, Bytes.nil, Nat.le_refl _, by show 0 ≤ _ ∧ 0 ≤ _; omega, fun _ => rfl, .inl rfl⟩
      · simp at hcs
        simp only [if_true] at hz
        have hlt : (zs.take l').length = l' := by rw [List.length_take]; omega
        have hr : zs.length ≤ 140737488351232 := by
          simp only [Prod.mk.injEq] at hx'
          have hwt := hwi (((lits IntKind.u8 (zs.take l') : List (DataW H)).length + (lits IntKind.u8 (zs.drop l') : List (DataW H)).length) * Tryd.prog.bytesOf 5) (by
            rw [hx'.1]
            simp [DataW.weights, Tryd.underlying22])
          rw [Tryd.bytes5] at hwt
          simp only [lits, List.length_map, List.length_take, List.length_drop, reachBytes] at hwt
          omega
        exact ⟨⟨some x', c', zs.take l'⟩, by show _ = some (Value.slice (some x') (zs.take l').length c'); rw [hlt, h1, hcs], (bytes_of_wf hwz).take _, by show (zs.take l').length ≤ c'; rw [hlt]; exact hl', by show (zs.take l').length ≤ _ ∧ c' ≤ _; rw [hlt]; omega, (by intro h; cases h), row_of_arg (by omega) hcl⟩
    have hne : Inhabited Pt := ⟨⟨none, 0, []⟩⟩
    obtain ⟨F, hF⟩ := Deep.choose_lt each
    refine ⟨F, hl, hm, fun hpos => ?_⟩
    obtain ⟨b, off, spot⟩ := x
    have hc := (hF 0 hpos).1
    have hspot : spot = none := by simpa [Addr.add] using World.cell?_spot hc
    subst hspot
    refine ⟨b, off, rfl, fun i hi => ?_⟩
    have := hF i hi
    refine ⟨?_, this.2⟩
    simpa [Addr.add_lit, Nat.add_assoc] using this.1
/-- All the bytes of the first k parts. -/
def catF (F : Nat → Pt) : Nat → List Int
  | 0 => []
  | k + 1 => catF F k ++ (F k).z

end Go.Proofs.YtomoolipegmlcaaDoor
/- Stored texts, one block each: the bytes that the law builds. -/
namespace Go.Proofs.YtomoolipegmlcaaDoor
open Go.RowKit
/-- The blocks of the first t of len texts. -/
def accB (F : Nat → Pt) (len : Nat) : Nat → List Int
  | 0 => []
  | t + 1 => accB F len t ++ blkB (decide (t + 1 = len)) (F t).z
def tsF (F : Nat → Pt) (t n : Nat) : List (List Int) := (List.range' t n).map fun i => (F i).z
theorem tsF_succ (F : Nat → Pt) (t n : Nat) : tsF F t (n + 1) = (F t).z :: tsF F (t + 1) n := by
  unfold tsF
  rw [List.range'_succ, List.map_cons]
theorem accB_rest (F : Nat → Pt) (len : Nat) : ∀ n t, t + n = len → accB F len t ++ blksB (tsF F t n) = accB F len len
  | 0, t, h => by
    rw [show t = len by omega]
    simp [tsF, blksB]
  | n + 1, t, h => by
    rw [tsF_succ, ← accB_rest F len n (t + 1) (by omega), accB]
    cases n with
    | zero =>
      have e : tsF F (t + 1) 0 = [] := rfl
      rw [e, blksB, blksB, show decide (t + 1 = len) = true by simp; omega, List.append_nil]
    | succ n =>
      rw [tsF_succ, blksB, show decide (t + 1 = len) = false by simp; omega, List.append_assoc]
theorem accB_all (F : Nat → Pt) (len : Nat) : accB F len len = blksB (tsF F 0 len) := by
  have := accB_rest F len len 0 (by omega)
  simpa [accB] using this.symm
theorem catF_rest (F : Nat → Pt) (len : Nat) : ∀ n t, t + n = len → catF F t ++ (tsF F t n).flatten = catF F len
  | 0, t, h => by
    rw [show t = len by omega]
    simp [tsF]
  | n + 1, t, h => by
    rw [tsF_succ, ← catF_rest F len n (t + 1) (by omega), catF, List.flatten_cons, List.append_assoc]
theorem catF_all (F : Nat → Pt) (len : Nat) : catF F len = (tsF F 0 len).flatten := by
  have := catF_rest F len len 0 (by omega)
  simpa [catF] using this.symm
theorem tsF_mem {F : Nat → Pt} {len : Nat} {t : List Int} (h : t ∈ tsF F 0 len) : ∃ i, i < len ∧ t = (F i).z := by
  unfold tsF at h
  obtain ⟨i, hi, rfl⟩ := List.mem_map.1 h
  rw [List.mem_range'_1] at hi
  exact ⟨i, by omega, rfl⟩
theorem accB_len (F : Nat → Pt) (len : Nat) : ∀ t, (∀ i, i < t → (F i).z.length ≤ 300) → (accB F len t).length ≤ 305 * t
  | 0, _ => by simp [accB]
  | t + 1, h => by
    have := accB_len F len t (fun i hi => h i (by omega))
    have := h t (by omega)
    rw [accB, List.length_append]
    simp only [blkB, List.length_append, List.length_cons, List.length_nil]
    omega
theorem catF_len (F : Nat → Pt) : ∀ t, (∀ i, i < t → (F i).z.length ≤ 300) → (catF F t).length ≤ 300 * t
  | 0, _ => by simp [catF]
  | t + 1, h => by
    have := catF_len F t (fun i hi => h i (by omega))
    have := h t (by omega)
    rw [catF, List.length_append]
    omega
theorem accB_byt (F : Nat → Pt) (len : Nat) : ∀ t, (∀ i, i < t → (F i).z.length ≤ 300 ∧ Bytes (F i).z) → Bytes (accB F len t)
  | 0, _ => fun z hz => by simp [accB] at hz
  | t + 1, h => by
    have h1 := accB_byt F len t (fun i hi => h i (by omega))
    obtain ⟨h2, h3⟩ := h t (by omega)
    intro z hz
    rw [accB, List.mem_append] at hz
    rcases hz with hz | hz
    · exact h1 z hz
    · unfold blkB at hz
      rw [List.mem_append] at hz
      rcases hz with hz | hz
      · simp only [List.mem_cons, List.not_mem_nil, or_false] at hz
        rcases hz with rfl | rfl | rfl | rfl | rfl
        · split <;> omega
        · omega
        · omega
        · omega
        · omega
      · exact h3 z hz
/-- What all the blocks tell, with room enough and with less. -/
theorem stored_all (F : Nat → Pt) (len : Nat) (h : ∀ i, i < len → (F i).z.length ≤ 300 ∧ Bytes (F i).z) (r : Og) (hr : Runs (catF F len).length St.start (bitsL (accB F len len)) r) : r.out = catF F len ∧ r.err = 0 ∧ (r.ended = decide (0 < len)) := by
  rw [accB_all] at hr
  obtain ⟨s1, h1, h2, h3⟩ := runs_blks (catF F len).length (tsF F 0 len) St.start rfl (fun t ht => by obtain ⟨i, hi, rfl⟩ := tsF_mem ht; exact ⟨(h i hi).2, (h i hi).1⟩) (by rw [← catF_all]; simp [St.start])
  have e := hr.det h3
  subst e
  refine ⟨?_, rfl, ?_⟩
  · show s1.out = _
    rw [h2, catF_all]
    rfl
  · show (s1.now == 11) = _
    have h4 : tsF F 0 len ≠ [] ↔ 0 < len := by
      cases len with
      | zero => simp [tsF]
      | succ n => rw [tsF_succ]; simp
    by_cases h0 : 0 < len
    · have := h1.2 (h4.2 h0)
      simp [this, h0]
    · have : ¬ s1.now = 11 := fun e => h0 (h4.1 (h1.1 e))
      simp [this, h0]
theorem stored_less (F : Nat → Pt) (len : Nat) (lim : Nat) (h : ∀ i, i < len → (F i).z.length ≤ 300 ∧ Bytes (F i).z) (hl : lim < (catF F len).length) (r : Og) (hr : Runs lim St.start (bitsL (accB F len len)) r) : r.out = (catF F len).take lim ∧ r.err = 9 := by
  rw [accB_all] at hr
  have h3 := runs_less lim (tsF F 0 len) St.start rfl (fun t ht => by obtain ⟨i, hi, rfl⟩ := tsF_mem ht; exact ⟨(h i hi).2, (h i hi).1⟩) (by simp [St.start]) (by rw [← catF_all]; simpa [St.start] using hl)
  have e := hr.det h3
  subst e
  refine ⟨?_, rfl⟩
  show (([] : List Int) ++ (tsF F 0 len).flatten).take lim = _
  rw [List.nil_append, catF_all]
end Go.Proofs.YtomoolipegmlcaaDoor
