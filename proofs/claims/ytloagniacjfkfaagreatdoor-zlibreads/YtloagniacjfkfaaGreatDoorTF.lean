/- Joined: Jg Rg6 Rh6 Ri6 Rj6 Rka. -/
import Derived.Test.YtloagniacjfkfaaGreatDoorQM
import Derived.Test.YtloagniacjfkfaaGreatDoorTD
import Derived.Test.YtloagniacjfkfaaGreatDoorTE
/- Stored blocks, by the machine. -/
namespace Go.Proofs.YtloagniacjfkfaaGreatDoor
open Go.RowKit
theorem bV_lit (A B R : List Int) (hB : Bytes B) (k n : Nat) (hk : k = 8 * A.length) (hn : n = 8 * B.length) : bV (bitsL (A ++ (B ++ R))) k n = (litN B).toNat := by
  unfold bV
  rw [hk, bitsL_drop, List.drop_left, bitsL_append, hn, ← bitsL_len B, List.take_left, binN_bitsL hB]
theorem litN_one (z : Int) : litN [z] = z := by simp [litN]
theorem litN_two (x y : Int) : litN [x, y] = x + 256 * y := by simp [litN]
def stk (now : Nat) (s : St) (out : List Int) (left : Nat) : St := { s with now := now, out := out, left := left, la := none, da := none }
theorem item_st {lim : Nat} {s : St} (h : s.now = 2) (l : List Int) : item lim s l = itStored lim s l := by unfold item; rw [h]; rfl
theorem bytes_head {z : Int} {t : List Int} (h : Bytes (z :: t)) : 0 ≤ z ∧ z < 256 := h z (by simp)
theorem bytes_tail {z : Int} {t : List Int} (h : Bytes (z :: t)) : Bytes t := fun y hy => h y (by simp [hy])
theorem bytes_one {z : Int} (h : 0 ≤ z ∧ z < 256) : Bytes [z] := fun y hy => by simp at hy; subst hy; exact h
theorem runs_stored (lim : Nat) (R : List Int) : ∀ (t : List Int) (s : St), s.now = 2 → s.left = t.length → t ≠ [] → Bytes t → s.out.length + t.length ≤ lim →
    ∃ s1, s1.now = (if s.last then 11 else 0) ∧ s1.out = s.out ++ t ∧ ∀ r, Runs lim s1 (bitsL R) r → Runs lim s (bitsL (t ++ R)) r
  | [], _, _, _, h, _, _ => absurd rfl h
  | z :: t, s, h2, hl, _, hb, hlim => by
    have hz := bytes_head hb
    have e0 : bV (bitsL (z :: t ++ R)) 0 8 = z.toNat := by
      have := bV_lit [] [z] (t ++ R) (bytes_one hz) 0 8 rfl rfl
      rw [litN_one] at this
      exact this
    have e1 : ((z.toNat : Nat) : Int) = z := Int.toNat_of_nonneg hz.1
    have hlen : (bitsL (z :: t ++ R)).length = 8 * (t.length + R.length) + 8 := by rw [bitsL_len]; simp; omega
    have hd : (bitsL (z :: t ++ R)).drop 8 = bitsL (t ++ R) := by
      have := bitsL_drop 1 (z :: t ++ R)
      exact this
    simp only [List.length_cons] at hlim hl
    cases t with
    | nil =>
      have hit : item lim s (bitsL ([z] ++ R)) = endB { s with out := s.out ++ [z], left := 0 } (bitsL ([z] ++ R)) 8 := by
        rw [item_st h2, itStored, if_neg (by rw [hlen]; omega), if_neg (by omega), if_pos (by simpa using hl), e0, e1]
      unfold endB at hit
      simp only at hit
      by_cases hla : s.last = true
      · rw [if_pos hla, hlen, show 8 + (8 * (([] : List Int).length + R.length) + 8 - 8) % 8 = 8 by omega] at hit
        refine ⟨{ s with out := s.out ++ [z], left := 0, la := none, da := none, now := 11 }, ?_, ?_, fun r hr => .ok (by omega) hit ?_⟩
        · rw [if_pos hla]
        · rfl
        · rw [hd]; exact hr
      · rw [if_neg hla] at hit
        refine ⟨{ s with out := s.out ++ [z], left := 0, la := none, da := none, now := 0 }, ?_, ?_, fun r hr => .ok (by omega) hit ?_⟩
        · rw [if_neg hla]
        · rfl
        · rw [hd]; exact hr
    | cons y t' =>
      have hit : item lim s (bitsL (z :: y :: t' ++ R)) = .ok { s with out := s.out ++ [z], left := s.left - 1 } 8 := by
        rw [item_st h2, itStored, if_neg (by rw [hlen]; omega), if_neg (by omega), if_neg (by simp at hl; omega), e0, e1]
      obtain ⟨s1, f1, f2, f3⟩ := runs_stored lim R (y :: t') { s with out := s.out ++ [z], left := s.left - 1 } h2 (by simp only [List.length_cons] at hl ⊢; omega) (by simp) (bytes_tail hb) (by simp only [List.length_append, List.length_cons, List.length_nil] at hlim ⊢; omega)
      refine ⟨s1, f1, ?_, fun r hr => .ok (by omega) hit ?_⟩
      · rw [f2]; simp
      · rw [hd]; exact f3 r hr
theorem runs_long (lim : Nat) (R : List Int) : ∀ (t : List Int) (s : St), s.now = 2 → s.left = t.length → Bytes t → s.out.length ≤ lim → lim < s.out.length + t.length →
    Runs lim s (bitsL (t ++ R)) (.fail 9 (s.out ++ t.take (lim - s.out.length)))
  | [], _, _, _, _, h1, h2 => by simp at h2; omega
  | z :: t, s, h2, hl, hb, h1, hlim => by
    have hz := bytes_head hb
    have e0 : bV (bitsL (z :: t ++ R)) 0 8 = z.toNat := by
      have := bV_lit [] [z] (t ++ R) (bytes_one hz) 0 8 rfl rfl
      rw [litN_one] at this
      exact this
    have e1 : ((z.toNat : Nat) : Int) = z := Int.toNat_of_nonneg hz.1
    have hlen : (bitsL (z :: t ++ R)).length = 8 * (t.length + R.length) + 8 := by rw [bitsL_len]; simp; omega
    have hd : (bitsL (z :: t ++ R)).drop 8 = bitsL (t ++ R) := by
      have := bitsL_drop 1 (z :: t ++ R)
      exact this
    simp only [List.length_cons] at hlim hl
    by_cases he : s.out.length = lim
    · have hit : item lim s (bitsL (z :: t ++ R)) = .bad 9 s.out := by
        rw [item_st h2, itStored, if_neg (by rw [hlen]; omega), if_pos he]
      rw [he, Nat.sub_self, List.take_zero, List.append_nil]
      exact .bad (by omega) hit
    · have hit : item lim s (bitsL (z :: t ++ R)) = .ok { s with out := s.out ++ [z], left := s.left - 1 } 8 := by
        rw [item_st h2, itStored, if_neg (by rw [hlen]; omega), if_neg he, if_neg (by omega), e0, e1]
      have ih := runs_long lim R t { s with out := s.out ++ [z], left := s.left - 1 } h2 (by simp only; omega) (bytes_tail hb) (by simp only [List.length_append, List.length_cons, List.length_nil]; omega) (by simp only [List.length_append, List.length_cons, List.length_nil]; omega)
      refine .ok (by omega) hit ?_
      rw [hd]
      simp only [List.length_append, List.length_cons, List.length_nil] at ih
      rw [show lim - s.out.length = (lim - (s.out.length + (0 + 1))) + 1 by omega, List.take_succ_cons]
      rw [List.append_assoc] at ih
      exact ih
/-- A stored block's bytes. -/
def blkB (last : Bool) (t : List Int) : List Int := [if last then 1 else 0, (t.length : Int) % 256, (t.length : Int) / 256, 255 - (t.length : Int) % 256, 255 - (t.length : Int) / 256] ++ t
theorem lowL_one : lowL 1 8 = [1, 0, 0, 0, 0, 0, 0, 0] := by decide
theorem lowL_zero : lowL 0 8 = [0, 0, 0, 0, 0, 0, 0, 0] := by decide
theorem run_head (lim : Nat) (last : Bool) (X : List Int) (s : St) (h0 : s.now = 0) : item lim s (bitsL ((if last then 1 else 0) :: X)) = .ok { s with last := last, now := 1 } 8 := by
  have hlen : (bitsL ((if last then 1 else 0) :: X)).length = 8 * X.length + 8 := by rw [bitsL_len]; simp; omega
  have e1 : bV (bitsL ((if last then 1 else 0) :: X)) 1 2 = 0 := by
    cases last <;> simp [bV, bitsL_cons, lowL_one, lowL_zero, binN]
  have e2 : decide (bV (bitsL ((if last then 1 else 0) :: X)) 0 1 = 1) = last := by
    cases last <;> simp [bV, bitsL_cons, lowL_one, lowL_zero, binN]
  have : item lim s (bitsL ((if last then 1 else 0) :: X)) = itHead s (bitsL ((if last then 1 else 0) :: X)) := by unfold item; rw [h0]; rfl
  rw [this, itHead, if_neg (by omega), if_pos e1, e2, hlen, show 3 + (8 * X.length + 8 - 3) % 8 = 8 by omega]
theorem run_size (lim : Nat) (t X : List Int) (ht : t.length ≤ 300) (s : St) (h1 : s.now = 1) : item lim s (bitsL ([(t.length : Int) % 256, (t.length : Int) / 256, 255 - (t.length : Int) % 256, 255 - (t.length : Int) / 256] ++ X)) = if t.length = 0 then endB { s with left := 0 } (bitsL ([(t.length : Int) % 256, (t.length : Int) / 256, 255 - (t.length : Int) % 256, 255 - (t.length : Int) / 256] ++ X)) 32 else .ok { s with left := t.length, now := 2 } 32 := by
  have b1 : Bytes [(t.length : Int) % 256, (t.length : Int) / 256] := by
    intro y hy; simp at hy; omega
  have b2 : Bytes [255 - (t.length : Int) % 256, 255 - (t.length : Int) / 256] := by
    intro y hy; simp at hy; omega
  have e1 := bV_lit [] [(t.length : Int) % 256, (t.length : Int) / 256] ([255 - (t.length : Int) % 256, 255 - (t.length : Int) / 256] ++ X) b1 0 16 rfl rfl
  have e2 := bV_lit [(t.length : Int) % 256, (t.length : Int) / 256] [255 - (t.length : Int) % 256, 255 - (t.length : Int) / 256] X b2 16 16 rfl rfl
  rw [litN_two] at e1 e2
  simp only [List.nil_append, List.cons_append] at e1 e2 ⊢
  have hlen : (bitsL ((t.length : Int) % 256 :: (t.length : Int) / 256 :: (255 - (t.length : Int) % 256) :: (255 - (t.length : Int) / 256) :: X)).length = 8 * X.length + 32 := by rw [bitsL_len]; simp; omega
  have hi : ∀ l, item lim s l = itSize s l := by intro l; unfold item; rw [h1]; rfl
  rw [show ((t.length : Int) % 256 + 256 * ((t.length : Int) / 256)).toNat = t.length by omega] at e1
  rw [show (255 - (t.length : Int) % 256 + 256 * (255 - (t.length : Int) / 256)).toNat = 65535 - t.length by omega] at e2
  rw [hi, itSize, if_neg (by omega), e1, e2, if_neg (by simp)]
theorem run_block (lim : Nat) (last : Bool) (t R : List Int) (s : St) (h0 : s.now = 0) (hb : Bytes t) (ht : t.length ≤ 300) (hlim : s.out.length + t.length ≤ lim) :
    ∃ s1, s1.now = (if last then 11 else 0) ∧ s1.out = s.out ++ t ∧ ∀ r, Runs lim s1 (bitsL R) r → Runs lim s (bitsL (blkB last t ++ R)) r := by
  have hh := run_head lim last ([(t.length : Int) % 256, (t.length : Int) / 256, 255 - (t.length : Int) % 256, 255 - (t.length : Int) / 256] ++ (t ++ R)) s h0
  have hs := run_size lim t (t ++ R) ht { s with last := last, now := 1 } rfl
  have eB : blkB last t ++ R = (if last then 1 else 0) :: ([(t.length : Int) % 256, (t.length : Int) / 256, 255 - (t.length : Int) % 256, 255 - (t.length : Int) / 256] ++ (t ++ R)) := by simp [blkB]
  have d1 : (bitsL ((if last then 1 else 0) :: ([(t.length : Int) % 256, (t.length : Int) / 256, 255 - (t.length : Int) % 256, 255 - (t.length : Int) / 256] ++ (t ++ R)))).drop 8 = bitsL ([(t.length : Int) % 256, (t.length : Int) / 256, 255 - (t.length : Int) % 256, 255 - (t.length : Int) / 256] ++ (t ++ R)) := bitsL_drop 1 _
  have d2 : (bitsL ([(t.length : Int) % 256, (t.length : Int) / 256, 255 - (t.length : Int) % 256, 255 - (t.length : Int) / 256] ++ (t ++ R))).drop 32 = bitsL (t ++ R) := bitsL_drop 4 _
  have l2 : (bitsL ([(t.length : Int) % 256, (t.length : Int) / 256, 255 - (t.length : Int) % 256, 255 - (t.length : Int) / 256] ++ (t ++ R))).length = 8 * (t ++ R).length + 32 := by rw [bitsL_len, List.length_append]; simp; omega
  rw [eB]
  by_cases hz : t.length = 0
  · rw [if_pos hz] at hs
    obtain rfl := List.length_eq_zero_iff.1 hz
    unfold endB at hs
    simp only at hs
    cases last with
    | true =>
      rw [if_pos rfl, l2, show 32 + (8 * (([] : List Int) ++ R).length + 32 - 32) % 8 = 32 by omega] at hs
      refine ⟨{ s with last := true, left := 0, la := none, da := none, now := 11 }, ?_, ?_, fun r hr => .ok (by omega) hh ?_⟩
      rotate_left 2
      · rw [d1]
        refine .ok (by simp) hs ?_
        rw [d2]
        exact hr
      · rfl
      · simp
    | false =>
      rw [if_neg (by decide)] at hs
      refine ⟨{ s with last := false, left := 0, la := none, da := none, now := 0 }, ?_, ?_, fun r hr => .ok (by omega) hh ?_⟩
      rotate_left 2
      · rw [d1]
        refine .ok (by simp) hs ?_
        rw [d2]
        exact hr
      · rfl
      · simp
  · rw [if_neg hz] at hs
    obtain ⟨s1, f1, f2, f3⟩ := runs_stored lim R t { s with last := last, left := t.length, now := 2 } rfl rfl (by intro e; subst e; exact hz rfl) hb hlim
    refine ⟨s1, f1, f2, fun r hr => .ok (by omega) hh ?_⟩
    rw [d1]
    refine .ok (by simp) hs ?_
    rw [d2]
    exact f3 r hr
theorem run_full (lim : Nat) (last : Bool) (t R : List Int) (s : St) (h0 : s.now = 0) (hb : Bytes t) (ht : t.length ≤ 300) (h1 : s.out.length ≤ lim) (hlim : lim < s.out.length + t.length) :
    Runs lim s (bitsL (blkB last t ++ R)) (.fail 9 (s.out ++ t.take (lim - s.out.length))) := by
  have hh := run_head lim last ([(t.length : Int) % 256, (t.length : Int) / 256, 255 - (t.length : Int) % 256, 255 - (t.length : Int) / 256] ++ (t ++ R)) s h0
  have hs := run_size lim t (t ++ R) ht { s with last := last, now := 1 } rfl
  have eB : blkB last t ++ R = (if last then 1 else 0) :: ([(t.length : Int) % 256, (t.length : Int) / 256, 255 - (t.length : Int) % 256, 255 - (t.length : Int) / 256] ++ (t ++ R)) := by simp [blkB]
  have d1 : (bitsL ((if last then 1 else 0) :: ([(t.length : Int) % 256, (t.length : Int) / 256, 255 - (t.length : Int) % 256, 255 - (t.length : Int) / 256] ++ (t ++ R)))).drop 8 = bitsL ([(t.length : Int) % 256, (t.length : Int) / 256, 255 - (t.length : Int) % 256, 255 - (t.length : Int) / 256] ++ (t ++ R)) := bitsL_drop 1 _
  have d2 : (bitsL ([(t.length : Int) % 256, (t.length : Int) / 256, 255 - (t.length : Int) % 256, 255 - (t.length : Int) / 256] ++ (t ++ R))).drop 32 = bitsL (t ++ R) := bitsL_drop 4 _
  rw [eB]
  rw [if_neg (by omega)] at hs
  have f3 := runs_long lim R t { s with last := last, left := t.length, now := 2 } rfl rfl hb h1 hlim
  refine .ok (by omega) hh ?_
  rw [d1]
  refine .ok (by simp) hs ?_
  rw [d2]
  exact f3
/-- Texts, one block each; the last block is marked. -/
def blksB : List (List Int) → List Int
  | [] => []
  | [t] => blkB true t
  | t :: u :: r => blkB false t ++ blksB (u :: r)
theorem runs_blks (lim : Nat) : ∀ (ts : List (List Int)) (s : St), s.now = 0 → (∀ t ∈ ts, Bytes t ∧ t.length ≤ 300) → s.out.length + ts.flatten.length ≤ lim →
    ∃ s1 : St, (s1.now = 11 ↔ ts ≠ []) ∧ s1.out = s.out ++ ts.flatten ∧ Runs lim s (bitsL (blksB ts)) (.stop s1 [])
  | [], s, h0, _, _ => ⟨s, by simp [h0], by simp, .short (by omega) (by unfold item; rw [h0]; rfl)⟩
  | [t], s, h0, ht, hl => by
    obtain ⟨hb, h3⟩ := ht t (by simp)
    obtain ⟨s1, f1, f2, f3⟩ := run_block lim true t [] s h0 hb h3 (by simpa using hl)
    refine ⟨s1, by simpa using f1, by simpa using f2, ?_⟩
    have := f3 (.stop s1 []) (.fin (by simpa using f1))
    rw [List.append_nil] at this
    exact this
  | t :: u :: r, s, h0, ht, hl => by
    obtain ⟨hb, h3⟩ := ht t (by simp)
    have hl' : s.out.length + (t.length + (u :: r).flatten.length) ≤ lim := by rw [List.flatten_cons, List.length_append] at hl; exact hl
    obtain ⟨s1, f1, f2, f3⟩ := run_block lim false t (blksB (u :: r)) s h0 hb h3 (by omega)
    obtain ⟨s2, g1, g2, g3⟩ := runs_blks lim (u :: r) s1 (by simpa using f1) (fun x hx => ht x (by simp [hx])) (by rw [f2, List.length_append]; omega)
    refine ⟨s2, by rw [g1]; simp, by rw [g2, f2]; simp, f3 _ g3⟩
theorem runs_less (lim : Nat) : ∀ (ts : List (List Int)) (s : St), s.now = 0 → (∀ t ∈ ts, Bytes t ∧ t.length ≤ 300) → s.out.length ≤ lim → lim < s.out.length + ts.flatten.length →
    Runs lim s (bitsL (blksB ts)) (.fail 9 ((s.out ++ ts.flatten).take lim))
  | [], s, h0, _, h1, h2 => by simp at h2; omega
  | [t], s, h0, ht, h1, h2 => by
    obtain ⟨hb, h3⟩ := ht t (by simp)
    have := run_full lim true t [] s h0 hb h3 h1 (by simpa using h2)
    rw [List.append_nil] at this
    rw [List.take_append, List.take_of_length_le h1, List.flatten_cons, List.flatten_nil, List.append_nil]
    exact this
  | t :: u :: r, s, h0, ht, h1, h2 => by
    obtain ⟨hb, h3⟩ := ht t (by simp)
    have h2' : lim < s.out.length + (t.length + (u :: r).flatten.length) := by rw [List.flatten_cons, List.length_append] at h2; exact h2
    by_cases hx : s.out.length + t.length ≤ lim
    · obtain ⟨s1, f1, f2, f3⟩ := run_block lim false t (blksB (u :: r)) s h0 hb h3 hx
      have g3 := runs_less lim (u :: r) s1 (by simpa using f1) (fun x hx => ht x (by simp [hx])) (by rw [f2, List.length_append]; exact hx) (by rw [f2, List.length_append]; omega)
      rw [f2, List.append_assoc, ← List.flatten_cons] at g3
      exact f3 _ g3
    · have g := run_full lim false t (blksB (u :: r)) s h0 hb h3 h1 (by omega)
      rw [List.flatten_cons, List.take_append, List.take_of_length_le h1, List.take_append, show lim - s.out.length - t.length = 0 by omega, List.take_zero, List.append_nil]
      exact g
end Go.Proofs.YtloagniacjfkfaaGreatDoor
/- What the document's run says beside the machine's; a stored block. -/
namespace Go.Proofs.YtloagniacjfkfaaGreatDoor
open Go.RowKit
/-- From the machine's state s with bits l: the run stands at error E, told bytes out and bits B, a block behind. -/
def Says (lim : Nat) (s : St) (l : List Int) (last : Bool) (E : Int) (out B : List Int) : Prop :=
  (E = 0 → B.length ≤ l.length ∧ if last then ∃ s1 : St, s1.now = 11 ∧ s1.out = out ∧ Runs lim s l (.stop s1 (B.drop (B.length % 8))) else ∃ s1 : St, s1.now = 0 ∧ s1.out = out ∧ ∀ r, Runs lim s1 B r → Runs lim s l r) ∧
  (E = 2 → ∃ (s1 : St) (l1 : List Int), s1.now ≤ 10 ∧ s1.out = out ∧ Runs lim s l (.stop s1 l1)) ∧ (E ≠ 0 → E ≠ 2 → Runs lim s l (.fail E out))
def Sub (lim : Nat) (s : St) (l : List Int) (s1 : St) (l1 : List Int) : Prop := (∀ r, Runs lim s1 l1 r → Runs lim s l r) ∧ l1.length ≤ l.length
theorem Says.bad {lim : Nat} {s : St} {l out B : List Int} {last : Bool} {E : Int} (h : Runs lim s l (.fail E out)) (h0 : E ≠ 0) (h2 : E ≠ 2) : Says lim s l last E out B := ⟨fun e => absurd e h0, fun e => absurd e h2, fun _ _ => h⟩
theorem Says.short {lim : Nat} {s s1 : St} {l l1 out B : List Int} {last : Bool} (h : Runs lim s l (.stop s1 l1)) (h1 : s1.now ≤ 10) (h2 : s1.out = out) : Says lim s l last 2 out B := ⟨(fun e => by cases e), fun _ => ⟨s1, l1, h1, h2, h⟩, fun _ e => absurd rfl e⟩
/-- A block ends: an item of n bits that ends in endB. -/
theorem Says.ends {lim : Nat} {s s1 : St} {l l1 out : List Int} {n : Nat} (hs : Sub lim s l s1 l1) (h10 : s1.now ≤ 10) (t : St) (hi : item lim s1 l1 = endB t l1 n) (ht : t.out = out) : Says lim s l t.last 0 out (l1.drop n) := by
  refine ⟨fun _ => ⟨by rw [List.length_drop]; have := hs.2; omega, ?_⟩, (fun e => by cases e), fun e => absurd rfl e⟩
  unfold endB at hi
  by_cases hl : t.last = true
  · rw [if_pos hl] at hi ⊢
    refine ⟨{ t with la := none, da := none, now := 11 }, rfl, ht, hs.1 _ (.ok h10 hi ?_)⟩
    rw [List.length_drop, List.drop_drop]
    exact .fin rfl
  · rw [if_neg hl] at hi ⊢
    exact ⟨{ t with la := none, da := none, now := 0 }, rfl, ht, fun r hr => hs.1 r (.ok h10 hi hr)⟩
theorem lim_iff (limI : Int) (n : Nat) : limI ≤ (n : Int) ↔ limI.toNat ≤ n := by omega
/-- One byte of a stored block, the machine's way and the run's. -/
theorem stored_step {limI : Int} {s s1 : St} {l B out : List Int} {k i : Nat} (hs : Sub limI.toNat s l s1 B) (h2 : s1.now = 2) (hleft : s1.left = k - i) (ho : s1.out = out) (hlast : s1.last = s.last) (hol : out.length ≤ limI.toNat) :
    (B.length < 8 → Says limI.toNat s l s.last 2 out B) ∧
    (8 ≤ B.length → (tlR limI 0 out (bV B 0 8 : Int)).2 ≠ 0 → Says limI.toNat s l s.last (tlR limI 0 out (bV B 0 8 : Int)).2 (tlR limI 0 out (bV B 0 8 : Int)).1 (B.drop 8)) ∧
    (8 ≤ B.length → (tlR limI 0 out (bV B 0 8 : Int)).2 = 0 → (tlR limI 0 out (bV B 0 8 : Int)).1.length ≤ limI.toNat ∧
      (i + 1 < k → ∃ s2 : St, s2.now = 2 ∧ s2.left = k - (i + 1) ∧ s2.out = (tlR limI 0 out (bV B 0 8 : Int)).1 ∧ s2.last = s.last ∧ Sub limI.toNat s l s2 (B.drop 8)) ∧
      (i + 1 = k → Says limI.toNat s l s.last 0 (tlR limI 0 out (bV B 0 8 : Int)).1 (B.drop 8))) := by
  have hit := item_st (lim := limI.toNat) h2 B
  refine ⟨fun h => ?_, fun h he => ?_, fun h he => ?_⟩
  · have e : item limI.toNat s1 B = .short := by rw [hit, itStored, if_pos h]
    exact Says.short (hs.1 _ (.short (by omega) e)) (by omega) ho
  · unfold tlR at he ⊢
    rw [if_neg (by decide)] at he ⊢
    by_cases hf : limI ≤ (out.length : Int)
    · rw [if_pos hf]
      have e : item limI.toNat s1 B = .bad 9 s1.out := by rw [hit, itStored, if_neg (by omega), if_pos (by rw [ho]; have := (lim_iff limI out.length).1 hf; omega)]
      refine Says.bad ?_ (by show (9 : Int) ≠ 0; decide) (by show (9 : Int) ≠ 2; decide)
      have := hs.1 _ (.bad (by omega) e)
      rw [ho] at this
      exact this
    · rw [if_neg hf] at he
      exact absurd rfl he
  · unfold tlR at he ⊢
    rw [if_neg (by decide)] at he ⊢
    by_cases hf : limI ≤ (out.length : Int)
    · rw [if_pos hf] at he; cases he
    · rw [if_neg hf]
      have hlt : out.length < limI.toNat := by have := fun h => hf ((lim_iff limI out.length).2 h); omega
      refine ⟨by simp only [List.length_append, List.length_singleton]; omega, fun hi => ?_, fun hi => ?_⟩
      · have e : item limI.toNat s1 B = .ok { s1 with out := s1.out ++ [(bV B 0 8 : Int)], left := s1.left - 1 } 8 := by rw [hit, itStored, if_neg (by omega), if_neg (by rw [ho]; omega), if_neg (by omega)]
        refine ⟨{ s1 with out := s1.out ++ [(bV B 0 8 : Int)], left := s1.left - 1 }, h2, ?_, ?_, hlast, fun r hr => hs.1 r (.ok (by omega) e hr), by rw [List.length_drop]; have := hs.2; omega⟩
        · simp only; omega
        · simp only [ho]
      · have e : item limI.toNat s1 B = endB { s1 with out := s1.out ++ [(bV B 0 8 : Int)], left := 0 } B 8 := by rw [hit, itStored, if_neg (by omega), if_neg (by rw [ho]; omega), if_pos (by omega)]
        have := Says.ends hs (by omega) _ e (out := out ++ [(bV B 0 8 : Int)]) (by simp only [ho])
        simp only [hlast] at this
        exact this
section
variable {w : World} {r : Nat} {gb go gk : Option Nat} {B out : List Int} {lim : Int} {dn : Bool}
theorem RunAt.cB {E : Int} (h : RunAt w r gb go gk B out lim E dn) : ∃ ab cb, w.cell? ⟨r, 0, none⟩ = some (.slice ab B.length cb) ∧ ∀ j, w.frozen? ⟨r, j, none⟩ = false := by
  obtain ⟨vb, vo, vk, all, ks, h1, h2, _⟩ := h
  obtain ⟨ab, cb, hv, _⟩ := h2.shape
  rw [ivals_len] at hv
  subst hv
  exact ⟨ab, cb, h1.cells.1, h1.cells.2.2.2.2.2.2⟩
def BkPost (w : World) (r : Nat) (gb go gk : Option Nat) (limI : Int) (dn : Bool) (s : St) (l : List Int) (e : Ending) (w' : World) : Prop :=
  e = .returned (.tuple #[]) ∧ ∃ go' B' out' E', RunAt w' r gb go' gk B' out' limI E' dn ∧ Says limI.toNat s l s.last E' out' B' ∧ out'.length ≤ limI.toNat ∧ Bit B' ∧ B'.length ≤ 1000000 ∧ Fr w w' r go ∧ (go' = go ∨ ∃ k, go' = some k ∧ w.heap.size ≤ k)
end
end Go.Proofs.YtloagniacjfkfaaGreatDoor
/- The document's stored block. -/
namespace Go.Proofs.YtloagniacjfkfaaGreatDoor
open Go.RowKit
section
variable {w : World} {r : Nat} {gb go gk : Option Nat} {B out : List Int} {lim : Int} {dn : Bool}
/-- Between two bytes. -/
def SbRel (w : World) (r : Nat) (gb go gk : Option Nat) (limI : Int) (dn : Bool) (s : St) (l : List Int) (k i : Nat) (wr : World) : Prop :=
  ∃ go' B' out' E', RunAt wr r gb go' gk B' out' limI E' dn ∧ out'.length ≤ limI.toNat ∧ Bit B' ∧ B'.length ≤ 1000000 ∧ Fr w wr r go ∧ (go' = go ∨ ∃ k, go' = some k ∧ w.heap.size ≤ k) ∧
    (E' = 0 → i < k → ∃ s1 : St, s1.now = 2 ∧ s1.left = k - i ∧ s1.out = out' ∧ s1.last = s.last ∧ Sub limI.toNat s l s1 B') ∧ (¬ (E' = 0 ∧ i < k) → Says limI.toNat s l s.last E' out' B')
set_option maxHeartbeats 3200000 in
set_option maxRecDepth 20000 in
theorem rstored_any (s : St) (h1 : s.now = 1) (ho : s.out = out) (hol : out.length ≤ lim.toNat) (hll : lim ≤ 1000000) (hB : Bit B) (hl : B.length ≤ 100000) (h : RunAt w r gb go gk B out lim 0 dn) :
    Calls Tryz.prog 47 #[.pointer (some ⟨r, 0, none⟩)] w fun e w' => BkPost w r gb go gk lim dn s (B.drop (B.length % 8)) e w' := by
  have HR : Hid (RunAt w r gb go gk B out lim 0 dn) := h
  obtain ⟨ab, cb, k0, fz⟩ := h.cB
  have k4 := h.cE
  clear h
  obtain ⟨n, hn⟩ : ∃ n, B.length % 8 = n := ⟨_, rfl⟩
  have HN : Hid (B.length % 8 = n) := hn
  have hni : (B.length : Int) % 8 = (n : Int) := by omega
  have hnt : ((B.length : Int)).tmod 8 = (n : Int) := by rw [Int.tmod_eq_emod_of_nonneg (by omega), hni]
  have hn8 : n < 8 := by omega
  have hnl : n ≤ B.length := by omega
  rw [hn]
  clear hn
  by_cases hsh : B.length < n + 32
  · have hshi : (B.length : Int) < (n : Int) + 32 := by omega
    have HP : Hid (BkPost w r gb go gk lim dn s (B.drop n) (.returned (.tuple #[])) (w.setCell ⟨r, 4, none⟩ (.int .i64 2))) := by
      have e : item lim.toNat s (B.drop n) = .short := by
        have : item lim.toNat s (B.drop n) = itSize s (B.drop n) := by unfold item; rw [h1]; rfl
        rw [this, itSize, if_pos (by rw [List.length_drop]; omega)]
      exact ⟨rfl, go, B, out, 2, HR.out.setE 2, Says.short (.short (by omega) e) (by omega) ho, hol, hB, by omega, (Fr.refl _ _ _).snoc _ _, .inl rfl⟩
    go_enter Tryz.func47, Tryz.ntmps47
    go_wp2
    refine bodyPost_ret (results_none rfl _ _ _) rfl ?_
    exact HP.out
  · have hshi : ¬ (B.length : Int) < (n : Int) + 32 := by omega
    have HT1 := rtake_any n (by omega) hB HR.out
    have e1 : tkR 0 B n = ((bV B 0 n : Int), B.drop n, 0) := by unfold tkR; rw [if_neg (by decide), if_neg (by omega)]
    rw [e1] at HT1
    obtain ⟨B1, hB1⟩ : ∃ B1, B.drop n = B1 := ⟨_, rfl⟩
    have hb1 : Bit B1 := by rw [← hB1]; exact hB.drop n
    have hl1 : 32 ≤ B1.length ∧ B1.length ≤ 100000 ∧ B1.length % 8 = 0 := by
      have := congrArg List.length hB1
      rw [List.length_drop] at this
      have := HN.out
      omega
    rw [hB1] at HT1 ⊢
    clear e1 hB1
    generalize (bV B 0 n : Int) = X1 at HT1
    go_enter Tryz.func47, Tryz.ntmps47
    go_wp2_with fail
    refine HT1.mono ?_
    rintro e w1 ⟨rfl, a1, f1⟩
    have HT2 := rtake_any 16 (by decide) hb1 a1
    have e2 : tkR 0 B1 16 = ((bV B1 0 16 : Int), B1.drop 16, 0) := by unfold tkR; rw [if_neg (by decide), if_neg (by omega)]
    simp only at a1
    rw [e2] at HT2
    have HF1 : Hid (Fr w w1 r none) := f1
    clear HT1 a1 f1 e2
    obtain ⟨k, hk⟩ : ∃ k, bV B1 0 16 = k := ⟨_, rfl⟩
    have HK : Hid (bV B1 0 16 = k) := hk
    have hk16 : k < 65536 := by rw [← hk]; have := bV_small hb1 0 16; simpa using this
    rw [hk] at HT2
    clear hk
    go_wp2_with fail
    refine HT2.mono ?_
    rintro e w2 ⟨rfl, a2, f2⟩
    simp only at a2
    have HT3 := rtake_any 16 (by decide) (hb1.drop 16) a2
    have e3 : tkR 0 (B1.drop 16) 16 = ((bV B1 16 16 : Int), B1.drop 32, 0) := by
      unfold tkR
      rw [if_neg (by decide), if_neg (by rw [List.length_drop]; omega), List.drop_drop]
      unfold bV
      rw [List.drop_zero]
    rw [e3] at HT3
    have HF2 : Hid (Fr w w2 r none) := HF1.out.trans f2 (.inl rfl)
    clear HT2 a2 f2 e3 HF1
    obtain ⟨v, hv⟩ : ∃ v, bV B1 16 16 = v := ⟨_, rfl⟩
    have HV : Hid (bV B1 16 16 = v) := hv
    rw [hv] at HT3
    clear hv
    go_wp2_with fail
    refine HT3.mono ?_
    rintro e w3 ⟨rfl, a3, f3⟩
    simp only at a3
    have HF3 : Hid (Fr w w3 r none) := HF2.out.trans f3 (.inl rfl)
    have HA3 : Hid (RunAt w3 r gb go gk (B1.drop 32) out lim 0 dn) := a3
    clear HT3 a3 f3 HF2
    have hiS : ∀ lim', item lim' s B1 = itSize s B1 := by intro lim'; unfold item; rw [h1]; rfl
    have HST : Hid (∀ w4 E, RunAt w4 r gb go gk (B1.drop 32) out lim E dn → Fr w3 w4 r none → (E = if v = 65535 - k then 0 else 8) → SbRel w r gb go gk lim dn s B1 k 0 w4) := by
      intro w4 E h4 f4 hE
      refine ⟨go, B1.drop 32, out, E, h4, hol, hb1.drop 32, by rw [List.length_drop]; omega, ?_, .inl rfl, fun e0 hk0 => ?_, fun hno => ?_⟩
      · have f := HF3.out.trans f4 (.inl rfl)
        exact ⟨f.os, f.tape, f.output, f.size, fun j hj h1 _ => f.block j hj h1 (by simp)⟩
      · have hvk : v = 65535 - k := by
          by_cases h : v = 65535 - k
          · exact h
          · rw [if_neg h] at hE; omega
        have e : item lim.toNat s B1 = .ok { s with left := k, now := 2 } 32 := by
          rw [hiS, itSize, if_neg (by omega), HK.out, HV.out, if_neg (by simpa using hvk), if_neg (by omega)]
        exact ⟨{ s with left := k, now := 2 }, rfl, by simp, ho, rfl, ⟨fun q hq => .ok (by omega) e hq, by rw [List.length_drop]; omega⟩⟩
      · by_cases h : v = 65535 - k
        · rw [if_pos h] at hE
          have hk0 : k = 0 := by
            by_cases h0 : k = 0
            · exact h0
            · exact absurd ⟨hE, by omega⟩ hno
          have e : item lim.toNat s B1 = endB { s with left := 0 } B1 32 := by
            rw [hiS, itSize, if_neg (by omega), HK.out, HV.out, if_neg (by simpa using h), if_pos hk0]
          rw [hE]
          exact Says.ends (s1 := s) ⟨fun q hq => hq, Nat.le_refl _⟩ (by omega) { s with left := 0 } e ho
        · rw [if_neg h] at hE
          rw [hE]
          refine Says.bad (.bad (by omega) ?_) (by decide) (by decide)
          rw [hiS, itSize, if_neg (by omega), HK.out, HV.out, if_pos h, ho]
    clear hiS
    by_cases hvk : v = 65535 - k
    · have hvi : (v : Int) = 65535 - (k : Int) := by omega
      have HFa : Calls Tryz.prog 70 #[.pointer (some ⟨r, 0, none⟩), .bool false, .int .i64 8] w3 fun e w' => FlPost w3 r gb go gk (B1.drop 32) out lim (flE 0 false 8) dn e w' := rfail_any false 8 HA3.out
      rw [hvi]
      go_wp2_with fail
      refine HFa.mono ?_
      rintro e w4 ⟨rfl, a4, f4, _⟩
      have HS0 : Hid (SbRel w r gb go gk lim dn s B1 k 0 w4) := HST.out w4 _ a4 f4 (by rw [if_pos hvk]; rfl)
      clear HFa a4 f4 HST HA3 HF3 k0 k4 fz hvi
      go_wp2
      go_loopw [4, 5] (fun i _ wr => ∃ t : Nat, t ≤ k ∧ i = .int .i64 t ∧ Hid (SbRel w r gb go gk lim dn s B1 k t wr)) (fun i _ _ => k - (intOf i).toNat)
      case atStart => exact ⟨0, Nat.zero_le _, rfl, HS0.out⟩
      case round =>
        clear HS0
        obtain ⟨t, ht, rfl, HX⟩ := hrel
        obtain ⟨go', B', out', E', ra, hol', hb', hl', hfr, hgo, hgoes, hsays⟩ := HX.out
        have k4 := ra.cE
        have HA : Hid (RunAt wr r gb go' gk B' out' lim E' dn ∧ out'.length ≤ lim.toNat ∧ Bit B' ∧ B'.length ≤ 1000000 ∧ Fr w wr r go ∧ (go' = go ∨ ∃ k, go' = some k ∧ w.heap.size ≤ k)) := ⟨ra, hol', hb', hl', hfr, hgo⟩
        have HG : Hid ((E' = 0 → t < k → ∃ s1 : St, s1.now = 2 ∧ s1.left = k - t ∧ s1.out = out' ∧ s1.last = s.last ∧ Sub lim.toNat s B1 s1 B') ∧ (¬ (E' = 0 ∧ t < k) → Says lim.toNat s B1 s.last E' out' B')) := ⟨hgoes, hsays⟩
        clear HX ra hfr hgo hgoes hsays
        by_cases hlt : t < k
        · have hlti : (t : Int) < (k : Int) := by omega
          by_cases hE : E' = 0
          · subst hE
            obtain ⟨s1, g1, g2, g3, g4, g5⟩ := HG.out.1 rfl hlt
            obtain ⟨st1, st2, st3⟩ := stored_step (limI := lim) g5 g1 g2 g3 g4 hol'
            have HT := rtake_any 8 (by decide) hb' HA.out.1
            by_cases hs8 : B'.length < 8
            · have e4 : tkR 0 B' 8 = (0, B', 2) := by unfold tkR; rw [if_neg (by decide), if_pos hs8]
              rw [e4] at HT
              have HSY : Hid (Says lim.toNat s B1 s.last 2 out' B') := st1 hs8
              clear st1 st2 st3 g1 g2 g3 g4 g5 e4
              go_wp2_with fail
              refine HT.mono ?_
              rintro e w5 ⟨rfl, a5, f5⟩
              simp only at a5
              have q4 := a5.cE
              have HE : Hid (SbRel w r gb go gk lim dn s B1 k (t + 1) w5) := by
                refine ⟨go', B', out', 2, a5, HA.out.2.1, HA.out.2.2.1, HA.out.2.2.2.1, ?_, HA.out.2.2.2.2.2, (fun e => by cases e), fun _ => HSY.out⟩
                exact HA.out.2.2.2.2.1.trans ⟨f5.os, f5.tape, f5.output, f5.size, fun j hj h1 _ => f5.block j hj h1 (by simp)⟩ (.inl rfl)
              clear HT a5 f5 HA HG HSY k4
              go_wp2
              go_roundw
              case rel => exact ⟨t + 1, by omega, by go_num, HE.out⟩
              case measure => simp [intOf]; omega
            · have e4 : tkR 0 B' 8 = ((bV B' 0 8 : Int), B'.drop 8, 0) := by unfold tkR; rw [if_neg (by decide), if_neg hs8]
              rw [e4] at HT
              obtain ⟨c, hc⟩ : ∃ c, bV B' 0 8 = c := ⟨_, rfl⟩
              have hc8 : c < 256 := by rw [← hc]; have := bV_small hb' 0 8; simpa using this
              have hcw : IntKind.u8.wrap (c : Int) = (c : Int) := by rw [IntKind.wrap_u8]; omega
              rw [hc] at HT st2 st3
              have HST2 : Hid (((tlR lim 0 out' (c : Int)).2 ≠ 0 → Says lim.toNat s B1 s.last (tlR lim 0 out' (c : Int)).2 (tlR lim 0 out' (c : Int)).1 (B'.drop 8)) ∧ ((tlR lim 0 out' (c : Int)).2 = 0 → (tlR lim 0 out' (c : Int)).1.length ≤ lim.toNat ∧ (t + 1 < k → ∃ s2 : St, s2.now = 2 ∧ s2.left = k - (t + 1) ∧ s2.out = (tlR lim 0 out' (c : Int)).1 ∧ s2.last = s.last ∧ Sub lim.toNat s B1 s2 (B'.drop 8)) ∧ (t + 1 = k → Says lim.toNat s B1 s.last 0 (tlR lim 0 out' (c : Int)).1 (B'.drop 8)))) := ⟨st2 (by omega), st3 (by omega)⟩
              clear st1 st2 st3 g1 g2 g3 g4 g5 e4 hc
              go_wp2_with fail
              refine HT.mono ?_
              rintro e w5 ⟨rfl, a5, f5⟩
              simp only at a5
              have q4 := a5.cE
              have HTL := rtell_any (c : Int) (by omega) a5
              have HF5 : Hid (Fr w w5 r go) := HA.out.2.2.2.2.1.trans ⟨f5.os, f5.tape, f5.output, f5.size, fun j hj h1 _ => f5.block j hj h1 (by simp)⟩ (.inl rfl)
              have HSz : Hid (w.heap.size ≤ w5.heap.size) := HF5.out.size
              clear HT a5 f5 k4
              go_wp2_with fail
              refine HTL.mono ?_
              rintro e w6 ⟨rfl, go6, a6, f6, hg6⟩
              have HE : Hid (SbRel w r gb go gk lim dn s B1 k (t + 1) w6) := by
                have hgo6 : go6 = go ∨ ∃ j, go6 = some j ∧ w.heap.size ≤ j := by
                  rcases hg6 with e | ⟨j, e, hj⟩
                  · rw [e]; exact HA.out.2.2.2.2.2
                  · exact .inr ⟨j, e, by have := HSz.out; omega⟩
                have hfr6 : Fr w w6 r go := by
                  rcases HA.out.2.2.2.2.2 with e | ⟨j, e, hj⟩
                  · rw [e] at f6; exact HF5.out.trans f6 (.inl rfl)
                  · refine HF5.out.trans f6 (.inr ⟨j, e, hj⟩)
                have hlo : (tlR lim 0 out' (c : Int)).1.length ≤ lim.toNat := by
                  by_cases h0 : (tlR lim 0 out' (c : Int)).2 = 0
                  · exact (HST2.out.2 h0).1
                  · have : (tlR lim 0 out' (c : Int)).1 = out' := by
                      unfold tlR at h0 ⊢
                      rw [if_neg (by decide)] at h0 ⊢
                      by_cases hf : lim ≤ (out'.length : Int)
                      · rw [if_pos hf]
                      · rw [if_neg hf] at h0; exact absurd rfl h0
                    rw [this]; exact HA.out.2.1
                refine ⟨go6, B'.drop 8, _, _, a6, hlo, HA.out.2.2.1.drop 8, by rw [List.length_drop]; have := HA.out.2.2.2.1; omega, hfr6, hgo6, fun e0 h1 => (HST2.out.2 e0).2.1 h1, fun hno => ?_⟩
                by_cases h0 : (tlR lim 0 out' (c : Int)).2 = 0
                · have h1 : t + 1 = k := by
                    by_cases h2 : t + 1 < k
                    · exact absurd ⟨h0, h2⟩ hno
                    · omega
                  rw [h0]
                  exact (HST2.out.2 h0).2.2 h1
                · exact HST2.out.1 h0
              clear HTL a6 f6 hg6 HA HG HST2 HF5 HSz q4
              go_wp2
              go_roundw
              case rel => exact ⟨t + 1, by omega, by go_num, HE.out⟩
              case measure => simp [intOf]; omega
          · have hEb : (E' == 0) = false := by simpa using hE
            have HP : Hid (BkPost w r gb go gk lim dn s B1 (.returned (.tuple #[])) wr) := ⟨rfl, go', B', out', E', HA.out.1, HG.out.2 (fun h => hE h.1), HA.out.2.1, HA.out.2.2.1, HA.out.2.2.2.1, HA.out.2.2.2.2.1, HA.out.2.2.2.2.2⟩
            clear HA HG
            go_wp2
            go_end0
            exact HP.out
        · have hlti : ¬ (t : Int) < (k : Int) := by omega
          have HP : Hid (BkPost w r gb go gk lim dn s B1 (.returned (.tuple #[])) wr) := ⟨rfl, go', B', out', E', HA.out.1, HG.out.2 (fun h => hlt h.2), HA.out.2.1, HA.out.2.2.1, HA.out.2.2.2.1, HA.out.2.2.2.2.1, HA.out.2.2.2.2.2⟩
          clear HA HG
          go_wp2
          go_end0
          exact HP.out
    · have hvi : ¬ (v : Int) = 65535 - (k : Int) := by omega
      have hvb : ((v : Int) != 65535 - (k : Int)) = true := by simpa using hvi
      have HFa : Calls Tryz.prog 70 #[.pointer (some ⟨r, 0, none⟩), .bool true, .int .i64 8] w3 fun e w' => FlPost w3 r gb go gk (B1.drop 32) out lim (flE 0 true 8) dn e w' := rfail_any true 8 HA3.out
      go_wp2_with fail
      refine HFa.mono ?_
      rintro e w4 ⟨rfl, a4, f4, _⟩
      have HS0 : Hid (SbRel w r gb go gk lim dn s B1 k 0 w4) := HST.out w4 _ a4 f4 (by rw [if_neg hvk]; rfl)
      clear HFa a4 f4 HST HA3 HF3 k0 k4 fz hvi hvb
      go_wp2
      go_loopw [4, 5] (fun i _ wr => ∃ t : Nat, t ≤ k ∧ i = .int .i64 t ∧ Hid (SbRel w r gb go gk lim dn s B1 k t wr)) (fun i _ _ => k - (intOf i).toNat)
      case atStart => exact ⟨0, Nat.zero_le _, rfl, HS0.out⟩
      case round =>
        clear HS0
        obtain ⟨t, ht, rfl, HX⟩ := hrel
        obtain ⟨go', B', out', E', ra, hol', hb', hl', hfr, hgo, hgoes, hsays⟩ := HX.out
        have k4 := ra.cE
        have HA : Hid (RunAt wr r gb go' gk B' out' lim E' dn ∧ out'.length ≤ lim.toNat ∧ Bit B' ∧ B'.length ≤ 1000000 ∧ Fr w wr r go ∧ (go' = go ∨ ∃ k, go' = some k ∧ w.heap.size ≤ k)) := ⟨ra, hol', hb', hl', hfr, hgo⟩
        have HG : Hid ((E' = 0 → t < k → ∃ s1 : St, s1.now = 2 ∧ s1.left = k - t ∧ s1.out = out' ∧ s1.last = s.last ∧ Sub lim.toNat s B1 s1 B') ∧ (¬ (E' = 0 ∧ t < k) → Says lim.toNat s B1 s.last E' out' B')) := ⟨hgoes, hsays⟩
        clear HX ra hfr hgo hgoes hsays
        by_cases hlt : t < k
        · have hlti : (t : Int) < (k : Int) := by omega
          by_cases hE : E' = 0
          · subst hE
            obtain ⟨s1, g1, g2, g3, g4, g5⟩ := HG.out.1 rfl hlt
            obtain ⟨st1, st2, st3⟩ := stored_step (limI := lim) g5 g1 g2 g3 g4 hol'
            have HT := rtake_any 8 (by decide) hb' HA.out.1
            by_cases hs8 : B'.length < 8
            · have e4 : tkR 0 B' 8 = (0, B', 2) := by unfold tkR; rw [if_neg (by decide), if_pos hs8]
              rw [e4] at HT
              have HSY : Hid (Says lim.toNat s B1 s.last 2 out' B') := st1 hs8
              clear st1 st2 st3 g1 g2 g3 g4 g5 e4
              go_wp2_with fail
              refine HT.mono ?_
              rintro e w5 ⟨rfl, a5, f5⟩
              simp only at a5
              have q4 := a5.cE
              have HE : Hid (SbRel w r gb go gk lim dn s B1 k (t + 1) w5) := by
                refine ⟨go', B', out', 2, a5, HA.out.2.1, HA.out.2.2.1, HA.out.2.2.2.1, ?_, HA.out.2.2.2.2.2, (fun e => by cases e), fun _ => HSY.out⟩
                exact HA.out.2.2.2.2.1.trans ⟨f5.os, f5.tape, f5.output, f5.size, fun j hj h1 _ => f5.block j hj h1 (by simp)⟩ (.inl rfl)
              clear HT a5 f5 HA HG HSY k4
              go_wp2
              go_roundw
              case rel => exact ⟨t + 1, by omega, by go_num, HE.out⟩
              case measure => simp [intOf]; omega
            · have e4 : tkR 0 B' 8 = ((bV B' 0 8 : Int), B'.drop 8, 0) := by unfold tkR; rw [if_neg (by decide), if_neg hs8]
              rw [e4] at HT
              obtain ⟨c, hc⟩ : ∃ c, bV B' 0 8 = c := ⟨_, rfl⟩
              have hc8 : c < 256 := by rw [← hc]; have := bV_small hb' 0 8; simpa using this
              have hcw : IntKind.u8.wrap (c : Int) = (c : Int) := by rw [IntKind.wrap_u8]; omega
              rw [hc] at HT st2 st3
              have HST2 : Hid (((tlR lim 0 out' (c : Int)).2 ≠ 0 → Says lim.toNat s B1 s.last (tlR lim 0 out' (c : Int)).2 (tlR lim 0 out' (c : Int)).1 (B'.drop 8)) ∧ ((tlR lim 0 out' (c : Int)).2 = 0 → (tlR lim 0 out' (c : Int)).1.length ≤ lim.toNat ∧ (t + 1 < k → ∃ s2 : St, s2.now = 2 ∧ s2.left = k - (t + 1) ∧ s2.out = (tlR lim 0 out' (c : Int)).1 ∧ s2.last = s.last ∧ Sub lim.toNat s B1 s2 (B'.drop 8)) ∧ (t + 1 = k → Says lim.toNat s B1 s.last 0 (tlR lim 0 out' (c : Int)).1 (B'.drop 8)))) := ⟨st2 (by omega), st3 (by omega)⟩
              clear st1 st2 st3 g1 g2 g3 g4 g5 e4 hc
              go_wp2_with fail
              refine HT.mono ?_
              rintro e w5 ⟨rfl, a5, f5⟩
              simp only at a5
              have q4 := a5.cE
              have HTL := rtell_any (c : Int) (by omega) a5
              have HF5 : Hid (Fr w w5 r go) := HA.out.2.2.2.2.1.trans ⟨f5.os, f5.tape, f5.output, f5.size, fun j hj h1 _ => f5.block j hj h1 (by simp)⟩ (.inl rfl)
              have HSz : Hid (w.heap.size ≤ w5.heap.size) := HF5.out.size
              clear HT a5 f5 k4
              go_wp2_with fail
              refine HTL.mono ?_
              rintro e w6 ⟨rfl, go6, a6, f6, hg6⟩
              have HE : Hid (SbRel w r gb go gk lim dn s B1 k (t + 1) w6) := by
                have hgo6 : go6 = go ∨ ∃ j, go6 = some j ∧ w.heap.size ≤ j := by
                  rcases hg6 with e | ⟨j, e, hj⟩
                  · rw [e]; exact HA.out.2.2.2.2.2
                  · exact .inr ⟨j, e, by have := HSz.out; omega⟩
                have hfr6 : Fr w w6 r go := by
                  rcases HA.out.2.2.2.2.2 with e | ⟨j, e, hj⟩
                  · rw [e] at f6; exact HF5.out.trans f6 (.inl rfl)
                  · refine HF5.out.trans f6 (.inr ⟨j, e, hj⟩)
                have hlo : (tlR lim 0 out' (c : Int)).1.length ≤ lim.toNat := by
                  by_cases h0 : (tlR lim 0 out' (c : Int)).2 = 0
                  · exact (HST2.out.2 h0).1
                  · have : (tlR lim 0 out' (c : Int)).1 = out' := by
                      unfold tlR at h0 ⊢
                      rw [if_neg (by decide)] at h0 ⊢
                      by_cases hf : lim ≤ (out'.length : Int)
                      · rw [if_pos hf]
                      · rw [if_neg hf] at h0; exact absurd rfl h0
                    rw [this]; exact HA.out.2.1
                refine ⟨go6, B'.drop 8, _, _, a6, hlo, HA.out.2.2.1.drop 8, by rw [List.length_drop]; have := HA.out.2.2.2.1; omega, hfr6, hgo6, fun e0 h1 => (HST2.out.2 e0).2.1 h1, fun hno => ?_⟩
                by_cases h0 : (tlR lim 0 out' (c : Int)).2 = 0
                · have h1 : t + 1 = k := by
                    by_cases h2 : t + 1 < k
                    · exact absurd ⟨h0, h2⟩ hno
                    · omega
                  rw [h0]
                  exact (HST2.out.2 h0).2.2 h1
                · exact HST2.out.1 h0
              clear HTL a6 f6 hg6 HA HG HST2 HF5 HSz q4
              go_wp2
              go_roundw
              case rel => exact ⟨t + 1, by omega, by go_num, HE.out⟩
              case measure => simp [intOf]; omega
          · have hEb : (E' == 0) = false := by simpa using hE
            have HP : Hid (BkPost w r gb go gk lim dn s B1 (.returned (.tuple #[])) wr) := ⟨rfl, go', B', out', E', HA.out.1, HG.out.2 (fun h => hE h.1), HA.out.2.1, HA.out.2.2.1, HA.out.2.2.2.1, HA.out.2.2.2.2.1, HA.out.2.2.2.2.2⟩
            clear HA HG
            go_wp2
            go_end0
            exact HP.out
        · have hlti : ¬ (t : Int) < (k : Int) := by omega
          have HP : Hid (BkPost w r gb go gk lim dn s B1 (.returned (.tuple #[])) wr) := ⟨rfl, go', B', out', E', HA.out.1, HG.out.2 (fun h => hlt h.2), HA.out.2.1, HA.out.2.2.1, HA.out.2.2.2.1, HA.out.2.2.2.2.1, HA.out.2.2.2.2.2⟩
          clear HA HG
          go_wp2
          go_end0
          exact HP.out
end
end Go.Proofs.YtloagniacjfkfaaGreatDoor
/- Words stay where a run works. -/
namespace Go.Proofs.YtloagniacjfkfaaGreatDoor
open Go.RowKit
section
variable {w w' : World} {r : Nat} {gb go gk : Option Nat} {B out : List Int} {lim E : Int} {dn : Bool}
/-- Of the old blocks a run's work changes its own and the told bytes' alone: words of a code stay. -/
theorem words_fr {base : Nat} {v : Value} {xs : List Pv} {ps : List Pc} (hq : QRow w base v xs) (hps : PS w xs ps) (h : RunAt w r gb go gk B out lim E dn) (hf : Fr w w' r go) : QRow w' base v xs ∧ PS w' xs ps := by
  obtain ⟨vb, vo, vk, all, ks, h1, h2, h3, h4, h5⟩ := h
  have htag : ∀ {k : Nat} {c1 c2 : Array Value} {t1 t2 : TypeId}, w.heap[k]? = some (.cells c1 t1 (0, 0)) → w.heap[k]? = some (.cells c2 t2 (0, 0)) → t1 = t2 := by
    intro k c1 c2 t1 t2 e1 e2
    rw [e1] at e2
    simp only [Option.some.injEq, Obj.cells.injEq] at e2
    exact e2.2.1
  have keep : ∀ {k : Nat} {c : Array Value} {t : TypeId}, w.heap[k]? = some (.cells c t (0, 0)) → t ≠ 59 → t ≠ 5 → w'.heap[k]? = w.heap[k]? := by
    intro k c t e n1 n2
    refine hf.block k (lt_of_block e) (fun ek => ?_) (fun ek => ?_)
    · subst ek
      exact n1 (htag e h1)
    · obtain ⟨c2, e2⟩ := h3.tag k ek.symm
      exact n2 (htag e e2)
  constructor
  · obtain ⟨q1, q2⟩ := hq
    refine ⟨q1, ?_⟩
    rcases q2 with q | ⟨g, cap, cur, q3, q4, q5, q6⟩
    · exact .inl q
    · exact .inr ⟨g, cap, cur, q3, q4, (keep q5 (by decide) (by decide)).trans q5, q6⟩
  · refine All2.imp hps fun x p _ hp => ⟨hp.1, ?_⟩
    obtain ⟨s1, s2, s3, s4, cur, s5, s6⟩ := hp.2
    exact ⟨s1, s2, s3, s4, cur, (keep s5 (by decide) (by decide)).trans s5, s6⟩
end
/-- One symbol, the machine's way: what the item is by the next symbol. -/
theorem item_next {lim : Nat} {s : St} {ns : List Nat} (h7 : s.now = 7) (hla : s.la = some ns) (l : List Int) :
    ((nxL ns l).2.1 = 2 → item lim s l = .short) ∧
    ((nxL ns l).2.1 ≠ 2 → (nxL ns l).2.1 ≠ 0 → item lim s l = .bad (nxL ns l).2.1 s.out) ∧
    ((nxL ns l).2.1 = 0 → ((nxL ns l).1 < 256 → s.out.length = lim → item lim s l = .bad 9 s.out) ∧
      ((nxL ns l).1 < 256 → s.out.length ≠ lim → item lim s l = .ok { s with out := s.out ++ [(nxL ns l).1] } (nxL ns l).2.2) ∧
      ((nxL ns l).1 = 256 → item lim s l = endB s l (nxL ns l).2.2) ∧
      (285 < (nxL ns l).1 → item lim s l = .bad 6 s.out) ∧
      (256 < (nxL ns l).1 → (nxL ns l).1 ≤ 285 → item lim s l = .ok { s with least := (cLen (nxL ns l).1.toNat).1, nb := (cLen (nxL ns l).1.toNat).2, now := 8 } (nxL ns l).2.2)) := by
  have hi : item lim s l = itSymbol lim s l := by unfold item; rw [h7]; rfl
  rw [hi]
  unfold itSymbol
  simp only [hla, Option.getD_some]
  refine ⟨fun h => by rw [if_pos h], fun h1 h2 => by rw [if_neg h1, if_pos h2], fun h => ⟨fun h1 h2 => ?_, fun h1 h2 => ?_, fun h1 => ?_, fun h1 => ?_, fun h1 h2 => ?_⟩⟩
  · rw [if_neg (by omega), if_neg (by omega), if_pos h1, if_pos h2]
  · rw [if_neg (by omega), if_neg (by omega), if_pos h1, if_neg h2]
  · rw [if_neg (by omega), if_neg (by omega), if_neg (by omega), if_pos h1]
  · rw [if_neg (by omega), if_neg (by omega), if_neg (by omega), if_neg (by omega), if_pos h1]
  · rw [if_neg (by omega), if_neg (by omega), if_neg (by omega), if_neg (by omega), if_neg (by omega)]
end Go.Proofs.YtloagniacjfkfaaGreatDoor
/- The machine's items of a copy, one by one. -/
namespace Go.Proofs.YtloagniacjfkfaaGreatDoor
open Go.RowKit
section
variable {lim : Nat} {s s1 s2 : St} {l l1 : List Int} {n : Nat}
theorem Sub.refl (lim : Nat) (s : St) (l : List Int) : Sub lim s l s l := ⟨fun _ h => h, Nat.le_refl _⟩
theorem Sub.ok (h : Sub lim s l s1 l1) (h10 : s1.now ≤ 10) (hi : item lim s1 l1 = .ok s2 n) : Sub lim s l s2 (l1.drop n) := ⟨fun r hr => h.1 r (.ok h10 hi hr), by rw [List.length_drop]; have := h.2; omega⟩
theorem Sub.short {out B : List Int} {last : Bool} (h : Sub lim s l s1 l1) (h10 : s1.now ≤ 10) (hi : item lim s1 l1 = .short) (ho : s1.out = out) : Says lim s l last 2 out B := Says.short (h.1 _ (.short h10 hi)) h10 ho
theorem Sub.bad {E : Int} {out B : List Int} {last : Bool} (h : Sub lim s l s1 l1) (h10 : s1.now ≤ 10) (hi : item lim s1 l1 = .bad E out) (h0 : E ≠ 0) (h2 : E ≠ 2) : Says lim s l last E out B := Says.bad (h.1 _ (.bad h10 hi)) h0 h2
theorem item_len (h8 : s.now = 8) (l : List Int) : (l.length < s.nb → item lim s l = .short) ∧ (s.nb ≤ l.length → item lim s l = .ok { s with len := s.least + bV l 0 s.nb, now := 9 } s.nb) := by
  have hi : item lim s l = itLength s l := by unfold item; rw [h8]; rfl
  rw [hi]
  unfold itLength
  exact ⟨fun h => by rw [if_pos h], fun h => by rw [if_neg (by omega)]⟩
theorem item_dist {ns : List Nat} (h9 : s.now = 9) (hda : s.da = some ns) (l : List Int) :
    ((nxL ns l).2.1 = 2 → item lim s l = .short) ∧ ((nxL ns l).2.1 ≠ 2 → (nxL ns l).2.1 ≠ 0 → item lim s l = .bad (nxL ns l).2.1 s.out) ∧
    ((nxL ns l).2.1 = 0 → (30 ≤ (nxL ns l).1 → item lim s l = .bad 6 s.out) ∧ ((nxL ns l).1 < 30 → item lim s l = .ok { s with least := (sprd (nxL ns l).1.toNat 2).1 + 1, nb := (sprd (nxL ns l).1.toNat 2).2, now := 10 } (nxL ns l).2.2)) := by
  have hi : item lim s l = itDist s l := by unfold item; rw [h9]; rfl
  rw [hi]
  unfold itDist
  simp only [hda, Option.getD_some]
  exact ⟨fun h => by rw [if_pos h], fun h1 h2 => by rw [if_neg h1, if_pos h2], fun h => ⟨fun h1 => by rw [if_neg (by omega), if_neg (by omega), if_pos h1], fun h1 => by rw [if_neg (by omega), if_neg (by omega), if_neg (by omega)]⟩⟩
theorem item_far (h10 : s.now = 10) (l : List Int) :
    (l.length < s.nb → item lim s l = .short) ∧ (s.nb ≤ l.length → (s.out.length < s.least + bV l 0 s.nb → item lim s l = .bad 7 s.out) ∧
      (s.least + bV l 0 s.nb ≤ s.out.length → ((cpy lim (s.least + bV l 0 s.nb) s.len s.out).2 = true → item lim s l = .ok { s with out := (cpy lim (s.least + bV l 0 s.nb) s.len s.out).1, now := 7 } s.nb) ∧
        ((cpy lim (s.least + bV l 0 s.nb) s.len s.out).2 = false → item lim s l = .bad 9 (cpy lim (s.least + bV l 0 s.nb) s.len s.out).1))) := by
  have hi : item lim s l = itFar lim s l := by unfold item; rw [h10]; rfl
  rw [hi]
  unfold itFar
  refine ⟨fun h => by rw [if_pos h], fun h => ⟨fun h1 => by rw [if_neg (by omega), if_pos h1], fun h1 => ⟨fun h2 => ?_, fun h2 => ?_⟩⟩⟩
  · rw [if_neg (by omega), if_neg (by omega), if_pos h2]
  · rw [if_neg (by omega), if_neg (by omega), if_neg (by rw [h2]; decide)]
/-- A copy, byte by byte, as the run tells it. -/
theorem cpy_step (lim dist k : Nat) (out : List Int) (hd : dist ≤ out.length) (limI : Int) (hl : limI.toNat = lim) (hol : out.length ≤ lim) :
    ((tlR limI 0 out (out[out.length - dist]?.getD 0)).2 = 0 → cpy lim dist (k + 1) out = cpy lim dist k (tlR limI 0 out (out[out.length - dist]?.getD 0)).1 ∧ dist ≤ (tlR limI 0 out (out[out.length - dist]?.getD 0)).1.length ∧ (tlR limI 0 out (out[out.length - dist]?.getD 0)).1.length ≤ lim) ∧
    ((tlR limI 0 out (out[out.length - dist]?.getD 0)).2 ≠ 0 → cpy lim dist (k + 1) out = (out, false) ∧ tlR limI 0 out (out[out.length - dist]?.getD 0) = (out, 9)) := by
  unfold tlR
  rw [if_neg (by decide)]
  by_cases hf : limI ≤ (out.length : Int)
  · rw [if_pos hf]
    have he : out.length = lim := by have := (lim_iff limI out.length).1 hf; omega
    exact ⟨(fun e => by cases e), fun _ => ⟨by rw [cpy, if_pos he], rfl⟩⟩
  · rw [if_neg hf]
    have he : out.length < lim := by have := fun h => hf ((lim_iff limI out.length).2 h); omega
    refine ⟨fun _ => ⟨by rw [cpy, if_neg (by omega)], ?_, ?_⟩, fun e => absurd rfl e⟩
    · simp only [List.length_append, List.length_singleton]; omega
    · simp only [List.length_append, List.length_singleton]; omega
end
end Go.Proofs.YtloagniacjfkfaaGreatDoor
/- A copy's length, distance and bytes: the run beside the machine, without a program. -/
namespace Go.Proofs.YtloagniacjfkfaaGreatDoor
open Go.RowKit
section
variable {limN : Nat} {s s2 : St} {l B2 out : List Int} {ns2 : List Nat} {last : Bool}
theorem tkR_small {E : Int} {B : List Int} {n k : Nat} (hb : Bit B) (hn : n ≤ k) : ∃ X : Nat, (tkR E B n).1 = (X : Int) ∧ X < 2 ^ k := by
  unfold tkR
  have hp : 0 < 2 ^ k := Nat.pow_pos (by decide)
  split
  · exact ⟨0, rfl, hp⟩
  · split
    · exact ⟨0, rfl, hp⟩
    · exact ⟨bV B 0 n, rfl, Nat.lt_of_lt_of_le (bV_small hb 0 n) (Nat.pow_le_pow_right (by decide) hn)⟩
theorem tkR_bits {E : Int} {B : List Int} {n : Nat} (hb : Bit B) : Bit (tkR E B n).2.1 ∧ (tkR E B n).2.1.length ≤ B.length := by
  unfold tkR
  split
  · exact ⟨hb, Nat.le_refl _⟩
  · split
    · exact ⟨hb, Nat.le_refl _⟩
    · exact ⟨hb.drop n, by show (B.drop n).length ≤ _; rw [List.length_drop]; omega⟩
theorem nxR_bits {E : Int} {ns : List Nat} {B : List Int} (hb : Bit B) : Bit (nxR E ns B).2.1 ∧ (nxR E ns B).2.1.length ≤ B.length := by
  unfold nxR
  split
  · exact ⟨hb, Nat.le_refl _⟩
  · exact ⟨hb.drop _, by show (B.drop _).length ≤ _; rw [List.length_drop]; omega⟩
theorem dist_bound : ∀ t, t < 30 → (sprd t 2).1 + 1 ≤ 32768 ∧ (sprd t 2).2 ≤ 13 := by decide
/-- The length's bits and the distance's symbol. -/
theorem len_dist (hs : Sub limN s l s2 B2) (h8 : s2.now = 8) (hda : s2.da = some ns2) (ho : s2.out = out) {o1 o2 : Int × List Int × Int} {E5 : Int} (h1 : tkR 0 B2 s2.nb = o1) (h2 : nxR o1.2.2 ns2 o1.2.1 = o2) (h3 : flE o2.2.2 (decide (29 < o2.1)) 6 = E5) :
    (E5 ≠ 0 → ∀ B, Says limN s l last E5 out B) ∧ (E5 = 0 → ∃ t : Nat, o2.1 = (t : Int) ∧ t < 30 ∧ Sub limN s l { s2 with len := s2.least + o1.1.toNat, least := (sprd t 2).1 + 1, nb := (sprd t 2).2, now := 10 } o2.2.1) := by
  subst ho
  have hi := item_len (lim := limN) h8 B2
  by_cases hsh : B2.length < s2.nb
  · have e1 : o1 = (0, B2, 2) := by rw [← h1]; unfold tkR; rw [if_neg (by decide), if_pos hsh]
    subst e1
    have e2 : o2 = (0, B2, 2) := by rw [← h2]; unfold nxR; rw [if_pos (by simp)]
    subst e2
    have e3 : E5 = 2 := by rw [← h3]; rfl
    subst e3
    exact ⟨fun _ B => hs.short (by omega) (hi.1 hsh) rfl, (fun e => by cases e)⟩
  · have e1 : o1 = ((bV B2 0 s2.nb : Int), B2.drop s2.nb, 0) := by rw [← h1]; unfold tkR; rw [if_neg (by decide), if_neg hsh]
    subst e1
    have hs3 := hs.ok (by omega) (hi.2 (by omega))
    have hj := item_dist (lim := limN) (s := { s2 with len := s2.least + bV B2 0 s2.nb, now := 9 }) rfl hda (B2.drop s2.nb)
    have hnn := nxL_nonneg ns2 (B2.drop s2.nb)
    have e2 : o2 = ((nxL ns2 (B2.drop s2.nb)).1, (B2.drop s2.nb).drop (nxL ns2 (B2.drop s2.nb)).2.2, (nxL ns2 (B2.drop s2.nb)).2.1) := by rw [← h2]; unfold nxR; rw [if_neg (by simp)]
    subst e2
    simp only at h3
    generalize nxL ns2 (B2.drop s2.nb) = T at hj hnn h3
    obtain ⟨S, er, n⟩ := T
    simp only at hj hnn h3 ⊢
    by_cases her : er = 0
    · subst her
      by_cases h30 : 30 ≤ S
      · have e5 : E5 = 6 := by rw [← h3]; unfold flE; rw [if_pos ⟨rfl, by simp; omega⟩]
        subst e5
        refine ⟨fun _ B => ?_, (fun e => by cases e)⟩
        have := (hj.2.2 rfl).1 h30
        exact hs3.bad (by show 9 ≤ 10; decide) this (by decide) (by decide)
      · have e5 : E5 = 0 := by rw [← h3]; unfold flE; rw [if_neg (by simp; omega)]
        subst e5
        refine ⟨fun e => absurd rfl e, fun _ => ⟨S.toNat, by omega, by omega, ?_⟩⟩
        have := (hj.2.2 rfl).2 (by omega)
        have := hs3.ok (by show 9 ≤ 10; decide) this
        exact this
    · have e5 : er = E5 := by rw [← h3]; unfold flE; rw [if_neg (fun h => her h.1)]
      subst e5
      refine ⟨fun _ B => ?_, fun e => absurd e her⟩
      by_cases h2 : er = 2
      · subst h2
        exact hs3.short (by show 9 ≤ 10; decide) (hj.1 rfl) rfl
      · have := hj.2.1 h2 her
        exact hs3.bad (by show 9 ≤ 10; decide) this her h2
/-- The distance's bits, and the copy. -/
theorem far_copy (hs : Sub limN s l s2 B2) (h10 : s2.now = 10) (ho : s2.out = out) {o : Int × List Int × Int} {E7 : Int} {far : Nat} (h1 : tkR 0 B2 s2.nb = o) (hf : (s2.least : Int) + o.1 = (far : Int)) (h3 : flE o.2.2 (decide (out.length < far)) 7 = E7) :
    (E7 ≠ 0 → ∀ B, Says limN s l last E7 out B) ∧ (E7 = 0 → far ≤ out.length ∧ ∀ out2, (cpy limN far s2.len out = (out2, true) → Sub limN s l { s2 with out := out2, now := 7 } o.2.1) ∧ (cpy limN far s2.len out = (out2, false) → ∀ B, Says limN s l last 9 out2 B)) := by
  have hi := item_far (lim := limN) h10 B2
  by_cases hsh : B2.length < s2.nb
  · have e1 : o = (0, B2, 2) := by rw [← h1]; unfold tkR; rw [if_neg (by decide), if_pos hsh]
    subst e1
    have e3 : E7 = 2 := by rw [← h3]; unfold flE; rw [if_neg (fun h => by cases h.1)]
    subst e3
    exact ⟨fun _ B => hs.short (by omega) (hi.1 hsh) ho, (fun e => by cases e)⟩
  · have e1 : o = ((bV B2 0 s2.nb : Int), B2.drop s2.nb, 0) := by rw [← h1]; unfold tkR; rw [if_neg (by decide), if_neg hsh]
    subst e1
    have hj := hi.2 (by omega)
    have ef : s2.least + bV B2 0 s2.nb = far := by simp only at hf; omega
    rw [ef, ho] at hj
    by_cases hlt : out.length < far
    · have e5 : E7 = 7 := by rw [← h3]; unfold flE; rw [if_pos ⟨rfl, by simp; omega⟩]
      subst e5
      exact ⟨fun _ B => hs.bad (by omega) (hj.1 hlt) (by decide) (by decide), (fun e => by cases e)⟩
    · have e5 : E7 = 0 := by rw [← h3]; unfold flE; rw [if_neg (by simp; omega)]
      subst e5
      refine ⟨fun e => absurd rfl e, fun _ => ⟨by omega, fun out2 => ⟨fun hc => ?_, fun hc B => ?_⟩⟩⟩
      · have := (hj.2 (by omega)).1 (by rw [hc])
        rw [hc] at this
        exact hs.ok (by omega) this
      · have := (hj.2 (by omega)).2 (by rw [hc])
        rw [hc] at this
        exact hs.bad (by omega) this (by decide) (by decide)
end
end Go.Proofs.YtloagniacjfkfaaGreatDoor
