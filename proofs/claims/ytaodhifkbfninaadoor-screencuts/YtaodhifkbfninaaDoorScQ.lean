/- What a beginning tells, more bytes leave as it is, but that it is too short: no program in it. -/
import Derived.Test.YtaodhifkbfninaaDoorScP
namespace Go.Proofs.YtaodhifkbfninaaDoor
open Go.RowKit
/-- The same, with q more bytes; or too short. -/
def Ex (q : List Int) (a b : St) : Prop := (∃ z, a = .ok z ∧ b = .ok (z ++ q)) ∨ (∃ e, e ≠ 2 ∧ a = .error e ∧ b = .error e) ∨ a = .error 2
theorem Ex.step {q : List Int} {a b : St} (h : Ex q a b) (n : Nat) : Ex q (bS n a) (bS n b) ∧ (bS n a = .error 2 ∨ bL n a = bL n b) := by
  rcases h with ⟨z, rfl, rfl⟩ | ⟨e, he, rfl, rfl⟩ | rfl
  · by_cases hl : z.length < n
    · exact ⟨.inr (.inr (bS_short hl)), .inl (bS_short hl)⟩
    · have hl2 : ¬ (z ++ q).length < n := by rw [List.length_append]; omega
      rw [bS_more hl, bS_more hl2, bL_more hl, bL_more hl2]
      have h1 : (z ++ q).drop n = z.drop n ++ q := by rw [List.drop_append_of_le_length (by omega)]
      have h2 : (z ++ q).take n = z.take n := by rw [List.take_append_of_le_length (by omega)]
      exact ⟨.inl ⟨_, rfl, by rw [h1]⟩, .inr h2.symm⟩
  · exact ⟨.inr (.inl ⟨e, he, rfl, rfl⟩), .inr rfl⟩
  · exact ⟨.inr (.inr rfl), .inl rfl⟩
theorem Ex.fail {q : List Int} {a b : St} (h : Ex q a b) (x : Int) (hx : x ≠ 2) : Ex q (fS x a) (fS x b) := by
  rcases h with ⟨z, rfl, rfl⟩ | ⟨e, he, rfl, rfl⟩ | rfl
  · exact .inr (.inl ⟨x, hx, rfl, rfl⟩)
  · exact .inr (.inl ⟨e, he, rfl, rfl⟩)
  · exact .inr (.inr rfl)
theorem bS_two (n : Nat) : bS n (.error 2) = .error 2 := rfl
theorem Ex.nm {q : List Int} {a b : St} (h : Ex q a b) (k : Int) : Ex q (nm1 k a) (nm1 k b) := by
  have ⟨h1, h2⟩ := h.step 1
  unfold nm1
  rcases h2 with e | e
  · have : (if b1 a = k then bS 1 a else fS 3 (bS 1 a)) = .error 2 := by rw [e]; split <;> rfl
    exact .inr (.inr this)
  · have eb : b1 a = b1 b := by unfold b1; rw [e]
    rw [← eb]
    split
    · exact h1
    · exact h1.fail 3 (by omega)
theorem Ex.name {q : List Int} {a b : St} (h : Ex q a b) : ∀ k, Ex q (nmAt a k) (nmAt b k)
  | 0 => h
  | k + 1 => (h.name k).nm _
theorem Ex.sides {q : List Int} {a b : St} (h : Ex q a b) : Ex q (sdS a) (sdS b) ∧ (sdS a = .error 2 ∨ sdV a = sdV b) := by
  obtain ⟨h1, e1⟩ := h.step 2
  obtain ⟨h2, e2⟩ := h1.step 2
  obtain ⟨h3, e3⟩ := h2.step 1
  obtain ⟨h4, e4⟩ := h3.step 2
  by_cases hA : sdA a = .error 2
  · have hB : sdB a = .error 2 := by unfold sdB; rw [hA]; split <;> rfl
    have hS : sdS a = .error 2 := by unfold sdS; rw [hB]; split <;> rfl
    exact ⟨.inr (.inr hS), .inl hS⟩
  · have n3 : bS 1 (bS 2 (bS 2 a)) ≠ .error 2 := fun e => hA (by unfold sdA; rw [e]; rfl)
    have n2 : bS 2 (bS 2 a) ≠ .error 2 := fun e => n3 (by rw [e]; rfl)
    have n1 : bS 2 a ≠ .error 2 := fun e => n2 (by rw [e]; rfl)
    have v1 : l2 a = l2 b := by unfold l2; rw [e1.resolve_left n1]
    have v2 : sdH a = sdH b := by unfold sdH l2; rw [e2.resolve_left n2]
    have v3 : sdM a = sdM b := by unfold sdM b1; rw [e3.resolve_left n3]
    have hB : Ex q (sdB a) (sdB b) := by
      unfold sdB
      rw [← v1, ← v2]
      split
      · exact h4
      · exact h4.fail 11 (by omega)
    obtain ⟨h5, e5⟩ := hB.step (tbN (sdM a))
    have hS : Ex q (sdS a) (sdS b) := by
      unfold sdS
      rw [← v3]
      split
      · exact h5
      · exact hB
    refine ⟨hS, ?_⟩
    by_cases hm : 128 ≤ sdM a
    · rcases e5 with e | e
      · exact .inl (by unfold sdS; rw [if_pos hm]; exact e)
      · refine .inr ?_
        unfold sdV sdT
        rw [← v1, ← v2, ← v3, if_pos hm, if_pos hm, e]
    · refine .inr ?_
      unfold sdV sdT
      rw [← v1, ← v2, ← v3, if_neg hm, if_neg hm]
theorem Ex.blocks {q : List Int} {a b : St} (h : Ex q a b) : Ex q (bkS a) (bkS b) ∧ (bkS a = .error 2 ∨ (bkT a = bkT b ∧ bkN a = bkN b)) := by
  rcases h with ⟨z, rfl, rfl⟩ | ⟨e, he, rfl, rfl⟩ | rfl
  · by_cases hd : (bgo bs0 z).2.done = true
    · have e1 : bkS (.ok z) = .ok (bgo bs0 z).2.rest := if_pos hd
      have e2 : bgo bs0 (z ++ q) = ((bgo bs0 z).1, { (bgo bs0 z).2 with rest := (bgo bs0 z).2.rest ++ q }) := by
        rw [bgo_append, bgo_done hd]; simp
      have e3 : bkS (.ok (z ++ q)) = .ok ((bgo bs0 z).2.rest ++ q) := by
        show (if (bgo bs0 (z ++ q)).2.done = true then Except.ok (bgo bs0 (z ++ q)).2.rest else .error 2) = _
        rw [e2, if_pos hd]
      refine ⟨.inl ⟨_, e1, e3⟩, .inr ⟨?_, ?_⟩⟩
      · show (bgo bs0 z).1 = (bgo bs0 (z ++ q)).1; rw [e2]
      · show (bgo bs0 z).2.seen = (bgo bs0 (z ++ q)).2.seen; rw [e2]
    · have e1 : bkS (.ok z) = .error 2 := if_neg hd
      exact ⟨.inr (.inr e1), .inl e1⟩
  · exact ⟨.inr (.inl ⟨e, he, rfl, rfl⟩), .inr ⟨rfl, rfl⟩⟩
  · exact ⟨.inr (.inr rfl), .inl rfl⟩
theorem Ex.ext {q : List Int} {a b : St} (h : Ex q a b) (C : Int) : Ex q (exS a) (exS b) ∧ (exS a = .error 2 ∨ exC C a = exC C b) := by
  obtain ⟨h1, e1⟩ := h.step 1
  obtain ⟨h2, e2⟩ := h1.blocks
  by_cases hA : bkS (bS 1 a) = .error 2
  · have hS : exS a = .error 2 := by
      unfold exS
      split
      · rw [hA]; rfl
      · exact hA
    exact ⟨.inr (.inr hS), .inl hS⟩
  · have n1 : bS 1 a ≠ .error 2 := fun e => hA (by rw [e]; rfl)
    have v1 : b1 a = b1 b := by unfold b1; rw [e1.resolve_left n1]
    obtain ⟨v2, v3⟩ := e2.resolve_left hA
    have v4 : stE (bkS (bS 1 a)) = stE (bkS (bS 1 b)) := by
      rcases h2 with ⟨z, q1, q2⟩ | ⟨e, _, q1, q2⟩ | q1
      · rw [q1, q2]; rfl
      · rw [q1, q2]
      · exact absurd q1 hA
    have hY : exY a ↔ exY b := by unfold exY; rw [v1, v4]
    have hG : exG a ↔ exG b := by unfold exG; rw [v2, v3]
    refine ⟨?_, .inr ?_⟩
    · unfold exS
      by_cases hc : exY a ∧ ¬ exG a
      · rw [if_pos hc, if_pos ⟨hY.1 hc.1, fun g => hc.2 (hG.2 g)⟩]; exact h2.fail 3 (by omega)
      · rw [if_neg hc, if_neg (fun g => hc ⟨hY.2 g.1, fun k => g.2 (hG.1 k)⟩)]; exact h2
    · unfold exC
      by_cases hc : exY a ∧ exG a
      · rw [if_pos hc, v2, if_pos (show exY b ∧ exG b from ⟨hY.1 hc.1, hG.1 hc.2⟩)]
      · rw [if_neg hc, if_neg (fun g => hc ⟨hY.2 g.1, hG.2 g.2⟩)]
theorem Ex.pic {q : List Int} {a b : St} (h : Ex q a b) (s : Scr) : Ex q (pcS s a) (pcS s b) ∧ (pcS s a = .error 2 ∨ pcV s a = pcV s b) := by
  obtain ⟨h1, e1⟩ := h.step 2
  obtain ⟨h2, e2⟩ := h1.step 2
  obtain ⟨h3, e3⟩ := h2.step 2
  obtain ⟨h4, e4⟩ := h3.step 2
  obtain ⟨h5, e5⟩ := h4.step 1
  by_cases hA : bS 1 (pc8 a) = .error 2
  · have hB : pcA s a = .error 2 := by
      unfold pcA; rw [hA]
      split
      · split <;> rfl
      · rfl
    have hC : pcB s a = .error 2 := by unfold pcB; rw [hB]; split <;> rfl
    have hS : pcS s a = .error 2 := by unfold pcS; rw [hC]; split <;> rfl
    exact ⟨.inr (.inr hS), .inl hS⟩
  · have n4 : pc8 a ≠ .error 2 := fun e => hA (by rw [e]; rfl)
    have n3 : bS 2 (bS 2 (bS 2 a)) ≠ .error 2 := fun e => n4 (by unfold pc8; rw [e]; rfl)
    have n2 : bS 2 (bS 2 a) ≠ .error 2 := fun e => n3 (by rw [e]; rfl)
    have n1 : bS 2 a ≠ .error 2 := fun e => n2 (by rw [e]; rfl)
    have v1 : l2 a = l2 b := by unfold l2; rw [e1.resolve_left n1]
    have v2 : l2 (bS 2 a) = l2 (bS 2 b) := by unfold l2; rw [e2.resolve_left n2]
    have v3 : l2 (bS 2 (bS 2 a)) = l2 (bS 2 (bS 2 b)) := by unfold l2; rw [e3.resolve_left n3]
    have v4 : l2 (bS 2 (bS 2 (bS 2 a))) = l2 (bS 2 (bS 2 (bS 2 b))) := by unfold l2; rw [e4.resolve_left n4]
    have v5 : pcM a = pcM b := by
      have := e5.resolve_left hA
      unfold pcM b1 pc8; rw [this]
    have hO : pcOk s.W s.H a ↔ pcOk s.W s.H b := by unfold pcOk; rw [v1, v2, v3, v4]
    have h5' : Ex q (bS 1 (pc8 a)) (bS 1 (pc8 b)) := h5
    have hB : Ex q (pcA s a) (pcA s b) := by
      unfold pcA
      rw [← v5]
      by_cases hc : pcOk s.W s.H a
      · rw [if_pos hc, if_pos (hO.1 hc)]
        split
        · exact h5'.fail 12 (by omega)
        · exact h5'
      · rw [if_neg hc, if_neg (fun g => hc (hO.2 g))]; exact h5'.fail 11 (by omega)
    obtain ⟨h6, e6⟩ := hB.step (tbN (pcM a))
    have hC : Ex q (pcB s a) (pcB s b) := by
      unfold pcB
      rw [← v5]
      split
      · exact h6
      · exact hB
    obtain ⟨h7, e7⟩ := hC.step 1
    by_cases hD : bS 1 (pcB s a) = .error 2
    · have hS : pcS s a = .error 2 := by unfold pcS; rw [hD]; split <;> rfl
      exact ⟨.inr (.inr hS), .inl hS⟩
    · have v6 : b1 (pcB s a) = b1 (pcB s b) := by unfold b1; rw [e7.resolve_left hD]
      have hE : pcB s a ≠ .error 2 := fun e => hD (by rw [e]; rfl)
      refine ⟨?_, .inr ?_⟩
      · unfold pcS
        rw [← v6]
        split
        · exact h7
        · exact h7.fail 3 (by omega)
      · unfold pcV pcT
        rw [← v5, ← v6]
        by_cases hm : 128 ≤ pcM a
        · have e8 : bL (tbN (pcM a)) (pcA s a) = bL (tbN (pcM a)) (pcA s b) := e6.resolve_left (fun e => hE (by unfold pcB; rw [if_pos hm]; exact e))
          rw [if_pos hm, if_pos hm, e8]
        · rw [if_neg hm, if_neg hm]
def ER (q : List Int) (x y : Except Int (Scr × List Int)) : Prop := (∀ s r, x = .ok (s, r) → y = .ok (s, r ++ q)) ∧ (∀ e, e ≠ 2 → x = .error e → y = .error e)
theorem ER.two (q : List Int) (y : Except Int (Scr × List Int)) : ER q (.error 2) y := ⟨(fun s r h => by cases h), (fun e he h => by cases h; exact absurd rfl he)⟩
theorem ER.shut {q : List Int} {a b : St} {s t : Scr} (h : Ex q a b) (hs : a = .error 2 ∨ s = t) : ER q (shut s a) (shut t b) := by
  rcases h with ⟨z, rfl, rfl⟩ | ⟨e, he, rfl, rfl⟩ | rfl
  · obtain rfl : s = t := by rcases hs with h | h; cases h; exact h
    exact ⟨fun s' r h => by cases h; rfl, fun e he h => by cases h⟩
  · exact ⟨(fun s' r h => by cases h), (fun e' he' h => h)⟩
  · exact ER.two _ _
theorem Ex.rest {q : List Int} : ∀ (f f' : Nat) (s t : Scr) (a b : St), Ex q a b → (a = .error 2 ∨ s = t) → (stZ a).length < f → (stZ b).length < f' → ER q (gRest f s a) (gRest f' t b)
  | 0, _, _, _, _, _, _, _, h, _ => by omega
  | _ + 1, 0, _, _, _, _, _, _, _, h => by omega
  | f + 1, f' + 1, s, t, a, b, h, hst, hf, hf' => by
    obtain ⟨h1, e1⟩ := h.step 1
    by_cases hA : bS 1 a = .error 2
    · have hb : b1 a = 0 := by
        cases a with
        | ok z =>
          cases z with
          | nil => exact b1_nil
          | cons x r => rw [bS1_ok] at hA; cases hA
        | error e => exact b1_err e
      rw [gRest_no (by omega) (by omega) (by omega), hA]
      exact ER.two _ _
    · have hn : a ≠ .error 2 := fun e => hA (by rw [e]; rfl)
      obtain rfl := hst.resolve_left hn
      have v : b1 a = b1 b := by unfold b1; rw [e1.resolve_left hA]
      by_cases h33 : b1 a = 33
      · rw [gRest_33 h33, gRest_33 (v ▸ h33)]
        obtain ⟨h2, e2⟩ := h1.ext s.C
        obtain ⟨r, q1, q2⟩ := b1_pos (st := a) (by omega)
        obtain ⟨r', q3, q4⟩ := b1_pos (st := b) (by omega)
        have l1 : (stZ a).length = r.length + 1 := congrArg (fun s => (stZ s).length) q1
        have l2 : (stZ (bS 1 a)).length = r.length := congrArg (fun s => (stZ s).length) q2
        have l3 : (stZ b).length = r'.length + 1 := congrArg (fun s => (stZ s).length) q3
        have l4 : (stZ (bS 1 b)).length = r'.length := congrArg (fun s => (stZ s).length) q4
        have l5 := exS_len (bS 1 a)
        have l6 := exS_len (bS 1 b)
        refine Ex.rest f f' _ _ _ _ h2 ?_ (by omega) (by omega)
        rcases e2 with e | e
        · exact .inl e
        · exact .inr (by rw [e])
      · by_cases h44 : b1 a = 44
        · rw [gRest_44 h44, gRest_44 (v ▸ h44)]
          obtain ⟨h2, e2⟩ := h1.pic s
          exact ER.shut h2 e2
        · by_cases h59 : b1 a = 59
          · rw [gRest_59 h59, gRest_59 (v ▸ h59)]
            exact ER.shut (h1.fail 16 (by omega)) (.inr rfl)
          · rw [gRest_no h33 h44 h59, gRest_no (v ▸ h33) (v ▸ h44) (v ▸ h59)]
            exact ER.shut (h1.fail 3 (by omega)) (.inr rfl)
theorem gAll_more (p q : List Int) : ER q (gAll p) (gAll (p ++ q)) := by
  have h0 : Ex q (.ok p) (.ok (p ++ q)) := .inl ⟨p, rfl, rfl⟩
  have h1 := h0.name 6
  obtain ⟨h2, e2⟩ := h1.sides
  refine Ex.rest _ _ _ _ _ _ h2 e2 ?_ ?_
  · have := sdS_len (nmAt (.ok p) 6); have := nmAt_len (.ok p) 6; simp only [stZ] at *; omega
  · have := sdS_len (nmAt (.ok (p ++ q)) 6); have := nmAt_len (.ok (p ++ q)) 6; simp only [stZ] at *; omega
/-- No beginning of what is one is one. -/
theorem cut_short {l : List Int} {s : Scr} (h : gAll l = .ok (s, [])) {n : Nat} (hn : n < l.length) : gAll (l.take n) = .error 2 := by
  have h1 := gAll_more (l.take n) (l.drop n)
  rw [List.take_append_drop, h] at h1
  cases hx : gAll (l.take n) with
  | ok x =>
    obtain ⟨s', r⟩ := x
    have := h1.1 s' r hx
    simp only [Except.ok.injEq, Prod.mk.injEq] at this
    have h2 := congrArg List.length this.2
    rw [List.length_append, List.length_drop] at h2
    simp at h2
    omega
  | error e =>
    by_cases he : e = 2
    · rw [he]
    · have := h1.2 e he hx
      cases this
end Go.Proofs.YtaodhifkbfninaaDoor
