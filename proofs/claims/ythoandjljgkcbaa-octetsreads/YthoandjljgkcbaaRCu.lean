import Derived.Test.YthoandjljgkcbaaWhole
namespace Go.Proofs.Ythoandjljgkcbaa
open Go.RowKit

/-- The document's cursor at block c. -/
def RCur (w : World) (c : Nat) (zs : List Int) (err : Int) : Prop :=
  ∃ a cap, w.heap[c]? = some (.cells #[.slice a zs.length cap, .int .i64 err] 38 (0, 0)) ∧ zs.length ≤ cap ∧ cap ≤ maxLen ∧ (a = none → cap = 0) ∧ Row w a zs
theorem RCur.grown {w w' : World} {c d : Nat} {zs : List Int} {err : Int} {s : Option Addr} {n m : Nat} {q : Int} {t : TypeId} (h : RCur w c zs err) (hg : w.grownBy w' (some d)) (hd : w.heap[d]? = some (.cells #[.slice s n m, .int .i64 q] t (0, 0))) (hne : c ≠ d) : RCur w' c zs err := by
  obtain ⟨a, cap, hh, h1, h2, h3, hr⟩ := h
  exact ⟨a, cap, (hg.block c (lt_of_block hh) (fun e => hne (by simpa using e))).trans hh, h1, h2, h3, hr.grown hg (hr.ne hd)⟩
theorem RCur.below {w w' : World} {c : Nat} {zs : List Int} {err : Int} (h : RCur w c zs err) (hb : Below w.heap.size w w') : RCur w' c zs err := by
  obtain ⟨a, cap, hh, h1, h2, h3, hr⟩ := h
  exact ⟨a, cap, (hb.block c (lt_of_block hh)).trans hh, h1, h2, h3, hr.old hb⟩
theorem RCur.lt {w : World} {c : Nat} {zs : List Int} {err : Int} (h : RCur w c zs err) : c < w.heap.size := by
  obtain ⟨a, cap, hh, _⟩ := h
  exact lt_of_block hh
def Inv (zs : List Int) (err : Int) : Prop := err ≠ 0 → zs = []
theorem inv_fail {zs : List Int} {err x : Int} (h : Inv zs err) : Inv (failZ zs err x) (failE err x) := by
  unfold failZ failE
  intro h2
  by_cases c : err ≠ 0 ∨ x = 0
  · rw [if_pos c] at h2 ⊢; exact h h2
  · rw [if_neg c]
theorem inv_next {zs : List Int} {err n : Int} (h : Inv zs err) : Inv (nextZ zs err n) (nextE zs err n) := by
  unfold nextZ nextE
  by_cases c : (zs.length : Int) < n
  · rw [if_pos c, if_pos c]; exact inv_fail h
  · rw [if_neg c, if_neg c]; intro h2; rw [h h2]; simp
theorem inv_num {zs : List Int} {err n : Int} (h : Inv zs err) : Inv (numZ zs err n) (numE zs err n) := by
  unfold numZ numE
  by_cases c : n < 1 ∨ 4 < n
  · rw [if_pos c, if_pos c]; exact inv_fail h
  · rw [if_neg c, if_neg c]; exact inv_next h
theorem inv_byt {zs : List Int} {err n : Int} (h : Inv zs err) : Inv (bytZ zs err n) (bytE zs err n) := by
  unfold bytZ bytE
  by_cases c : n < 0
  · rw [if_pos c, if_pos c]; exact inv_fail h
  · rw [if_neg c, if_neg c]; exact inv_next h
/-- A cursor that has failed stays as it is. -/
theorem byt_failed {zs : List Int} {err n : Int} (h : Inv zs err) (he : err ≠ 0) : bytL zs n = [] ∧ bytZ zs err n = zs ∧ bytE zs err n = err := by
  have hz := h he
  subst hz
  refine ⟨?_, ?_, ?_⟩
  · unfold bytL nextL; split
    · rfl
    · split <;> simp
  · unfold bytZ nextZ failZ; simp
  · unfold bytE nextE failE; simp [he]

def RFailPost (w : World) (c : Nat) (zs : List Int) (err : Int) (e : Ending) (w' : World) : Prop := e = .returned (.tuple #[]) ∧ RCur w' c zs err ∧ w.grownBy w' (some c)
set_option maxHeartbeats 800000 in
theorem rfail_any (c : Nat) (zs : List Int) (err : Int) (x : Int) (w : World) (h : RCur w c zs err) :
    Calls Try.prog 27 #[.pointer (some ⟨c, 0, none⟩), .int .i64 x] w fun e w' => RFailPost w c (failZ zs err x) (failE err x) e w' := by
  have HC : Hid (RCur w c zs err) := h
  obtain ⟨a, cap, hh, g1, g2, g3, hr⟩ := h
  obtain ⟨q0, q1, f0, f1⟩ := two_cells hh
  have HH : Hid (w.heap[c]? = some (.cells #[.slice a zs.length cap, .int .i64 err] 38 (0, 0))) := hh
  clear hh hr g1 g2 g3
  by_cases h1 : err = 0
  · by_cases h2 : x = 0
    · have e1 : failZ zs err x = zs := if_pos (.inr h2)
      have e2 : failE err x = err := if_pos (.inr h2)
      rw [e1, e2]
      subst h1 h2
      clear e1 e2
      go_enter Try.func27, Try.ntmps27
      go_wp2
      go_end0
      exact ⟨rfl, HC.out, grownBy_refl _ _⟩
    · have e1 : failZ zs err x = [] := if_neg (by omega)
      have e2 : failE err x = x := if_neg (by omega)
      rw [e1, e2]
      subst h1
      clear e1 e2
      have hx : (x != 0) = true := by simpa using h2
      clear h2
      go_enter Try.func27, Try.ntmps27
      go_wp2
      go_end0
      exact ⟨rfl, ⟨none, 0, two_set0 (two_set1 HH.out), Nat.le_refl _, by unfold maxLen; omega, fun _ => rfl, .inl rfl⟩, grownBy_trans (grownBy_set _ _ _ _) (grownBy_set _ _ _ _)⟩
  · have e1 : failZ zs err x = zs := if_pos (.inl h1)
    have e2 : failE err x = err := if_pos (.inl h1)
    rw [e1, e2]
    clear e1 e2
    have h3 : (err == 0) = false := by simpa using h1
    clear h1
    go_enter Try.func27, Try.ntmps27
    go_wp2
    go_end0
    exact ⟨rfl, HC.out, grownBy_refl _ _⟩

def RBytesPost (w : World) (c : Nat) (l zs : List Int) (err : Int) (e : Ending) (w' : World) : Prop :=
  ∃ a cap, e = .returned (.slice a l.length cap) ∧ Row w' a l ∧ RCur w' c zs err ∧ w.grownBy w' (some c)
theorem row_take' {w : World} {a : Option Addr} {l : List Int} (h : Row w a l) (k : Nat) : Row w a (l.take k) := by
  rcases h with rfl | ⟨b, off, rfl, hc⟩
  · exact .inl (by simp)
  · exact row_take hc k
theorem row_cut' {w : World} {a : Option Addr} {l : List Int} (h : Row w a l) (k cap : Nat) (hk : k ≤ l.length) (hc : l.length ≤ cap) : Row w (if cap = k then a else Option.map (fun x => x.add k) a) (l.drop k) := by
  by_cases hkl : k = l.length
  · exact .inl (by rw [hkl]; simp)
  · rcases h with rfl | ⟨b, off, rfl, hr⟩
    · simp at hk; exact absurd hk hkl
    · rw [if_neg (by omega)]
      exact row_drop hr k _ (fun _ => by simp [Addr.add_lit])

set_option maxHeartbeats 1600000 in
theorem rbytes_any (c : Nat) (zs : List Int) (err n : Int) (w : World) (h : RCur w c zs err) (hi : Inv zs err) (hl : zs.length ≤ 140737488351232) :
    Calls Try.prog 25 #[.pointer (some ⟨c, 0, none⟩), .int .i64 n] w fun e w' => RBytesPost w c (bytL zs n) (bytZ zs err n) (bytE zs err n) e w' := by
  have HC : Hid (RCur w c zs err) := h
  have F1 := rfail_any c zs err 1 w h
  have F2 := rfail_any c zs err 2 w h
  obtain ⟨a, cap, hh, g1, g2, g3, hr⟩ := h
  obtain ⟨q0, q1, f0, f1⟩ := two_cells hh
  have HH : Hid (w.heap[c]? = some (.cells #[.slice a zs.length cap, .int .i64 err] 38 (0, 0))) := hh
  have HR : Hid (Row w a zs) := hr
  clear hh hr
  by_cases h1 : err = 0
  · by_cases h2 : n < 0
    · have e1 : bytL zs n = [] := if_pos h2
      have e2 : bytZ zs err n = failZ zs err 1 := if_pos h2
      have e3 : bytE zs err n = failE err 1 := if_pos h2
      rw [e1, e2, e3]
      subst h1
      clear e1 e2 e3 F2
      go_enter Try.func25, Try.ntmps25
      go_wp2_with (go_at_call 27; refine F1.mono ?_; rintro e w' ⟨rfl, hc, hg⟩)
      go_ret
      unfold RBytesPost
      exact ⟨none, 0, rfl, .inl rfl, hc, hg⟩
    · by_cases h3 : (zs.length : Int) < n
      · have e1 : bytL zs n = [] := by unfold bytL nextL; rw [if_neg h2, if_pos h3]
        have e2 : bytZ zs err n = failZ zs err 2 := by unfold bytZ nextZ; rw [if_neg h2, if_pos h3]
        have e3 : bytE zs err n = failE err 2 := by unfold bytE nextE; rw [if_neg h2, if_pos h3]
        rw [e1, e2, e3]
        subst h1
        clear e1 e2 e3 F1
        go_enter Try.func25, Try.ntmps25
        go_wp2_with (go_at_call 27; refine F2.mono ?_; rintro e w' ⟨rfl, hc, hg⟩)
        go_ret
        unfold RBytesPost
        exact ⟨none, 0, rfl, .inl rfl, hc, hg⟩
      · obtain ⟨n, rfl⟩ := Int.eq_ofNat_of_zero_le (show 0 ≤ n by omega)
        have e1 : bytL zs n = zs.take n := by unfold bytL nextL; rw [if_neg h2, if_neg h3]; rfl
        have e2 : bytZ zs err n = zs.drop n := by unfold bytZ nextZ; rw [if_neg h2, if_neg h3]; rfl
        have e3 : bytE zs err n = err := by unfold bytE nextE; rw [if_neg h2, if_neg h3]
        rw [e1, e2, e3]
        subst h1
        clear e1 e2 e3 F1 F2
        have h4 : (n : Int) ≤ (zs.length : Int) := by omega
        have h5 : (n : Int) ≤ (cap : Int) := by omega
        unfold maxLen at g2
        have hcw : c < w.heap.size := lt_of_block HH.out
        go_enter Try.func25, Try.ntmps25
        go_wp2_with (at_builtin; refine wpList_append_row rfl _ _ rfl w.heap.size _ 0 [] rfl (World.ownsRow_lit w #[] 0 (Nat.le_refl _) (by unfold maxLen; omega) rfl) a n cap (zs.take n) rfl (by simp; omega) g3 ((row_take' HR.out n).old ((Below.refl _ _).alloc (Nat.le_refl _) _)) (by omega) (by simp) ?_)
        intro v' w1 hown hgrow
        have hb1 : Below w.heap.size w w1 := ((Below.refl _ _).alloc (Nat.le_refl _) _).grown hgrow (by simp) (fun k hk => by simp [Value.ownBlock] at hk; omega)
        have hown' : w1.ownsRow w.heap.size 5 1 v' n (vals (zs.take n)) := by simpa using hown
        obtain ⟨a1, c1, hv, hl1, k1, k2, k3⟩ := row_of_owns hown'
        rw [hv]
        have hh1 : w1.heap[c]? = some (.cells #[.slice a zs.length cap, .int .i64 0] 38 (0, 0)) := (hb1.block c hcw).trans HH.out
        have hr1 := HR.out.old hb1
        obtain ⟨p0, p1, e0, e1⟩ := two_cells hh1
        have HF : Hid (∀ (w2 : World) (a2 : Option Addr) (m2 c2 : Nat), w2 = w1.setCell ⟨c, 0, none⟩ (.slice a2 m2 c2) → m2 = zs.length - n → a2 = (if cap = n then a else Option.map (fun x => x.add n) a) → c2 = cap - n → RBytesPost w c (zs.take n) (zs.drop n) 0 (.returned (.slice a1 n c1)) w2) := by
          rintro w2 a2 m2 c2 rfl rfl rfl rfl
          have hg := grownBy_set w1 c 0 (.slice (if cap = n then a else Option.map (fun x => x.add n) a) (zs.length - n) (cap - n))
          have R2 := row_cut' hr1 n cap (by omega) g1
          refine ⟨a1, c1, by rw [hl1], k3.grown hg (k3.ne hh1), ⟨_, cap - n, ?_, by rw [List.length_drop]; omega, by unfold maxLen; omega, ?_, R2.grown hg (R2.ne hh1)⟩, grownBy_trans (grownBy_of_below hb1 _) hg⟩
          · rw [List.length_drop]; exact two_set0 hh1
          · intro e
            by_cases hc : cap = n
            · omega
            · rw [if_neg hc] at e
              cases a with
              | none => have := g3 rfl; omega
              | some y => simp at e
        clear hown hown' hgrow hv hl1 k1 k2 k3 hh1 hr1 hb1 q0 q1 f0 f1
        go_wp2
        all_goals
          go_ret
          refine HF.out _ _ _ _ rfl (by omega) ?_ (by omega)
          first | rfl | (simp; done) | (rw [if_pos (by assumption)]) | (rw [if_neg (by assumption)])
  · have hb := byt_failed (n := n) hi h1
    rw [hb.1, hb.2.1, hb.2.2]
    have h3 : (err != 0) = true := by simpa using h1
    clear h1 F1 F2
    go_enter Try.func25, Try.ntmps25
    go_wp2
    go_ret
    unfold RBytesPost
    exact ⟨none, 0, rfl, .inl rfl, HC.out, grownBy_refl _ _⟩
end Go.Proofs.Ythoandjljgkcbaa
