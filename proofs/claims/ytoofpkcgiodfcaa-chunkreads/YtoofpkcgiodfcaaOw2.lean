/- ChunkReads: a push, and what is told of it. -/
import Derived.Test.YtoofpkcgiodfcaaOw1
namespace Go.Proofs.Ytoofpkcgiodfcaa
open Go.RowKit
/-- What a push told, beside what the document reads in A. -/
def ChR (w : World) (p : Nat) (A : List Int) (G0 : List Sn) (T : List Pm) (er : Int) : Prop :=
  (er = 0 ∧ ∃ L now cur, CRd w p A L now cur ∧ gath G0 (T.map Pm.q) = some (L ++ here now cur)) ∨
  ((er = 3 ∨ er = 4 ∨ er = 9) ∧ CBad w p er ∧ ∃ W, ofAll A = (W, er) ∧ gath G0 (T.map Pm.q) = some W)
/-- Where the reader stands between two pushes. -/
def ChB (w : World) (p : Nat) (A : List Int) (G : List Sn) (bad : Bool) : Prop :=
  (bad = false ∧ ∃ L now cur, CRd w p A L now cur ∧ G = L ++ here now cur) ∨
  (bad = true ∧ ∃ er, (er = 3 ∨ er = 4 ∨ er = 9) ∧ CBad w p er ∧ ofAll A = (G, er))
theorem ChR.same {w w' : World} {p : Nat} {A : List Int} {G0 : List Sn} {T : List Pm} {er : Int} (h : ChR w p A G0 T er) (hs : w'.heap[p]? = w.heap[p]?) : ChR w' p A G0 T er := by
  rcases h with ⟨h0, L, now, cur, h1, h2⟩ | ⟨h0, h1, h2⟩
  · exact .inl ⟨h0, L, now, cur, h1.same hs, h2⟩
  · exact .inr ⟨h0, h1.same hs, h2⟩
theorem ChB.same {w w' : World} {p : Nat} {A : List Int} {G : List Sn} {bad : Bool} (h : ChB w p A G bad) (hs : w'.heap[p]? = w.heap[p]?) : ChB w' p A G bad := by
  rcases h with ⟨h0, L, now, cur, h1, h2⟩ | ⟨h0, er, h1, h2, h3⟩
  · exact .inl ⟨h0, L, now, cur, h1.same hs, h2⟩
  · exact .inr ⟨h0, er, h1, h2.same hs, h3⟩
/-- The document's error f, and what is gathered. -/
theorem ChR.says {w : World} {p : Nat} {A : List Int} {G0 : List Sn} {T : List Pm} {er : Int} (h : ChR w p A G0 T er) : ∃ G f, ofAll A = (G, f) ∧ gath G0 (T.map Pm.q) = some G ∧ ((er = 0 ∧ (f = 0 ∨ f = 2)) ∨ (er = f ∧ (f = 3 ∨ f = 4 ∨ f = 9))) ∧ (∀ w', w'.heap[p]? = w.heap[p]? → ChB w' p A G (decide (er ≠ 0))) ∧
    ∀ w', w'.heap[p]? = w.heap[p]? → Calls Try.prog 12 #[.pointer (some ⟨p, 0, none⟩)] w' fun e w2 => e = .returned (.bool (decide (f = 0))) ∧ w2 = w' := by
  rcases h with ⟨rfl, L, now, cur, h1, h2⟩ | ⟨h0, h1, W, h2, h3⟩
  · refine ⟨_, _, h1.2.1.say h1.1, h2, .inl ⟨rfl, ?_⟩, fun w' hw => .inl ⟨by simp, L, now, cur, h1.same hw, rfl⟩, fun w' hw => ?_⟩
    · split
      · exact .inl rfl
      · exact .inr rfl
    · refine (between_any (h1.same hw)).mono ?_
      rintro e w2 ⟨rfl, hw2⟩
      refine ⟨?_, hw2⟩
      by_cases hc : now = 1 ∧ cur = []
      · simp [hc]
      · simp [hc]
  · have hne : er ≠ 0 := by rcases h0 with h | h | h <;> omega
    refine ⟨W, er, h2, h3, .inr ⟨rfl, h0⟩, fun w' hw => .inr ⟨by simpa using hne, er, h0, h1.same hw, h2⟩, fun w' hw => ?_⟩
    refine (between_bad (h1.same hw) hne).mono ?_
    rintro e w2 ⟨rfl, hw2⟩
    exact ⟨by simp [hne], hw2⟩
/-- A push of the own bytes z. -/
theorem ChM.pushes {w : World} {p : Nat} {A : List Int} {S : List Sm} {z : List Int} {va v : Value} {ga go : Option Nat} {BT FL co : Nat} {ao : Option Addr} {wr : World} {bad : Bool} (h : ChM w p A S [] z va v (.slice none 0 0) (.slice ao FL co) ga go BT wr) (hb : ChB wr p A (S.map Sm.s) bad) (hz : Bytes z) (hzl : z.length = FL) (hzb : FL ≤ 600) :
    Calls Try.prog 10 #[.pointer (some ⟨p, 0, none⟩), .slice ao FL co] wr fun e w' => ∃ at' ct T er, e = .returned (.tuple #[.slice at' T.length ct, .int .i64 er]) ∧ ChM w p A S T z va v (.slice at' T.length ct) (.slice ao FL co) ga go wr.heap.size w' ∧ ChR w' p (if bad = true then A else A ++ z) (S.map Sm.s) T er ∧ (bad = true → T = []) ∧ T.length ≤ 601 := by
  rcases hb with ⟨rfl, L, now, cur, h1, h2⟩ | ⟨rfl, er, h0, h1, h2⟩
  · obtain ⟨a1, c1, hv, hl, hm, hn⟩ := h.so.shape
    rw [vals_len, hzl] at hv hl
    simp only [Value.slice.injEq] at hv
    obtain ⟨rfl, -, rfl⟩ := hv
    refine (push_any z hz ao FL co hzl (by omega) hl (by unfold maxLen at hm; omega) hn (h.so.row rfl) (fun x hx hne => ?_) h1).mono ?_
    · subst hx
      have e := h.so.dblk
      have := h.op x.block (by rw [e]; rfl)
      omega
    · rintro e w' ⟨vt, T, er, rfl, hpr, htok, hfr, htl, hen, hcase⟩
      obtain ⟨at', ct, rfl, _⟩ := hpr.shape
      refine ⟨at', ct, T, er, rfl, h.push hpr htok hfr, ?_, (by intro hh; cases hh), by omega⟩
      rw [if_neg (by decide), h2]
      exact hcase
  · have hne : er ≠ 0 := by rcases h0 with h | h | h <;> omega
    refine (push_bad (.slice ao FL co) h1 hne).mono ?_
    rintro e w' ⟨rfl, hw⟩
    rw [hw]
    refine ⟨none, 0, [], er, rfl, h.push (World.ownsRow_nil _ _ _ _) (by intro x hx; cases hx) ⟨rfl, rfl, rfl, Nat.le_refl _, fun _ _ _ _ => rfl⟩, ?_, fun _ => rfl, by simp⟩
    rw [if_pos rfl]
    exact .inr ⟨h0, h1.same rfl, _, h2, rfl⟩
end Go.Proofs.Ytoofpkcgiodfcaa
