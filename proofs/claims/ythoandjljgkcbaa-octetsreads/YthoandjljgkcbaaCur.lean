import Derived.Test.YthoandjljgkcbaaTwo
import Derived.Laws.AppendOwnNone
namespace Go.Proofs.Ythoandjljgkcbaa
open Go.RowKit

theorem two_cells {w : World} {c : Nat} {v0 v1 : Value} {t : TypeId} (h : w.heap[c]? = some (.cells #[v0, v1] t (0, 0))) :
    w.cell? ⟨c, 0, none⟩ = some v0 ∧ w.cell? ⟨c, 1, none⟩ = some v1 ∧ w.frozen? ⟨c, 0, none⟩ = false ∧ w.frozen? ⟨c, 1, none⟩ = false := by
  simp [World.cell?, World.frozen?, h]
theorem two_set0 {w : World} {c : Nat} {v0 v1 u : Value} {t : TypeId} (h : w.heap[c]? = some (.cells #[v0, v1] t (0, 0))) : (w.setCell ⟨c, 0, none⟩ u).heap[c]? = some (.cells #[u, v1] t (0, 0)) := by
  simp [World.setCell, Array.getElem?_modify, h]
theorem two_set1 {w : World} {c : Nat} {v0 v1 u : Value} {t : TypeId} (h : w.heap[c]? = some (.cells #[v0, v1] t (0, 0))) : (w.setCell ⟨c, 1, none⟩ u).heap[c]? = some (.cells #[v0, u] t (0, 0)) := by
  simp [World.setCell, Array.getElem?_modify, h]
theorem grownBy_refl (w : World) (r : Option Nat) : w.grownBy w r := ⟨rfl, rfl, rfl, Nat.le_refl _, fun _ _ _ => rfl⟩
theorem grownBy_trans {a b c : World} {r : Option Nat} (h : a.grownBy b r) (k : b.grownBy c r) : a.grownBy c r :=
  ⟨k.os.trans h.os, k.tape.trans h.tape, k.output.trans h.output, Nat.le_trans h.size k.size, fun j hj hr => (k.block j (Nat.lt_of_lt_of_le hj h.size) hr).trans (h.block j hj hr)⟩
theorem grownBy_set (w : World) (c i : Nat) (u : Value) : w.grownBy (w.setCell ⟨c, i, none⟩ u) (some c) :=
  ⟨rfl, rfl, rfl, by simp [World.setCell], fun k _ hk => Below.heap_setCell w _ u k (fun e => hk (by rw [e]))⟩
theorem grownBy_of_below {w w' : World} (h : Below w.heap.size w w') (r : Option Nat) : w.grownBy w' r := ⟨h.os, h.tape, h.output, h.size, fun k hk _ => h.block k hk⟩

/-- A row read behind changes of one block that is not its own. -/
theorem Row.grown {w w' : World} {a : Option Addr} {zs : List Int} {c : Nat} (h : Row w a zs) (hg : w.grownBy w' (some c)) (hne : ∀ x, a = some x → zs ≠ [] → x.block ≠ c) : Row w' a zs := by
  rcases h with h | ⟨b, off, rfl, hc⟩
  · exact .inl h
  · by_cases hz : zs = []
    · exact .inl hz
    · refine .inr ⟨b, off, rfl, fun i hi => hg.cell (hc i hi) ?_⟩
      intro e
      exact hne _ rfl hz (by simpa using e)
/-- A row of bytes doesn't lie in a block that begins with a slice and an int. -/
theorem Row.ne {w : World} {a : Option Addr} {zs : List Int} (h : Row w a zs) {c : Nat} {s : Option Addr} {n m : Nat} {q : Int} {t : TypeId} (hc : w.heap[c]? = some (.cells #[.slice s n m, .int .i64 q] t (0, 0))) : ∀ x, a = some x → zs ≠ [] → x.block ≠ c := by
  intro x hx hz
  rcases h with h | ⟨b, off, rfl, hr⟩
  · exact absurd h hz
  · simp at hx; subst hx
    rintro rfl
    have h0 := hr 0 (List.length_pos_iff.2 hz)
    simp only [World.cell?, hc] at h0
    match off, h0 with
    | 0, h0 => simp at h0
    | 1, h0 => simp at h0
    | k + 2, h0 => simp at h0

/-- THE CURSOR at block c: its bytes that are left, its error. -/
def Cur (w : World) (c U : Nat) (zs : List Int) (err : Int) : Prop :=
  ∃ a cap, w.heap[c]? = some (.cells #[.slice a zs.length cap, .int .i64 err] 54 (0, 0)) ∧ zs.length ≤ cap ∧ cap ≤ maxLen ∧ Row w a zs ∧ ∀ x, a = some x → zs ≠ [] → x.block < U
theorem Cur.grown {w w' : World} {c d U : Nat} {zs : List Int} {err : Int} (h : Cur w c U zs err) (hg : w.grownBy w' (some d)) (hne : c ≠ d) (hd : U ≤ d) : Cur w' c U zs err := by
  obtain ⟨a, cap, hh, h1, h2, hr, hu⟩ := h
  exact ⟨a, cap, (hg.block c (lt_of_block hh) (fun e => hne (by simpa using e))).trans hh, h1, h2, hr.grown hg (fun x hx hz => by have := hu x hx hz; omega), hu⟩
theorem Cur.below {w w' : World} {c U : Nat} {zs : List Int} {err : Int} (h : Cur w c U zs err) (hb : Below w.heap.size w w') : Cur w' c U zs err := by
  obtain ⟨a, cap, hh, h1, h2, hr, hu⟩ := h
  exact ⟨a, cap, (hb.block c (lt_of_block hh)).trans hh, h1, h2, hr.old hb, hu⟩
theorem Cur.lt {w : World} {c U : Nat} {zs : List Int} {err : Int} (h : Cur w c U zs err) : c < w.heap.size := by
  obtain ⟨a, cap, hh, _⟩ := h
  exact lt_of_block hh

theorem news_row {w : World} {x : Addr} {zs : List Int} (h : Row w (some x) zs) : ∀ j u, (vals zs)[j]? = some u → w.cell? (x.add j) = some u := by
  intro j u hj
  rcases h with rfl | ⟨b, off, hx, hc⟩
  · simp [vals] at hj
  · simp at hx
    subst hx
    simp only [vals, List.getElem?_map, Option.map_eq_some_iff] at hj
    obtain ⟨z, hz, rfl⟩ := hj
    have hlt : j < zs.length := by
      by_cases h : j < zs.length
      · exact h
      · rw [List.getElem?_eq_none (by omega)] at hz; cases hz
    have := hc j hlt
    rw [hz] at this
    cases j with
    | zero => simpa [Addr.add] using this
    | succ k => simpa [Addr.add] using this
theorem vals_one (zs : List Int) : ∀ u ∈ vals zs, u.oneCell' = true := by
  intro u hu
  simp only [vals, List.mem_map] at hu
  obtain ⟨z, _, rfl⟩ := hu
  rfl
theorem owns_own {w : World} {base e : Nat} {v : Value} {n : Nat} {xs : List Value} (h : w.ownsRow base e 1 v n xs) {a : Option Addr} {cap : Nat} (hv : v = .slice a n cap) : ∀ x, a = some x → base ≤ x.block := by
  intro x hx
  subst hv hx
  exact (h.lt x.block rfl).1

def NewCur (w : World) (zs : List Int) (e : Ending) (w' : World) : Prop :=
  ∃ c, e = .returned (.pointer (some ⟨c, 0, none⟩)) ∧ w.heap.size ≤ c ∧ Below w.heap.size w w' ∧ ∃ a cap, w'.heap[c]? = some (.cells #[.slice a zs.length cap, .int .i64 0] 54 (0, 0)) ∧ zs.length ≤ cap ∧ cap ≤ maxLen ∧ Row w' a zs ∧ (∀ x, a = some x → w.heap.size ≤ x.block)

set_option maxHeartbeats 800000 in
theorem new_any (a : Option Addr) (n cap : Nat) (zs : List Int) (w : World) (hn : zs.length = n) (hnil : a = none → cap = 0) (hl : n ≤ 140737488351232) (hr : Row w a zs) :
    Calls Try.prog 19 #[.slice a n cap] w fun e w' => NewCur w zs e w' := by
  have HN : Hid (zs.length = n) := hn
  have HR : Hid (Row w a zs) := hr
  clear hr
  obtain ⟨i0, hi, hz0, hz1, hz2⟩ := info_parts Try.info5
  cases a with
  | none =>
    have hcap := hnil rfl
    rcases HR.out with rfl | ⟨b, off, h, _⟩
    · simp at hn
      subst hn hcap
      clear hnil
      go_enter Try.func19, Try.ntmps19
      go_wp2
      go_ret
      unfold NewCur
      exact ⟨w.heap.size, rfl, Nat.le_refl _, (Below.refl _ _).alloc (Nat.le_refl _) _, none, 0, heap_alloc_new _ _, Nat.le_refl _, by unfold maxLen; omega, .inl rfl, fun x hx => by cases hx⟩
    · cases h
  | some x =>
    clear hnil hn
    go_enter Try.func19, Try.ntmps19
    go_wp2_with (at_builtin; refine wpList_append_own _ rfl _ _ 22 rfl w.heap.size 5 i0 (.int .u8 0) 1 1 Try.underlying22 hi hz0 hz1 hz2 rfl (by decide) _ _ _ rfl (World.ownsRow_nil _ _ _ _) x n cap (vals zs) rfl ?c0 ?c1 ?c2 ?c3 ?c4 ?c5 ?_)
    case c0 => have := HN.out; simp [vals]; omega
    case c1 => exact news_row HR.out
    case c2 => exact vals_one zs
    case c3 => unfold maxLen; omega
    case c4 => omega
    case c5 => exact Nat.le_refl _
    intro v' w1 hown hgrow _
    obtain ⟨a', cap', hv, hl', h1, h2, h3⟩ := row_of_owns hown
    have hblk := owns_own hown hv
    have hsz := hgrow.size
    have hbel : Below w.heap.size w w1 := (Below.refl _ _).grown hgrow (Nat.le_refl _) (fun k hk => by cases hk)
    clear hown hgrow hl'
    rw [hv]
    clear hv
    go_wp2
    go_ret
    unfold NewCur
    have hn := HN.out
    subst hn
    exact ⟨w1.heap.size, rfl, hsz, hbel.alloc hsz _, a', cap', heap_alloc_new _ _, h1, h2, h3.old ((Below.refl _ _).alloc (Nat.le_refl _) _), hblk⟩

def failZ (zs : List Int) (err e : Int) : List Int := if err ≠ 0 ∨ e = 0 then zs else []
def failE (err e : Int) : Int := if err ≠ 0 ∨ e = 0 then err else e

set_option maxHeartbeats 400000 in
theorem left_any (c U : Nat) (zs : List Int) (err : Int) (w : World) (h : Cur w c U zs err) :
    Calls Try.prog 29 #[.pointer (some ⟨c, 0, none⟩)] w fun e w' => e = .returned (.int .i64 zs.length) ∧ w' = w := by
  obtain ⟨a, cap, hh, h1, h2, hr, _⟩ := h
  obtain ⟨q0, q1, _, _⟩ := two_cells hh
  clear hr hh
  unfold maxLen at h2
  go_enter Try.func29, Try.ntmps29
  go_wp2
  go_ret
  exact ⟨rfl, rfl⟩

set_option maxHeartbeats 400000 in
theorem err_any (c U : Nat) (zs : List Int) (err : Int) (w : World) (h : Cur w c U zs err) :
    Calls Try.prog 28 #[.pointer (some ⟨c, 0, none⟩)] w fun e w' => e = .returned (.int .i64 err) ∧ w' = w := by
  obtain ⟨a, cap, hh, h1, h2, hr, _⟩ := h
  obtain ⟨q0, q1, _, _⟩ := two_cells hh
  clear hr hh h1 h2
  go_enter Try.func28, Try.ntmps28
  go_wp2
  go_ret
  exact ⟨rfl, rfl⟩

def FailPost (w : World) (c U : Nat) (zs : List Int) (err : Int) (e : Ending) (w' : World) : Prop := e = .returned (.tuple #[]) ∧ Cur w' c U zs err ∧ w.grownBy w' (some c)

set_option maxHeartbeats 800000 in
theorem fail_any (c U : Nat) (zs : List Int) (err : Int) (x : Int) (w : World) (h : Cur w c U zs err) :
    Calls Try.prog 26 #[.pointer (some ⟨c, 0, none⟩), .int .i64 x] w fun e w' => FailPost w c U (failZ zs err x) (failE err x) e w' := by
  have E := err_any c U zs err w h
  have HC : Hid (Cur w c U zs err) := h
  clear h
  by_cases h1 : err = 0
  · by_cases h2 : x = 0
    · have e1 : failZ zs err x = zs := if_pos (.inr h2)
      have e2 : failE err x = err := if_pos (.inr h2)
      rw [e1, e2]
      subst h1 h2
      clear e1 e2
      go_enter Try.func26, Try.ntmps26
      go_wp2_with (go_at_call 28; refine E.mono ?_; rintro e w' ⟨rfl, rfl⟩; clear E)
      go_end0
      exact ⟨rfl, HC.out, grownBy_refl _ _⟩
    · have e1 : failZ zs err x = [] := if_neg (by omega)
      have e2 : failE err x = x := if_neg (by omega)
      rw [e1, e2]
      subst h1
      clear e1 e2
      have hx : (x == 0) = false := by simpa using h2
      obtain ⟨a, cap, hh, g1, g2, hr, _⟩ := HC.out
      obtain ⟨q0, q1, f0, f1⟩ := two_cells hh
      have HH : Hid _ := hh
      clear hh hr g1 g2 h2
      go_enter Try.func26, Try.ntmps26
      go_wp2_with (go_at_call 28; refine E.mono ?_; rintro e w' ⟨rfl, rfl⟩; clear E)
      go_end0
      exact ⟨rfl, ⟨none, 0, two_set0 (two_set1 HH.out), Nat.le_refl _, by unfold maxLen; omega, .inl rfl, fun x hx => by cases hx⟩, grownBy_trans (grownBy_set _ _ _ _) (grownBy_set _ _ _ _)⟩
  · have e1 : failZ zs err x = zs := if_pos (.inl h1)
    have e2 : failE err x = err := if_pos (.inl h1)
    rw [e1, e2]
    clear e1 e2
    have h3 : (err != 0) = true := by simpa using h1
    clear h1
    go_enter Try.func26, Try.ntmps26
    go_wp2_with (go_at_call 28; refine E.mono ?_; rintro e w' ⟨rfl, rfl⟩; clear E)
    go_end0
    exact ⟨rfl, HC.out, grownBy_refl _ _⟩
end Go.Proofs.Ythoandjljgkcbaa
