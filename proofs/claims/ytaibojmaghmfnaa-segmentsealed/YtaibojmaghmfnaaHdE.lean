/- octets' cursor over bytes in memory (the walks of Cur and Cur2, over Bas's Row). -/
import Derived.Test.YtaibojmaghmfnaaOcB
import Derived.Laws.AppendOwnNone
namespace Go.Proofs.Ytaibojmaghmfnaa
open Go.RowKit
theorem grownBy_refl (w : World) (r : Option Nat) : w.grownBy w r := ⟨rfl, rfl, rfl, Nat.le_refl _, fun _ _ _ => rfl⟩
theorem grownBy_trans {a b c : World} {r : Option Nat} (h : a.grownBy b r) (k : b.grownBy c r) : a.grownBy c r :=
  ⟨k.os.trans h.os, k.tape.trans h.tape, k.output.trans h.output, Nat.le_trans h.size k.size, fun j hj hr => (k.block j (Nat.lt_of_lt_of_le hj h.size) hr).trans (h.block j hj hr)⟩
theorem grownBy_set (w : World) (c i : Nat) (u : Value) : w.grownBy (w.setCell ⟨c, i, none⟩ u) (some c) :=
  ⟨rfl, rfl, rfl, by simp [World.setCell], fun k _ hk => Below.heap_setCell w _ u k (fun e => hk (by rw [e]))⟩
theorem grownBy_of_below {w w' : World} (h : Below w.heap.size w w') (r : Option Nat) : w.grownBy w' r := ⟨h.os, h.tape, h.output, h.size, fun k hk _ => h.block k hk⟩
/-- A row read behind changes of one block that is not its own. -/
theorem Row.grown {w w' : World} {a : Option Addr} {zs : List Int} {c : Nat} (h : Row w a zs) (hg : w.grownBy w' (some c)) (hne : ∀ x, a = some x → zs ≠ [] → x.block ≠ c) : Row w' a zs := by
  rcases h with h | ⟨b, off, rfl, hc⟩
  · exact .inl h
  · by_cases hz : zs = []
    · exact .inl hz
    · refine .inr ⟨b, off, rfl, fun i hi => hg.cell (hc i hi) ?_⟩
      intro e
      exact hne _ rfl hz (by simpa using e)
/-- A row of bytes doesn't lie in a block that begins with a slice and an int. -/
theorem Row.ne {w : World} {a : Option Addr} {zs : List Int} (h : Row w a zs) {c : Nat} {s : Option Addr} {n m : Nat} {q : Int} {t : TypeId} (hc : w.heap[c]? = some (.cells #[.slice s n m, .int .i64 q] t (0, 0))) : ∀ x, a = some x → zs ≠ [] → x.block ≠ c := by
  intro x hx hz
  rcases h with h | ⟨b, off, rfl, hr⟩
  · exact absurd h hz
  · simp at hx; subst hx
    rintro rfl
    have h0 := hr 0 (List.length_pos_iff.2 hz)
    simp only [World.cell?, hc] at h0
    match off, h0 with
    | 0, h0 => simp at h0
    | 1, h0 => simp at h0
    | k + 2, h0 => simp at h0
/-- THE CURSOR at block c: its bytes that are left, its error. -/
def Cur (w : World) (c U : Nat) (zs : List Int) (err : Int) : Prop :=
  ∃ a cap, w.heap[c]? = some (.cells #[.slice a zs.length cap, .int .i64 err] 81 (0, 0)) ∧ zs.length ≤ cap ∧ cap ≤ maxLen ∧ Row w a zs ∧ ∀ x, a = some x → zs ≠ [] → x.block < U
theorem Cur.grown {w w' : World} {c d U : Nat} {zs : List Int} {err : Int} (h : Cur w c U zs err) (hg : w.grownBy w' (some d)) (hne : c ≠ d) (hd : U ≤ d) : Cur w' c U zs err := by
  obtain ⟨a, cap, hh, h1, h2, hr, hu⟩ := h
  exact ⟨a, cap, (hg.block c (lt_of_block hh) (fun e => hne (by simpa using e))).trans hh, h1, h2, hr.grown hg (fun x hx hz => by have := hu x hx hz; omega), hu⟩
theorem Cur.below {w w' : World} {c U : Nat} {zs : List Int} {err : Int} (h : Cur w c U zs err) (hb : Below w.heap.size w w') : Cur w' c U zs err := by
  obtain ⟨a, cap, hh, h1, h2, hr, hu⟩ := h
  exact ⟨a, cap, (hb.block c (lt_of_block hh)).trans hh, h1, h2, hr.old hb, hu⟩
theorem Cur.lt {w : World} {c U : Nat} {zs : List Int} {err : Int} (h : Cur w c U zs err) : c < w.heap.size := by
  obtain ⟨a, cap, hh, _⟩ := h
  exact lt_of_block hh
theorem row_of_owns {w : World} {base e : Nat} {v : Value} {n : Nat} {zs : List Int} (h : w.ownsRow base e 1 v n (vals zs)) : ∃ a cap, v = .slice a n cap ∧ zs.length = n ∧ n ≤ cap ∧ cap ≤ maxLen ∧ Row w a zs := by
  have hl : zs.length = n := by have := h.1; simpa [vals] using this
  rcases h.2 with ⟨rfl, hn⟩ | ⟨g, cap, cur, rfl, hb, hg, hc, hm, hs, ht⟩
  · subst hn
    exact ⟨none, 0, rfl, hl, Nat.le_refl _, by unfold maxLen; omega, .inl (List.length_eq_zero_iff.1 hl)⟩
  · refine ⟨some ⟨g, 0, none⟩, cap, rfl, hl, hc, hm, .inr ⟨g, 0, rfl, fun i hi => ?_⟩⟩
    have := World.ownsRow.cellAt h (0 + i) (by omega)
    rw [this]
    simp [vals, hi]
theorem owns_own {w : World} {base e : Nat} {v : Value} {n : Nat} {xs : List Value} (h : w.ownsRow base e 1 v n xs) {a : Option Addr} {cap : Nat} (hv : v = .slice a n cap) : ∀ x, a = some x → base ≤ x.block := by
  intro x hx
  subst hv hx
  exact (h.lt x.block rfl).1
def NewCur (w : World) (zs : List Int) (e : Ending) (w' : World) : Prop :=
  ∃ c, e = .returned (.pointer (some ⟨c, 0, none⟩)) ∧ w.heap.size ≤ c ∧ Below w.heap.size w w' ∧ ∃ a cap, w'.heap[c]? = some (.cells #[.slice a zs.length cap, .int .i64 0] 81 (0, 0)) ∧ zs.length ≤ cap ∧ cap ≤ maxLen ∧ Row w' a zs ∧ (∀ x, a = some x → w.heap.size ≤ x.block)
set_option maxHeartbeats 800000 in
theorem new_any (a : Option Addr) (n cap : Nat) (zs : List Int) (w : World) (hn : zs.length = n) (hnil : a = none → cap = 0) (hl : n ≤ 140737488351232) (hr : Row w a zs) :
    Calls Try.prog 48 #[.slice a n cap] w fun e w' => NewCur w zs e w' := by
  have HN : Hid (zs.length = n) := hn
  have HR : Hid (Row w a zs) := hr
  clear hr
  obtain ⟨i0, hi, hz0, hz1, hz2⟩ := info_parts Try.info5
  cases a with
  | none =>
    have hcap := hnil rfl
    rcases HR.out with rfl | ⟨b, off, h, _⟩
    · simp at hn
      subst hn hcap
      clear hnil
      go_enter Try.func48, Try.ntmps48
      go_wp2
      go_ret
      unfold NewCur
      exact ⟨w.heap.size, rfl, Nat.le_refl _, (Below.refl _ _).alloc (Nat.le_refl _) _, none, 0, heap_alloc_new _ _, Nat.le_refl _, by unfold maxLen; omega, .inl rfl, fun x hx => by cases hx⟩
    · cases h
  | some x =>
    clear hnil hn
    go_enter Try.func48, Try.ntmps48
    go_wp2_with (at_builtin; refine wpList_append_own _ rfl _ _ 24 rfl w.heap.size 5 i0 (.int .u8 0) 1 1 Try.underlying24 hi hz0 hz1 hz2 rfl (by decide) _ _ _ rfl (World.ownsRow_nil _ _ _ _) x n cap (vals zs) rfl ?c0 ?c1 ?c2 ?c3 ?c4 ?c5 ?_)
    case c0 => have := HN.out; simp [vals]; omega
    case c1 => exact news_row HR.out
    case c2 => exact vals_one zs
    case c3 => unfold maxLen; omega
    case c4 => omega
    case c5 => exact Nat.le_refl _
    intro v' w1 hown hgrow _
    obtain ⟨a', cap', hv, hl', h1, h2, h3⟩ := row_of_owns hown
    have hblk := owns_own hown hv
    have hsz := hgrow.size
    have hbel : Below w.heap.size w w1 := (Below.refl _ _).grown hgrow (Nat.le_refl _) (fun k hk => by cases hk)
    clear hown hgrow hl'
    rw [hv]
    clear hv
    go_wp2
    go_ret
    unfold NewCur
    have hn := HN.out
    subst hn
    exact ⟨w1.heap.size, rfl, hsz, hbel.alloc hsz _, a', cap', heap_alloc_new _ _, h1, h2, h3.old ((Below.refl _ _).alloc (Nat.le_refl _) _), hblk⟩
def failZ (zs : List Int) (err e : Int) : List Int := if err ≠ 0 ∨ e = 0 then zs else []
def failE (err e : Int) : Int := if err ≠ 0 ∨ e = 0 then err else e
set_option maxHeartbeats 400000 in
theorem left_any (c U : Nat) (zs : List Int) (err : Int) (w : World) (h : Cur w c U zs err) :
    Calls Try.prog 51 #[.pointer (some ⟨c, 0, none⟩)] w fun e w' => e = .returned (.int .i64 zs.length) ∧ w' = w := by
  obtain ⟨a, cap, hh, h1, h2, hr, _⟩ := h
  obtain ⟨q0, q1, _, _⟩ := two_cells hh
  clear hr hh
  unfold maxLen at h2
  go_enter Try.func51, Try.ntmps51
  go_wp2
  go_ret
  exact ⟨rfl, rfl⟩
set_option maxHeartbeats 400000 in
theorem err_any (c U : Nat) (zs : List Int) (err : Int) (w : World) (h : Cur w c U zs err) :
    Calls Try.prog 50 #[.pointer (some ⟨c, 0, none⟩)] w fun e w' => e = .returned (.int .i64 err) ∧ w' = w := by
  obtain ⟨a, cap, hh, h1, h2, hr, _⟩ := h
  obtain ⟨q0, q1, _, _⟩ := two_cells hh
  clear hr hh h1 h2
  go_enter Try.func50, Try.ntmps50
  go_wp2
  go_ret
  exact ⟨rfl, rfl⟩
def FailPost (w : World) (c U : Nat) (zs : List Int) (err : Int) (e : Ending) (w' : World) : Prop := e = .returned (.tuple #[]) ∧ Cur w' c U zs err ∧ w.grownBy w' (some c)
set_option maxHeartbeats 800000 in
theorem fail_any (c U : Nat) (zs : List Int) (err : Int) (x : Int) (w : World) (h : Cur w c U zs err) :
    Calls Try.prog 82 #[.pointer (some ⟨c, 0, none⟩), .int .i64 x] w fun e w' => FailPost w c U (failZ zs err x) (failE err x) e w' := by
  have E := err_any c U zs err w h
  have HC : Hid (Cur w c U zs err) := h
  clear h
  by_cases h1 : err = 0
  · by_cases h2 : x = 0
    · have e1 : failZ zs err x = zs := if_pos (.inr h2)
      have e2 : failE err x = err := if_pos (.inr h2)
      rw [e1, e2]
      subst h1 h2
      clear e1 e2
      go_enter Try.func82, Try.ntmps82
      go_wp2_with (go_at_call 50; refine E.mono ?_; rintro e w' ⟨rfl, rfl⟩; clear E)
      go_end0
      exact ⟨rfl, HC.out, grownBy_refl _ _⟩
    · have e1 : failZ zs err x = [] := if_neg (by omega)
      have e2 : failE err x = x := if_neg (by omega)
      rw [e1, e2]
      subst h1
      clear e1 e2
      have hx : (x == 0) = false := by simpa using h2
      obtain ⟨a, cap, hh, g1, g2, hr, _⟩ := HC.out
      obtain ⟨q0, q1, f0, f1⟩ := two_cells hh
      have HH : Hid _ := hh
      clear hh hr g1 g2 h2
      go_enter Try.func82, Try.ntmps82
      go_wp2_with (go_at_call 50; refine E.mono ?_; rintro e w' ⟨rfl, rfl⟩; clear E)
      go_end0
      exact ⟨rfl, ⟨none, 0, two_set0 (two_set1 HH.out), Nat.le_refl _, by unfold maxLen; omega, .inl rfl, fun x hx => by cases hx⟩, grownBy_trans (grownBy_set _ _ _ _) (grownBy_set _ _ _ _)⟩
  · have e1 : failZ zs err x = zs := if_pos (.inl h1)
    have e2 : failE err x = err := if_pos (.inl h1)
    rw [e1, e2]
    clear e1 e2
    have h3 : (err != 0) = true := by simpa using h1
    clear h1
    go_enter Try.func82, Try.ntmps82
    go_wp2_with (go_at_call 50; refine E.mono ?_; rintro e w' ⟨rfl, rfl⟩; clear E)
    go_end0
    exact ⟨rfl, HC.out, grownBy_refl _ _⟩
/-- What 'next' and 'number' come to: bytes that lie in memory, and the cursor behind them. -/
def NextPost (w : World) (c U : Nat) (l zs : List Int) (err : Int) (e : Ending) (w' : World) : Prop :=
  ∃ a cap, e = .returned (.slice a l.length cap) ∧ l.length ≤ cap ∧ cap ≤ maxLen ∧ (a = none → cap = 0) ∧ Row w' a l ∧ Cur w' c U zs err ∧ w.grownBy w' (some c)
def nextL (zs : List Int) (n : Int) : List Int := if zs.length < n then [] else zs.take n.toNat
def nextZ (zs : List Int) (err n : Int) : List Int := if zs.length < n then failZ zs err 2 else zs.drop n.toNat
def nextE (zs : List Int) (err n : Int) : Int := if zs.length < n then failE err 2 else err
theorem row_take {w : World} {b off : Nat} {zs : List Int} (h : ∀ i, i < zs.length → w.cell? ⟨b, off + i, none⟩ = some (.int .u8 (zs[i]?.getD 0))) (n : Nat) : Row w (some ⟨b, off, none⟩) (zs.take n) := by
  refine .inr ⟨b, off, rfl, fun i hi => ?_⟩
  rw [List.length_take] at hi
  have h1 : i < n := by omega
  rw [h i (by omega)]
  simp [h1]
theorem row_drop {w : World} {b off : Nat} {zs : List Int} (h : ∀ i, i < zs.length → w.cell? ⟨b, off + i, none⟩ = some (.int .u8 (zs[i]?.getD 0))) (n : Nat) (a : Option Addr) (ha : n < zs.length → a = some ⟨b, off + n, none⟩) : Row w a (zs.drop n) := by
  by_cases hn : n < zs.length
  · refine .inr ⟨b, off + n, ha hn, fun i hi => ?_⟩
    simp at hi
    rw [Nat.add_assoc, h (n + i) (by omega)]
    simp
  · exact .inl (List.drop_of_length_le (by omega))
theorem next_fin {w : World} {c U : Nat} {zs : List Int} {err : Int} {b off cap n : Nat} (HH : w.heap[c]? = some (.cells #[.slice (some ⟨b, off, none⟩) zs.length cap, .int .i64 err] 81 (0, 0)))
    (hr : ∀ i, i < zs.length → w.cell? ⟨b, off + i, none⟩ = some (.int .u8 (zs[i]?.getD 0))) (hnl : n ≤ zs.length) (hlc : zs.length ≤ cap) (hm : cap ≤ maxLen)
    (a2 : Option Addr) (m2 cap2 : Nat) (hmm : m2 = zs.length - n) (ha2 : n < zs.length → a2 = some ⟨b, off + n, none⟩) (hu : zs ≠ [] → b < U) (hub : ∀ x, a2 = some x → x.block = b) (hc2 : zs.length - n ≤ cap2) (hm2 : cap2 ≤ maxLen) :
    NextPost w c U (zs.take n) (zs.drop n) err (.returned (.slice (some ⟨b, off, none⟩) n cap)) (w.setCell ⟨c, 0, none⟩ (.slice a2 m2 cap2)) := by
  subst hmm
  have hg := grownBy_set w c 0 (.slice a2 (zs.length - n) cap2)
  have R1 := row_take hr n
  have R2 := row_drop hr n a2 ha2
  have hlen : (zs.take n).length = n := by simp; omega
  refine ⟨some ⟨b, off, none⟩, cap, by rw [hlen], by omega, hm, (by intro h; cases h), R1.grown hg (R1.ne HH), ⟨a2, cap2, ?_, by simpa using hc2, hm2, R2.grown hg (R2.ne HH), fun x hx hz => by rw [hub x hx]; exact hu (fun h => hz (by rw [h]; simp))⟩, hg⟩
  rw [List.length_drop]
  exact two_set0 HH
set_option maxHeartbeats 800000 in
theorem next_any (c U : Nat) (zs : List Int) (err n : Int) (w : World) (h : Cur w c U zs err) (hn : 0 ≤ n) :
    Calls Try.prog 83 #[.pointer (some ⟨c, 0, none⟩), .int .i64 n] w fun e w' => NextPost w c U (nextL zs n) (nextZ zs err n) (nextE zs err n) e w' := by
  have E := left_any c U zs err w h
  have HC : Hid (Cur w c U zs err) := h
  have F := fail_any c U zs err 2 w h
  clear h
  by_cases h1 : (zs.length : Int) < n
  · have e1 : nextL zs n = [] := if_pos h1
    have e2 : nextZ zs err n = failZ zs err 2 := if_pos h1
    have e3 : nextE zs err n = failE err 2 := if_pos h1
    rw [e1, e2, e3]
    clear e1 e2 e3
    go_enter Try.func83, Try.ntmps83
    go_wp2_with (first | (go_at_call 51; refine E.mono ?_; rintro e w' ⟨rfl, rfl⟩; clear E) | (go_at_call 82; refine F.mono ?_; rintro e w' ⟨rfl, hc, hg⟩))
    go_ret
    unfold NextPost
    exact ⟨none, 0, rfl, Nat.le_refl _, by unfold maxLen; omega, fun _ => rfl, .inl rfl, hc, hg⟩
  · have e1 : nextL zs n = zs.take n.toNat := if_neg h1
    have e2 : nextZ zs err n = zs.drop n.toNat := if_neg h1
    have e3 : nextE zs err n = err := if_neg h1
    rw [e1, e2, e3]
    clear e1 e2 e3 F
    obtain ⟨n, rfl⟩ := Int.eq_ofNat_of_zero_le hn
    rw [Int.toNat_natCast]
    by_cases h2 : n = 0
    · subst h2
      go_enter Try.func83, Try.ntmps83
      go_wp2_with (go_at_call 51; refine E.mono ?_; rintro e w' ⟨rfl, rfl⟩; clear E)
      go_ret
      exact (show NextPost _ _ _ _ _ _ _ _ by unfold NextPost; exact ⟨none, 0, rfl, Nat.le_refl _, by unfold maxLen; omega, fun _ => rfl, .inl rfl, HC.out, grownBy_refl _ _⟩)
    · obtain ⟨a, cap, hh, g1, g2, hr, hu⟩ := HC.out
      obtain ⟨q0, q1, f0, f1⟩ := two_cells hh
      have HH : Hid _ := hh
      have h3 : ((n : Int) == 0) = false := by simp; omega
      have HL : Hid (n ≤ zs.length) := (by omega : n ≤ zs.length)
      rcases hr with h | ⟨b, off, rfl, hrow⟩
      · rw [h] at h1; simp at h1; omega
      · have HO : Hid _ := hrow
        have HU : Hid (zs ≠ [] → b < U) := hu _ rfl
        clear hu
        have hnc : n ≤ cap := by omega
        have hn0 : 0 < n := by omega
        unfold maxLen at g2
        clear hh hrow h2
        by_cases hcn : cap = n
        · subst hcn
          go_enter Try.func83, Try.ntmps83
          go_wp2_with (go_at_call 51; refine E.mono ?_; rintro e w' ⟨rfl, rfl⟩; clear E)
          go_ret
          refine next_fin HH.out HO.out HL.out g1 (by unfold maxLen; exact g2) _ _ _ (by omega) ?_ HU.out (by intro x hx; cases hx; rfl) ?_ ?_
          · intro h; exfalso; omega
          · omega
          · unfold maxLen; omega
        · go_enter Try.func83, Try.ntmps83
          go_wp2_with (go_at_call 51; refine E.mono ?_; rintro e w' ⟨rfl, rfl⟩; clear E)
          go_ret
          refine next_fin HH.out HO.out HL.out g1 (by unfold maxLen; exact g2) _ _ _ (by omega) ?_ HU.out (by intro x hx; cases hx; rfl) ?_ ?_
          · intro h; rfl
          · omega
          · unfold maxLen; omega
def numL (zs : List Int) (n : Int) : List Int := if n < 1 ∨ 4 < n then [] else nextL zs n
def numZ (zs : List Int) (err n : Int) : List Int := if n < 1 ∨ 4 < n then failZ zs err 1 else nextZ zs err n
def numE (zs : List Int) (err n : Int) : Int := if n < 1 ∨ 4 < n then failE err 1 else nextE zs err n
theorem numL_len (zs : List Int) (n : Int) : (numL zs n).length ≤ 4 := by
  unfold numL
  by_cases h : n < 1 ∨ 4 < n
  · rw [if_pos h]; simp
  · rw [if_neg h]; unfold nextL
    by_cases h2 : (zs.length : Int) < n
    · rw [if_pos h2]; simp
    · rw [if_neg h2]; simp; omega
theorem numL_bytes {zs : List Int} (hb : Bytes zs) (n : Int) : Bytes (numL zs n) := by
  unfold numL nextL
  split
  · exact Bytes.nil
  · split
    · exact Bytes.nil
    · exact hb.take _
set_option maxHeartbeats 800000 in
theorem number_cur (c U : Nat) (zs : List Int) (err n : Int) (w : World) (h : Cur w c U zs err) :
    Calls Try.prog 81 #[.pointer (some ⟨c, 0, none⟩), .int .i64 n] w fun e w' => NextPost w c U (numL zs n) (numZ zs err n) (numE zs err n) e w' := by
  have F := fail_any c U zs err 1 w h
  by_cases h1 : n < 1 ∨ 4 < n
  · have e1 : numL zs n = [] := if_pos h1
    have e2 : numZ zs err n = failZ zs err 1 := if_pos h1
    have e3 : numE zs err n = failE err 1 := if_pos h1
    rw [e1, e2, e3]
    clear e1 e2 e3 h
    by_cases h2 : n < 1
    · clear h1
      go_enter Try.func81, Try.ntmps81
      go_wp2_with (go_at_call 82; refine F.mono ?_; rintro e w' ⟨rfl, hc, hg⟩)
      go_ret
      unfold NextPost
      exact ⟨none, 0, rfl, Nat.le_refl _, by unfold maxLen; omega, fun _ => rfl, .inl rfl, hc, hg⟩
    · have h3 : 4 < n := by omega
      clear h1
      go_enter Try.func81, Try.ntmps81
      go_wp2_with (go_at_call 82; refine F.mono ?_; rintro e w' ⟨rfl, hc, hg⟩)
      go_ret
      unfold NextPost
      exact ⟨none, 0, rfl, Nat.le_refl _, by unfold maxLen; omega, fun _ => rfl, .inl rfl, hc, hg⟩
  · have e1 : numL zs n = nextL zs n := if_neg h1
    have e2 : numZ zs err n = nextZ zs err n := if_neg h1
    have e3 : numE zs err n = nextE zs err n := if_neg h1
    rw [e1, e2, e3]
    clear e1 e2 e3 F
    have E := next_any c U zs err n w h (by omega)
    have h2 : 1 ≤ n := by omega
    have h3 : n ≤ 4 := by omega
    clear h h1
    generalize nextL zs n = l at *
    generalize nextZ zs err n = z at *
    generalize nextE zs err n = r at *
    go_enter Try.func81, Try.ntmps81
    go_wp2_with (go_at_call 83; refine E.mono ?_; rintro e w' ⟨a, cap, rfl, g1, g2, g3, g4, g5, g6⟩; clear E)
    go_ret
    unfold NextPost
    exact ⟨a, cap, rfl, g1, g2, g3, g4, g5, g6⟩
/-- What reading a number comes to. -/
def NumPost (w : World) (c U : Nat) (v : Int) (zs : List Int) (err : Int) (e : Ending) (w' : World) : Prop :=
  e = .returned (.int .i64 v) ∧ Cur w' c U zs err ∧ w.grownBy w' (some c)
set_option maxHeartbeats 800000 in
theorem cbig_any (c U : Nat) (zs : List Int) (err n : Int) (w : World) (h : Cur w c U zs err) (hb : Bytes zs) :
    Calls Try.prog 49 #[.pointer (some ⟨c, 0, none⟩), .int .i64 n] w fun e w' => NumPost w c U (bigN (numL zs n)) (numZ zs err n) (numE zs err n) e w' := by
  have E := number_cur c U zs err n w h
  have HB : Hid (Bytes (numL zs n) ∧ (numL zs n).length ≤ 4) := ⟨numL_bytes hb n, numL_len zs n⟩
  clear h hb
  generalize numL zs n = l at *
  generalize numZ zs err n = z at *
  generalize numE zs err n = r at *
  go_enter Try.func49, Try.ntmps49
  go_wp2_with fail
  refine E.mono ?_
  rintro e w' ⟨a, cap, rfl, g1, g2, g3, g4, g5, g6⟩
  go_wp2_with fail
  refine (big_any a l.length cap l _ rfl HB.out.2 HB.out.1 g4).mono ?_
  rintro e w1 ⟨rfl, rfl⟩
  go_wp2
  go_ret
  exact ⟨rfl, g5, g6⟩
theorem cbig_ok (c U : Nat) (zs : List Int) (n : Nat) (w : World) (h : Cur w c U zs 0) (hb : Bytes zs) (h1 : 1 ≤ n) (h4 : n ≤ 4) (hl : n ≤ zs.length) :
    Calls Try.prog 49 #[.pointer (some ⟨c, 0, none⟩), .int .i64 n] w fun e w' => NumPost w c U (bigN (zs.take n)) (zs.drop n) 0 e w' := by
  have e0 : ¬ ((n : Int) < 1 ∨ 4 < (n : Int)) := by omega
  have e1 : ¬ ((zs.length : Int) < (n : Int)) := by omega
  have h := cbig_any c U zs 0 n w h hb
  rw [numL, numZ, numE, if_neg e0, if_neg e0, if_neg e0, nextL, nextZ, nextE, if_neg e1, if_neg e1, if_neg e1, Int.toNat_natCast] at h
  exact h
end Go.Proofs.Ytaibojmaghmfnaa
