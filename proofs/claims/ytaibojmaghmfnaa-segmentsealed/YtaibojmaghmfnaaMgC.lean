/- A cursor that reads, or has failed: what each of its calls comes to. -/
import Derived.Test.YtaibojmaghmfnaaMgS
namespace Go.Proofs.Ytaibojmaghmfnaa
open Go.RowKit
/-- What is left of the bytes; or the error. -/
abbrev St := Except Int (List Int)
def stZ : St → List Int
  | .ok z => z
  | .error _ => []
def stE : St → Int
  | .ok _ => 0
  | .error e => e
def bS (n : Nat) : St → St
  | .ok z => if z.length < n then .error 2 else .ok (z.drop n)
  | .error e => .error e
def bL (n : Nat) : St → List Int
  | .ok z => if z.length < n then [] else z.take n
  | .error _ => []
def fS (x : Int) : St → St
  | .ok _ => .error x
  | .error e => .error e
def bN (n : Nat) (st : St) : Int := bigN (bL n st)
structure CS (w : World) (c U : Nat) (st : St) : Prop where
  cur : Cur w c U (stZ st) (stE st)
  byt : Bytes (stZ st)
  ln : (stZ st).length ≤ 140737488355328
  ne : ∀ e, st = .error e → e ≠ 0
  cu : c < U
theorem CS.lt {w : World} {c U : Nat} {st : St} (h : CS w c U st) : c < w.heap.size := h.cur.lt
theorem CS.grown {w w' : World} {c d U : Nat} {st : St} (h : CS w c U st) (hg : w.grownBy w' (some d)) (hd : U ≤ d) : CS w' c U st :=
  ⟨h.cur.grown hg (by have := h.cu; omega) hd, h.byt, h.ln, h.ne, h.cu⟩
theorem CS.old {w w' : World} {c U : Nat} {st : St} (h : CS w c U st) (hb : Below w.heap.size w w') : CS w' c U st := ⟨h.cur.below hb, h.byt, h.ln, h.ne, h.cu⟩
theorem bL_short {n : Nat} {z : List Int} (h : z.length < n) : bL n (.ok z) = [] := if_pos h
theorem bL_more {n : Nat} {z : List Int} (h : ¬ z.length < n) : bL n (.ok z) = z.take n := if_neg h
theorem bS_short {n : Nat} {z : List Int} (h : z.length < n) : bS n (.ok z) = .error 2 := if_pos h
theorem bS_more {n : Nat} {z : List Int} (h : ¬ z.length < n) : bS n (.ok z) = .ok (z.drop n) := if_neg h
theorem CS.bl {w : World} {c U : Nat} {st : St} (h : CS w c U st) (n : Nat) : Bytes (bL n st) := by
  have k := h.byt
  cases st with
  | ok z =>
    by_cases hn : z.length < n
    · rw [bL_short hn]; exact Bytes.nil
    · rw [bL_more hn]; exact Bytes.take k n
  | error e => exact Bytes.nil
theorem bL_len (n : Nat) (st : St) : (bL n st).length = n ∨ bL n st = [] := by
  cases st with
  | ok z =>
    by_cases h : z.length < n
    · exact .inr (bL_short h)
    · rw [bL_more h]; exact .inl (by rw [List.length_take]; omega)
  | error e => exact .inr rfl
theorem CS.bs {w w' : World} {c U : Nat} {st : St} (h : CS w c U st) (n : Nat) (hc : Cur w' c U (stZ (bS n st)) (stE (bS n st))) : CS w' c U (bS n st) := by
  have h1 := h.byt
  have h2 := h.ln
  have h3 := h.ne
  cases st with
  | ok z =>
    by_cases hn : z.length < n
    · rw [bS_short hn] at hc ⊢
      exact ⟨hc, Bytes.nil, by simp [stZ], (by intro e he; cases he; omega), h.cu⟩
    · rw [bS_more hn] at hc ⊢
      exact ⟨hc, Bytes.drop h1 n, by simp only [stZ, List.length_drop] at h2 ⊢; omega, (by intro e he; cases he), h.cu⟩
  | error e => exact ⟨hc, h1, h2, h3, h.cu⟩
theorem next_st {st : St} {n : Nat} (hn : 1 ≤ n) (hne : ∀ e, st = .error e → e ≠ 0) : nextL (stZ st) n = bL n st ∧ nextZ (stZ st) (stE st) n = stZ (bS n st) ∧ nextE (stZ st) (stE st) n = stE (bS n st) := by
  have a1 : ∀ (zs : List Int) (err n : Int), (zs.length : Int) < n → nextL zs n = [] ∧ nextZ zs err n = failZ zs err 2 ∧ nextE zs err n = failE err 2 := fun zs err n h => ⟨if_pos h, if_pos h, if_pos h⟩
  have a2 : ∀ (zs : List Int) (err n : Int), ¬ (zs.length : Int) < n → nextL zs n = zs.take n.toNat ∧ nextZ zs err n = zs.drop n.toNat ∧ nextE zs err n = err := fun zs err n h => ⟨if_neg h, if_neg h, if_neg h⟩
  cases st with
  | ok z =>
    by_cases h : z.length < n
    · obtain ⟨e1, e2, e3⟩ := a1 z 0 n (by omega)
      rw [bL_short h, bS_short h]
      exact ⟨e1, e2.trans (if_neg (by omega)), e3.trans (if_neg (by omega))⟩
    · obtain ⟨e1, e2, e3⟩ := a2 z 0 n (by omega)
      rw [bL_more h, bS_more h]
      rw [Int.toNat_natCast] at e1 e2
      exact ⟨e1, e2, e3⟩
  | error e =>
    have he := hne e rfl
    obtain ⟨e1, e2, e3⟩ := a1 [] e n (by simp; omega)
    exact ⟨e1, e2.trans (if_pos (.inl he)), e3.trans (if_pos (.inl he))⟩
theorem num_st {st : St} {n : Nat} (hn : 1 ≤ n) (h4 : n ≤ 4) (hne : ∀ e, st = .error e → e ≠ 0) : numL (stZ st) n = bL n st ∧ numZ (stZ st) (stE st) n = stZ (bS n st) ∧ numE (stZ st) (stE st) n = stE (bS n st) := by
  have e0 : ¬ ((n : Int) < 1 ∨ 4 < (n : Int)) := by omega
  unfold numL numZ numE
  rw [if_neg e0, if_neg e0, if_neg e0]
  exact next_st hn hne
section
variable {w : World} {c U : Nat} {st : St}
theorem CS.bigN (h : CS w c U st) (n : Nat) (h1 : 1 ≤ n) (h4 : n ≤ 4) : Calls Try.prog 49 #[.pointer (some ⟨c, 0, none⟩), .int .i64 n] w fun e w' => e = .returned (.int .i64 (bN n st)) ∧ CS w' c U (bS n st) ∧ w.grownBy w' (some c) := by
  have k := cbig_any c U (stZ st) (stE st) (n : Int) w h.cur h.byt
  obtain ⟨e1, e2, e3⟩ := num_st h1 h4 h.ne
  rw [e1, e2, e3] at k
  exact k.mono fun _ _ ⟨h1, h2, h3⟩ => ⟨h1, h.bs n h2, h3⟩
theorem CS.err (h : CS w c U st) : Calls Try.prog 50 #[.pointer (some ⟨c, 0, none⟩)] w fun e w' => e = .returned (.int .i64 (stE st)) ∧ w' = w := err_any c U _ _ w h.cur
theorem CS.left (h : CS w c U st) : Calls Try.prog 51 #[.pointer (some ⟨c, 0, none⟩)] w fun e w' => e = .returned (.int .i64 (stZ st).length) ∧ w' = w := left_any c U _ _ w h.cur
def CbPost (w : World) (c U : Nat) (l : List Int) (st : St) (e : Ending) (w' : World) : Prop := ∃ a cap g, e = .returned (.slice a l.length cap) ∧ Sl w' 5 (.slice a l.length cap) g (vals l) ∧ (∀ k, g = some k → w.heap.size ≤ k) ∧ l.length ≤ cap ∧ cap ≤ maxLen ∧ (a = none → cap = 0) ∧ CS w' c U st ∧ w.grownBy w' (some c)
theorem next_st0 {st : St} (n : Nat) (hne : ∀ e, st = .error e → e ≠ 0) : nextL (stZ st) n = bL n st ∧ nextZ (stZ st) (stE st) n = stZ (bS n st) ∧ nextE (stZ st) (stE st) n = stE (bS n st) := by
  by_cases hn : 1 ≤ n
  · exact next_st hn hne
  · obtain rfl : n = 0 := by omega
    have h0 : ∀ z : List Int, ¬ ((z.length : Int) < ((0 : Nat) : Int)) := by intro z; omega
    cases st with
    | ok z =>
      have h1 : ¬ z.length < 0 := by omega
      rw [bL_more h1, bS_more h1]
      exact ⟨if_neg (h0 _), if_neg (h0 _), if_neg (h0 _)⟩
    | error e => exact ⟨if_neg (h0 _), if_neg (h0 _), if_neg (h0 _)⟩
set_option maxHeartbeats 800000 in
theorem CS.bytes (h : CS w c U st) (n : Nat) (hn2 : n ≤ 1000000) : Calls Try.prog 69 #[.pointer (some ⟨c, 0, none⟩), .int .i64 n] w fun e w' => CbPost w c U (bL n st) (bS n st) e w' := by
  have E := next_any c U (stZ st) (stE st) n w h.cur (by omega)
  obtain ⟨e1, e2, e3⟩ := next_st0 n h.ne
  rw [e1, e2, e3] at E
  have HS : Hid (∀ w', Cur w' c U (stZ (bS n st)) (stE (bS n st)) → CS w' c U (bS n st)) := fun w' hc => h.bs n hc
  have HL : Hid ((bL n st).length ≤ 1000000) := by
    show _ ≤ _
    rcases bL_len n st with k | k
    · omega
    · rw [k]; simp
  generalize bL n st = l at *
  generalize bS n st = s at *
  clear h e1 e2 e3
  go_enter Try.func69, Try.ntmps69
  go_wp2_with (first
    | (go_at_call 83; refine E.mono ?_; rintro e w' ⟨a, cap, rfl, g1, g2, g3, g4, g5, g6⟩; clear E)
    | (at_builtin; refine wpList_more rfl _ _ rfl (.slice none 0 0) none [] rfl (Sl.nil _ _) a l.length cap l rfl g3 rfl g4 (by have := HL.out; simp; omega) ?_; intro v7 w7 g7 hs7 hg7 hgr7; obtain ⟨a7, c7, hv7, hl7, hm7, hn7⟩ := hs7.shape; rw [List.nil_append, vals_len] at hv7; subst hv7))
  go_ret
  unfold CbPost
  refine ⟨a7, c7, g7, rfl, hs7, ?_, by simpa [vals_len] using hl7, hm7, hn7, (HS.out _ g5).old ⟨hgr7.os, hgr7.tape, hgr7.output, hgr7.size, fun k hk => hgr7.block k hk (by simp)⟩, ?_⟩
  · intro k hk
    rcases hg7 with h | ⟨j, h, hj⟩
    · rw [h] at hk; cases hk
    · rw [h] at hk; cases hk; have := g6.size; omega
  · exact ⟨hgr7.os.trans g6.os, hgr7.tape.trans g6.tape, hgr7.output.trans g6.output, Nat.le_trans g6.size hgr7.size, fun k hk hr => (hgr7.block k (Nat.lt_of_lt_of_le hk g6.size) (by simp)).trans (g6.block k hk hr)⟩
end
theorem bN_byte {st : St} (hb : Bytes (stZ st)) (n : Nat) : 0 ≤ bN n st ∧ bN n st < 256 ^ n := by
  have h : Bytes (bL n st) := by
    cases st with
    | ok z =>
      by_cases hn : z.length < n
      · rw [bL_short hn]; exact Bytes.nil
      · rw [bL_more hn]; exact Bytes.take hb n
    | error e => exact Bytes.nil
  have hb := bigN_bound h
  unfold bN
  rcases bL_len n st with e | e
  · rw [e] at hb; exact hb
  · rw [e] at hb ⊢
    have := pow_256_pos n
    simp [bigN_nil]; omega
end Go.Proofs.Ytaibojmaghmfnaa
