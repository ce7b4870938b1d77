/- A cursor that reads, or has failed: what each of its calls comes to. -/
import Derived.Test.YtgffcdldljgiiaaGreatHdE
import Derived.Test.YtgffcdldljgiiaaGreatCpB
import Derived.Test.YtgffcdldljgiiaaGreatRwC
namespace Go.Proofs.YtgffcdldljgiiaaGreat
open Go.RowKit
set_option maxHeartbeats 400000 in
theorem little_any (a : Option Addr) (n cap : Nat) (zs : List Int) (w : World) (hn : zs.length = n) (h4 : n ≤ 4) (hb : Bytes zs) (hr : Row w a zs) :
    Calls Tryz.prog 270 #[.slice a n cap] w fun e w' => e = .returned (.int .i64 (litN zs)) ∧ w' = w := by
  have HN : Hid (zs.length = n) := hn
  have HB : Hid (Bytes zs) := hb
  rcases hr with rfl | ⟨b, off, rfl, hc⟩
  · simp at hn
    subst hn
    clear h4 hb
    go_enter Tryz.func270, Tryz.ntmps270
    go_wp2
    go_loop [3, 8] (fun v i => v = .int .u64 0 ∧ i = .int .i64 0) (fun _ _ => 0)
    case atStart => exact ⟨rfl, rfl⟩
    case round =>
      obtain ⟨rfl, rfl⟩ := hrel
      go_wp2
      go_ret
      exact ⟨ret_int rfl, rfl⟩
  · clear hn hb
    go_enter Tryz.func270, Tryz.ntmps270
    go_wp2
    go_loop [3, 4, 5, 8] (fun v _ _ i => ∃ k : Nat, k ≤ n ∧ i = .int .i64 k ∧ v = .int .u64 (litN (zs.take k))) (fun _ _ _ i => n - (intOf i).toNat)
    case atStart => exact ⟨0, Nat.zero_le _, rfl, rfl⟩
    case round =>
      obtain ⟨k, hk, rfl, rfl⟩ := hrel
      have hbd := litN_le (HB.out.take k) (by simp; omega)
      by_cases hlt : k < n
      · have hck := hc k (by have := HN.out; omega)
        have hzk := HB.out.at k
        have HS : Hid (litN (zs.take (k + 1)) = litN (zs.take k) + (zs[k]?.getD 0) * 256 ^ k) := by rw [take_snoc zs k (by have := HN.out; omega), litN_snoc]; simp; rw [Nat.min_eq_left (by have := HN.out; omega)]; trivial
        have hbk := litN_bound (HB.out.take k)
        have HO : Hid _ := or_at (litN (zs.take k)) (zs[k]?.getD 0) k (by omega) hbk.1 (by have h := hbk.2; rwa [List.length_take, Nat.min_eq_left (by have := HN.out; omega)] at h) hzk.1 hzk.2
        clear hbk
        go_wp2
        go_round
        case rel => exact ⟨k + 1, by omega, by go_num, by rw [HS.out, ← HO.out]⟩
        case measure => simp [intOf]; omega
      · go_wp2
        go_ret
        exact ⟨ret_int (by rw [List.take_of_length_le (by have := HN.out; omega)]), rfl⟩
set_option maxHeartbeats 800000 in
theorem clittle_any (c U : Nat) (zs : List Int) (err n : Int) (w : World) (h : Cur w c U zs err) (hb : Bytes zs) :
    Calls Tryz.prog 257 #[.pointer (some ⟨c, 0, none⟩), .int .i64 n] w fun e w' => NumPost w c U (litN (numL zs n)) (numZ zs err n) (numE zs err n) e w' := by
  have E := number_cur c U zs err n w h
  have HB : Hid (Bytes (numL zs n) ∧ (numL zs n).length ≤ 4) := ⟨numL_bytes hb n, numL_len zs n⟩
  clear h hb
  generalize numL zs n = l at *
  generalize numZ zs err n = z at *
  generalize numE zs err n = r at *
  go_enter Tryz.func257, Tryz.ntmps257
  go_wp2_with fail
  refine E.mono ?_
  rintro e w' ⟨a, cap, rfl, g1, g2, g3, g4, g5, g6⟩
  go_wp2_with fail
  refine (little_any a l.length cap l _ rfl HB.out.2 HB.out.1 g4).mono ?_
  rintro e w1 ⟨rfl, rfl⟩
  go_wp2
  go_ret
  exact ⟨rfl, g5, g6⟩

/-- 'append(s, x...)', x bytes that lie in memory, or nil. -/
theorem wpList_moreX {w : World} {ops : Array Oper} {rest : List Oper} {o : Oper} {a : Act} {Q : Exit → Act → World → Prop} (hgd : o.guard = none) (s x : Operand)
    (ho : o.op = .call { callee := .builtin .append, args := #[s, x], argTypes := #[22, 22] })
    (v : Value) (g : Option Nat) (zs : List Int) (hs : a.eval s = v) (hsl : Sl w 5 v g (vals zs))
    (ad : Option Addr) (m c : Nat) (ys : List Int) (hx : a.eval x = .slice ad m c) (hc : ad = none → c = 0) (hm : ys.length = m) (hr : Row w ad ys) (hlen : zs.length + m ≤ 140737488355328)
    (h : ∀ v' w' g', Sl w' 5 v' g' (vals (zs ++ ys)) → (g' = g ∨ ∃ k, g' = some k ∧ w.heap.size ≤ k) → w.grownBy w' g → wpList Tryz.prog ops Q rest (a.put o.dst v') w') : wpList Tryz.prog ops Q (o :: rest) a w := by
  obtain ⟨i0, hi, hz0, hz1, hz2⟩ := info_parts Tryz.info5
  cases ad with
  | none =>
    have hb : ys = [] := by
      rcases hr with h | ⟨b, off, h, _⟩
      · exact h
      · cases h
    have hc0 := hc rfl
    subst hb hc0
    simp at hm
    subst hm
    obtain ⟨a', c', hv, hle, _⟩ := hsl.shape
    subst hv
    refine wpList_append_sl_none hgd s x 22 ho 5 i0 Tryz.underlying22 hi _ _ _ hs hle hx ?_
    exact h _ w g (by simpa using hsl) (.inl rfl) ⟨rfl, rfl, rfl, Nat.le_refl _, fun _ _ _ => rfl⟩
  | some y =>
    refine wpList_append_sl hgd s x 22 ho 5 i0 (.int .u8 0) 1 Tryz.underlying22 hi hz0 hz1 hz2 rfl _ _ _ hs hsl y m c (vals ys) hx (by rw [vals_len]; exact hm) (news_row hr) (vals_one ys) (by rw [vals_len]; omega) (by rw [vals_len]; unfold maxLen; omega) ?_
    intro v' w' g' h1 h2 h3
    exact h v' w' g' (by rw [vals_append]; exact h1) h2 h3
set_option maxHeartbeats 800000 in
theorem new_anyX (a : Option Addr) (n cap : Nat) (zs : List Int) (w : World) (hn : zs.length = n) (hnil : a = none → cap = 0) (hl : n ≤ 140737488355328) (hr : Row w a zs) :
    Calls Tryz.prog 77 #[.slice a n cap] w fun e w' => NewCur w zs e w' := by
  have HN : Hid (zs.length = n) := hn
  have HR : Hid (Row w a zs) := hr
  clear hr
  obtain ⟨i0, hi, hz0, hz1, hz2⟩ := info_parts Tryz.info5
  cases a with
  | none =>
    have hcap := hnil rfl
    rcases HR.out with rfl | ⟨b, off, h, _⟩
    · simp at hn
      subst hn hcap
      clear hnil
      go_enter Tryz.func77, Tryz.ntmps77
      go_wp2
      go_ret
      unfold NewCur
      exact ⟨w.heap.size, rfl, Nat.le_refl _, (Below.refl _ _).alloc (Nat.le_refl _) _, none, 0, heap_alloc_new _ _, Nat.le_refl _, by unfold maxLen; omega, .inl rfl, fun x hx => by cases hx⟩
    · cases h
  | some x =>
    clear hnil hn
    go_enter Tryz.func77, Tryz.ntmps77
    go_wp2_with (at_builtin; refine wpList_append_own _ rfl _ _ 22 rfl w.heap.size 5 i0 (.int .u8 0) 1 1 Tryz.underlying22 hi hz0 hz1 hz2 rfl (by decide) _ _ _ rfl (World.ownsRow_nil _ _ _ _) x n cap (vals zs) rfl ?c0 ?c1 ?c2 ?c3 ?c4 ?c5 ?_)
    case c0 => have := HN.out; simp [vals]; omega
    case c1 => exact news_row HR.out
    case c2 => exact vals_one zs
    case c3 => unfold maxLen; omega
    case c4 => omega
    case c5 => exact Nat.le_refl _
    intro v' w1 hown hgrow _
    obtain ⟨a', cap', hv, hl', h1, h2, h3⟩ := row_of_owns hown
    have hblk := owns_own hown hv
    have hsz := hgrow.size
    have hbel : Below w.heap.size w w1 := (Below.refl _ _).grown hgrow (Nat.le_refl _) (fun k hk => by cases hk)
    clear hown hgrow hl'
    rw [hv]
    clear hv
    go_wp2
    go_ret
    unfold NewCur
    have hn := HN.out
    subst hn
    exact ⟨w1.heap.size, rfl, hsz, hbel.alloc hsz _, a', cap', heap_alloc_new _ _, h1, h2, h3.old ((Below.refl _ _).alloc (Nat.le_refl _) _), hblk⟩
/-- What is left of the bytes; or the error. -/
abbrev St := Except Int (List Int)
def stZ : St → List Int
  | .ok z => z
  | .error _ => []
def stE : St → Int
  | .ok _ => 0
  | .error e => e
def bS (n : Nat) : St → St
  | .ok z => if z.length < n then .error 2 else .ok (z.drop n)
  | .error e => .error e
def bL (n : Nat) : St → List Int
  | .ok z => if z.length < n then [] else z.take n
  | .error _ => []
def fS (x : Int) : St → St
  | .ok _ => .error x
  | .error e => .error e
def b1 (st : St) : Int := bigN (bL 1 st)
def l2 (st : St) : Int := litN (bL 2 st)
structure CS (w : World) (c U : Nat) (st : St) : Prop where
  cur : Cur w c U (stZ st) (stE st)
  byt : Bytes (stZ st)
  ln : (stZ st).length ≤ 140737488355328
  ne : ∀ e, st = .error e → e ≠ 0
  cu : c < U
theorem CS.lt {w : World} {c U : Nat} {st : St} (h : CS w c U st) : c < w.heap.size := h.cur.lt
theorem CS.grown {w w' : World} {c d U : Nat} {st : St} (h : CS w c U st) (hg : w.grownBy w' (some d)) (hd : U ≤ d) : CS w' c U st :=
  ⟨h.cur.grown hg (by have := h.cu; omega) hd, h.byt, h.ln, h.ne, h.cu⟩
theorem CS.old {w w' : World} {c U : Nat} {st : St} (h : CS w c U st) (hb : Below w.heap.size w w') : CS w' c U st := ⟨h.cur.below hb, h.byt, h.ln, h.ne, h.cu⟩
theorem bL_short {n : Nat} {z : List Int} (h : z.length < n) : bL n (.ok z) = [] := if_pos h
theorem bL_more {n : Nat} {z : List Int} (h : ¬ z.length < n) : bL n (.ok z) = z.take n := if_neg h
theorem bS_short {n : Nat} {z : List Int} (h : z.length < n) : bS n (.ok z) = .error 2 := if_pos h
theorem bS_more {n : Nat} {z : List Int} (h : ¬ z.length < n) : bS n (.ok z) = .ok (z.drop n) := if_neg h
theorem CS.bl {w : World} {c U : Nat} {st : St} (h : CS w c U st) (n : Nat) : Bytes (bL n st) := by
  have k := h.byt
  cases st with
  | ok z =>
    by_cases hn : z.length < n
    · rw [bL_short hn]; exact Bytes.nil
    · rw [bL_more hn]; exact Bytes.take k n
  | error e => exact Bytes.nil
theorem bL_len (n : Nat) (st : St) : (bL n st).length = n ∨ bL n st = [] := by
  cases st with
  | ok z =>
    by_cases h : z.length < n
    · exact .inr (bL_short h)
    · rw [bL_more h]; exact .inl (by rw [List.length_take]; omega)
  | error e => exact .inr rfl
theorem CS.bs {w w' : World} {c U : Nat} {st : St} (h : CS w c U st) (n : Nat) (hc : Cur w' c U (stZ (bS n st)) (stE (bS n st))) : CS w' c U (bS n st) := by
  have h1 := h.byt
  have h2 := h.ln
  have h3 := h.ne
  cases st with
  | ok z =>
    by_cases hn : z.length < n
    · rw [bS_short hn] at hc ⊢
      exact ⟨hc, Bytes.nil, by simp [stZ], (by intro e he; cases he; omega), h.cu⟩
    · rw [bS_more hn] at hc ⊢
      exact ⟨hc, Bytes.drop h1 n, by simp only [stZ, List.length_drop] at h2 ⊢; omega, (by intro e he; cases he), h.cu⟩
  | error e => exact ⟨hc, h1, h2, h3, h.cu⟩
theorem next_st {st : St} {n : Nat} (hn : 1 ≤ n) (hne : ∀ e, st = .error e → e ≠ 0) : nextL (stZ st) n = bL n st ∧ nextZ (stZ st) (stE st) n = stZ (bS n st) ∧ nextE (stZ st) (stE st) n = stE (bS n st) := by
  have a1 : ∀ (zs : List Int) (err n : Int), (zs.length : Int) < n → nextL zs n = [] ∧ nextZ zs err n = failZ zs err 2 ∧ nextE zs err n = failE err 2 := fun zs err n h => ⟨if_pos h, if_pos h, if_pos h⟩
  have a2 : ∀ (zs : List Int) (err n : Int), ¬ (zs.length : Int) < n → nextL zs n = zs.take n.toNat ∧ nextZ zs err n = zs.drop n.toNat ∧ nextE zs err n = err := fun zs err n h => ⟨if_neg h, if_neg h, if_neg h⟩
  cases st with
  | ok z =>
    by_cases h : z.length < n
    · obtain ⟨e1, e2, e3⟩ := a1 z 0 n (by omega)
      rw [bL_short h, bS_short h]
      exact ⟨e1, e2.trans (if_neg (by omega)), e3.trans (if_neg (by omega))⟩
    · obtain ⟨e1, e2, e3⟩ := a2 z 0 n (by omega)
      rw [bL_more h, bS_more h]
      rw [Int.toNat_natCast] at e1 e2
      exact ⟨e1, e2, e3⟩
  | error e =>
    have he := hne e rfl
    obtain ⟨e1, e2, e3⟩ := a1 [] e n (by simp; omega)
    exact ⟨e1, e2.trans (if_pos (.inl he)), e3.trans (if_pos (.inl he))⟩
theorem num_st {st : St} {n : Nat} (hn : 1 ≤ n) (h4 : n ≤ 4) (hne : ∀ e, st = .error e → e ≠ 0) : numL (stZ st) n = bL n st ∧ numZ (stZ st) (stE st) n = stZ (bS n st) ∧ numE (stZ st) (stE st) n = stE (bS n st) := by
  have e0 : ¬ ((n : Int) < 1 ∨ 4 < (n : Int)) := by omega
  unfold numL numZ numE
  rw [if_neg e0, if_neg e0, if_neg e0]
  exact next_st hn hne
section
variable {w : World} {c U : Nat} {st : St}
theorem CS.big (h : CS w c U st) : Calls Tryz.prog 78 #[.pointer (some ⟨c, 0, none⟩), .int .i64 1] w fun e w' => e = .returned (.int .i64 (b1 st)) ∧ CS w' c U (bS 1 st) ∧ w.grownBy w' (some c) := by
  have k := cbig_any c U (stZ st) (stE st) ((1 : Nat) : Int) w h.cur h.byt
  obtain ⟨e1, e2, e3⟩ := num_st (n := 1) (by omega) (by omega) h.ne
  rw [e1, e2, e3] at k
  exact k.mono fun _ _ ⟨h1, h2, h3⟩ => ⟨h1, h.bs 1 h2, h3⟩
theorem CS.little (h : CS w c U st) : Calls Tryz.prog 257 #[.pointer (some ⟨c, 0, none⟩), .int .i64 2] w fun e w' => e = .returned (.int .i64 (l2 st)) ∧ CS w' c U (bS 2 st) ∧ w.grownBy w' (some c) := by
  have k := clittle_any c U (stZ st) (stE st) ((2 : Nat) : Int) w h.cur h.byt
  obtain ⟨e1, e2, e3⟩ := num_st (n := 2) (by omega) (by omega) h.ne
  rw [e1, e2, e3] at k
  exact k.mono fun _ _ ⟨h1, h2, h3⟩ => ⟨h1, h.bs 2 h2, h3⟩
theorem CS.fail (h : CS w c U st) (x : Int) (hx : x ≠ 0) : Calls Tryz.prog 123 #[.pointer (some ⟨c, 0, none⟩), .int .i64 x] w fun e w' => e = .returned (.tuple #[]) ∧ CS w' c U (fS x st) ∧ w.grownBy w' (some c) := by
  refine (fail_any c U (stZ st) (stE st) x w h.cur).mono fun _ _ ⟨h1, h2, h3⟩ => ⟨h1, ?_, h3⟩
  have k := h.ne
  have kc := h.cu
  have kb := h.byt
  have kl := h.ln
  cases st with
  | ok z =>
    have e1 : failZ (stZ (.ok z)) (stE (.ok z)) x = [] := if_neg (by simp [stE, hx])
    have e2 : failE (stE (.ok z)) x = x := if_neg (by simp [stE, hx])
    rw [e1, e2] at h2
    exact ⟨h2, Bytes.nil, by simp [stZ, fS], (by intro e he; cases he; exact hx), kc⟩
  | error e =>
    have e1 : failZ (stZ (.error e)) (stE (.error e)) x = [] := if_pos (.inl (k e rfl))
    have e2 : failE (stE (.error e)) x = e := if_pos (.inl (k e rfl))
    rw [e1, e2] at h2
    exact ⟨h2, kb, kl, k, kc⟩
theorem CS.err (h : CS w c U st) : Calls Tryz.prog 139 #[.pointer (some ⟨c, 0, none⟩)] w fun e w' => e = .returned (.int .i64 (stE st)) ∧ w' = w := err_any c U _ _ w h.cur
theorem CS.left (h : CS w c U st) : Calls Tryz.prog 106 #[.pointer (some ⟨c, 0, none⟩)] w fun e w' => e = .returned (.int .i64 (stZ st).length) ∧ w' = w := left_any c U _ _ w h.cur
def CbPost (w : World) (c U : Nat) (l : List Int) (st : St) (e : Ending) (w' : World) : Prop := ∃ a cap g, e = .returned (.slice a l.length cap) ∧ Sl w' 5 (.slice a l.length cap) g (vals l) ∧ (∀ k, g = some k → w.heap.size ≤ k) ∧ l.length ≤ cap ∧ cap ≤ maxLen ∧ (a = none → cap = 0) ∧ CS w' c U st ∧ w.grownBy w' (some c)
set_option maxHeartbeats 800000 in
theorem CS.bytes (h : CS w c U st) (n : Nat) (hn : 1 ≤ n) (hn2 : n ≤ 1000000) : Calls Tryz.prog 258 #[.pointer (some ⟨c, 0, none⟩), .int .i64 n] w fun e w' => CbPost w c U (bL n st) (bS n st) e w' := by
  have E := next_any c U (stZ st) (stE st) n w h.cur (by omega)
  obtain ⟨e1, e2, e3⟩ := next_st hn h.ne
  rw [e1, e2, e3] at E
  have HS : Hid (∀ w', Cur w' c U (stZ (bS n st)) (stE (bS n st)) → CS w' c U (bS n st)) := fun w' hc => h.bs n hc
  have HL : Hid ((bL n st).length ≤ 1000000) := by
    show _ ≤ _
    rcases bL_len n st with k | k
    · omega
    · rw [k]; simp
  generalize bL n st = l at *
  generalize bS n st = s at *
  clear h e1 e2 e3
  go_enter Tryz.func258, Tryz.ntmps258
  go_wp2_with (first
    | (go_at_call 124; refine E.mono ?_; rintro e w' ⟨a, cap, rfl, g1, g2, g3, g4, g5, g6⟩; clear E)
    | (at_builtin; refine wpList_more rfl _ _ rfl (.slice none 0 0) none [] rfl (Sl.nil _ _) a l.length cap l rfl g3 rfl g4 (by have := HL.out; simp; omega) ?_; intro v7 w7 g7 hs7 hg7 hgr7; obtain ⟨a7, c7, hv7, hl7, hm7, hn7⟩ := hs7.shape; rw [List.nil_append, vals_len] at hv7; subst hv7))
  go_ret
  unfold CbPost
  refine ⟨a7, c7, g7, rfl, hs7, ?_, by simpa [vals_len] using hl7, hm7, hn7, (HS.out _ g5).old ⟨hgr7.os, hgr7.tape, hgr7.output, hgr7.size, fun k hk => hgr7.block k hk (by simp)⟩, ?_⟩
  · intro k hk
    rcases hg7 with h | ⟨j, h, hj⟩
    · rw [h] at hk; cases hk
    · rw [h] at hk; cases hk; have := g6.size; omega
  · exact ⟨hgr7.os.trans g6.os, hgr7.tape.trans g6.tape, hgr7.output.trans g6.output, Nat.le_trans g6.size hgr7.size, fun k hk hr => (hgr7.block k (Nat.lt_of_lt_of_le hk g6.size) (by simp)).trans (g6.block k hk hr)⟩
end
end Go.Proofs.YtgffcdldljgiiaaGreat
