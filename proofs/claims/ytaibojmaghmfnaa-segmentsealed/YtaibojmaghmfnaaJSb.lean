/- Joined: MjA MjB MjC MjD MjE. -/
import Derived.Test.YtaibojmaghmfnaaMiC
import Derived.Test.YtaibojmaghmfnaaMiD
import Derived.Test.YtaibojmaghmfnaaMhB
import Derived.Test.YtaibojmaghmfnaaArgB
import Derived.Test.YtaibojmaghmfnaaMgY
/- The document's Read: the numbers of a text, by its place; no program in it but Turned. -/
namespace Go.Proofs.Ytaibojmaghmfnaa
open Go.RowKit
theorem take_rev (zs : List Int) (n j : Nat) (hn : zs.length = n) (hj : j < n) : zs.reverse.take (n - j) = zs.reverse.take (n - (j + 1)) ++ [zs[j]?.getD 0] := by
  have h := take_snoc zs.reverse (n - (j + 1)) (by simp; omega)
  rw [show n - (j + 1) + 1 = n - j from by omega, List.getElem?_reverse (by omega), show zs.length - 1 - (n - (j + 1)) = j from by omega] at h
  exact h
set_option maxHeartbeats 800000 in
theorem rturn_any (a : Option Addr) (n cap : Nat) (zs : List Int) (w : World) (hn : zs.length = n) (hl : n ≤ 140737488351232) (hr : Row w a zs) :
    Calls Try.prog 30 #[.slice a n cap] w fun e w' => NewBytes w zs.reverse e w' := by
  obtain ⟨B, hB⟩ : ∃ B, B = w.heap.size := ⟨_, rfl⟩
  have HB : Hid (B = w.heap.size) := hB
  clear hB
  have HN : Hid (zs.length = n) := hn
  clear hn
  rcases hr with rfl | ⟨b, off, rfl, hc⟩
  · have hn := HN.out
    simp at hn
    subst hn
    go_enter Try.func30, Try.ntmps30
    go_wp2
    go_loop [3, 4] (fun v i => v = .slice none 0 0 ∧ i = .int .i64 (-1)) (fun _ _ => 0)
    case atStart => exact ⟨rfl, rfl⟩
    case round =>
      obtain ⟨rfl, rfl⟩ := hrel
      go_wp2
      go_ret
      unfold NewBytes
      exact ⟨none, 0, rfl, Nat.le_refl _, by unfold maxLen; omega, fun _ => rfl, .inl rfl, Below.refl _ _⟩
  · obtain ⟨i0, hi, hz0, hz1, hz2⟩ := info_parts Try.info5
    have hbB : zs ≠ [] → b < B := by
      intro hz
      have := cell_lt (hc 0 (List.length_pos_iff.2 hz))
      rw [HB.out]; exact this
    go_enter Try.func30, Try.ntmps30
    go_wp2
    go_loopw [3, 4] (fun v i wr => ∃ j : Nat, j ≤ n ∧ i = .int .i64 ((j : Int) - 1) ∧ wr.ownsRow B 5 1 v (n - j) (vals (zs.reverse.take (n - j))) ∧ Below B w wr) (fun _ i _ => (intOf i + 1).toNat)
    case atStart => exact ⟨n, Nat.le_refl _, by go_num, by rw [Nat.sub_self]; exact World.ownsRow_nil _ _ _ _, Below.refl _ _⟩
    case round =>
      obtain ⟨j, hj, rfl, hown, hbel⟩ := hrel
      cases j with
      | zero =>
        go_wp2
        go_ret
        rw [Nat.sub_zero, List.take_of_length_le (by have := HN.out; simp; omega)] at hown
        exact newBytes_of_owns hown (by rw [← HB.out]; exact hbel)
      | succ j =>
        rw [show ((j + 1 : Nat) : Int) - 1 = (j : Int) from by omega]
        have hck : wr.cell? ⟨b, off + j, none⟩ = some (.int .u8 (zs[j]?.getD 0)) := (hbel.cell (hbB (by intro h; have := HN.out; rw [h] at this; simp at this; omega))).trans (hc j (by have := HN.out; omega))
        go_wp2_with (first
          | (at_builtin; refine wpList_append_own _ rfl _ _ 24 rfl B 5 i0 (.int .u8 0) 1 1 Try.underlying24 hi hz0 hz1 hz2 rfl (by decide) _ _ _ rfl (hown.alloc _) ⟨wr.heap.size, 0, none⟩ 1 1 [.int .u8 (zs[j]?.getD 0)] rfl rfl ?c1 ?c2 ?c3 ?c4 ?c5 ?_)
          | go_in)
        case c1 => exact (cell_one_new _ _ _)
        case c2 => intro u hu; simp at hu; subst hu; rfl
        case c3 => unfold maxLen; omega
        case c4 => omega
        case c5 => have := hbel.size; have := HB.out; simp; omega
        intro v' w1 hown' hgrow _
        have R := own_step (by rw [HB.out]; exact Nat.le_refl _) hown hbel hown' hgrow (show n - (j + 1) + 1 = n - j by omega) (take_rev zs n j HN.out (by omega))
        clear hown hbel hown' hgrow hck
        go_wp2
        go_roundw
        case rel => exact ⟨j, by omega, by go_num, R.1, R.2⟩
        case measure => simp [intOf]
theorem below_drewJ (w : World) : Below w.heap.size w w.drew := ⟨rfl, rfl, rfl, Nat.le_refl _, fun _ _ => rfl⟩
theorem below_allocJ (w : World) (o : Obj) : Below w.heap.size w (w.alloc o) := (Below.refl _ _).alloc (Nat.le_refl _) _
theorem cut_take (b : List Int) (m j k : Nat) (h : j + k ≤ m) : ((b.take m).drop j).take k = (b.drop j).take k := by
  rw [List.drop_take, List.take_take, Nat.min_eq_left (by omega)]
theorem row_cut {w : World} {bb off : Nat} {b : List Int} (hr : Row w (some ⟨bb, off, none⟩) b) (j k : Nat) (h : j + k ≤ b.length) : Row w (some ⟨bb, off + j, none⟩) ((b.drop j).take k) := by
  have hlen : ((b.drop j).take k).length = k := by rw [List.length_take, List.length_drop]; omega
  rcases hr with e | ⟨b2, o2, e, hcell⟩
  · subst e
    left
    simp
  · simp at e
    obtain ⟨rfl, rfl⟩ := e
    refine .inr ⟨_, _, rfl, fun i hi => ?_⟩
    rw [hlen] at hi
    have hc := hcell (j + i) (by omega)
    rw [show off + j + i = off + (j + i) by omega]
    rw [hc]
    have e : ((b.drop j).take k)[i]? = b[j + i]? := by rw [List.getElem?_take, if_pos hi, List.getElem?_drop]
    rw [e]
/-- Sizes one behind the other. -/
def bSs : List Nat → St → St
  | [], s => s
  | n :: r, s => bSs r (bS n s)
theorem bSs_err (ss : List Nat) (e : Int) : bSs ss (.error e) = .error e := by
  induction ss with
  | nil => rfl
  | cons n r ih => exact ih
theorem bSs_ok (ss : List Nat) : ∀ B : List Int, bSs ss (.ok B) = if ss.sum ≤ B.length then .ok (B.drop ss.sum) else .error 2 := by
  induction ss with
  | nil => intro B; simp [bSs]
  | cons n r ih =>
    intro B
    rw [List.sum_cons]
    show bSs r (bS n (.ok B)) = _
    by_cases h : B.length < n
    · rw [bS_short h, bSs_err, if_neg (by omega)]
    · rw [bS_more h, ih, List.length_drop, List.drop_drop]
      by_cases h2 : r.sum ≤ B.length - n
      · rw [if_pos h2, if_pos (by omega)]
      · rw [if_neg h2, if_neg (by omega)]
theorem end_ss (ss : List Nat) (B : List Int) : (decide (stE (bSs ss (.ok B)) = 0) && decide ((stZ (bSs ss (.ok B))).length = 0)) = decide (B.length = ss.sum) := by
  rw [bSs_ok]
  by_cases h : ss.sum ≤ B.length
  · rw [if_pos h]
    simp only [stE, stZ, List.length_drop]
    simp
    omega
  · rw [if_neg h]
    simp only [stE, stZ]
    simp
    omega
theorem bSs_append (xs ys : List Nat) (s : St) : bSs (xs ++ ys) s = bSs ys (bSs xs s) := by
  induction xs generalizing s with
  | nil => rfl
  | cons n r ih => exact ih _
theorem bN_at (B : List Int) (p s : Nat) (h : p + s ≤ B.length) : bN s (.ok (B.drop p)) = nuN B p s ∧ bS s (.ok (B.drop p)) = .ok (B.drop (p + s)) := by
  have h1 : ¬ (B.drop p).length < s := by rw [List.length_drop]; omega
  exact ⟨by unfold bN nuN; rw [bL_more h1], by rw [bS_more h1, List.drop_drop]⟩
theorem bN_at0 (B : List Int) (s : Nat) (h : s ≤ B.length) : bN s (.ok B) = nuN B 0 s ∧ bS s (.ok B) = .ok (B.drop s) := by
  have := bN_at B 0 s (by omega)
  rwa [List.drop_zero, Nat.zero_add] at this
theorem rd_ask (B : List Int) (h : B.length = 9) : tk_ask (.ok B) = ⟨0, 0, nuN B 0 1, nuN B 1 4, 0, nuN B 5 4, 0, 0, 0, 0, [], []⟩ := by
  unfold tk_ask
  rw [(bN_at0 B 1 (by omega)).1, (bN_at0 B 1 (by omega)).2, (bN_at B 1 4 (by omega)).1, (bN_at B 1 4 (by omega)).2, (bN_at B 5 4 (by omega)).1]
theorem rd_offer (B : List Int) (h : B.length = 15) : tk_offer (.ok B) = ⟨0, 0, nuN B 0 1, nuN B 1 4, nuN B 5 4, nuN B 9 4, nuN B 13 2, 0, 0, 0, [], []⟩ := by
  unfold tk_offer
  rw [(bN_at0 B 1 (by omega)).1, (bN_at0 B 1 (by omega)).2, (bN_at B 1 4 (by omega)).1, (bN_at B 1 4 (by omega)).2, (bN_at B 5 4 (by omega)).1, (bN_at B 5 4 (by omega)).2, (bN_at B 9 4 (by omega)).1, (bN_at B 9 4 (by omega)).2, (bN_at B 13 2 (by omega)).1]
theorem rd_no (B : List Int) (h : B.length = 2) : tk_no (.ok B) = ⟨0, 0, nuN B 0 1, 0, 0, 0, 0, 0, 0, nuN B 1 1, [], []⟩ := by
  unfold tk_no
  rw [(bN_at0 B 1 (by omega)).1, (bN_at0 B 1 (by omega)).2, (bN_at B 1 1 (by omega)).1]
theorem five_at (B : List Int) (h : 5 ≤ B.length) : bN 4 (.ok B) = nuN B 0 4 ∧ bN 1 (bS 4 (.ok B)) = nuN B 4 1 ∧ bS 1 (bS 4 (.ok B)) = .ok (B.drop 5) := by
  rw [(bN_at0 B 4 (by omega)).1, (bN_at0 B 4 (by omega)).2, (bN_at B 4 1 (by omega)).1, (bN_at B 4 1 (by omega)).2]
  exact ⟨rfl, rfl, rfl⟩
theorem five_short (B : List Int) (h : B.length < 5) : bS 1 (bS 4 (.ok B)) = .error 2 := by
  have := bSs_ok [4, 1] B
  rw [if_neg (by simp; omega)] at this
  exact this
theorem rd_data (B : List Int) (h : 5 ≤ B.length) : tk_data (.ok B) = ⟨0, 0, 0, 0, 0, 0, 0, nuN B 0 4, nuN B 4 1, 0, [], B.drop 5⟩ := by
  obtain ⟨h1, h2, h3⟩ := five_at B h
  unfold tk_data dtS
  rw [h1, h2, h3]
  show (⟨0, 0, 0, 0, 0, 0, 0, nuN B 0 4, nuN B 4 1, 0, [], bL (B.drop 5).length (.ok (B.drop 5))⟩ : Mn) = _
  rw [bL_more (by omega), List.take_length]
theorem rdG_err (j : Nat) (e : Int) : (rdG j (.error e)).2 = .error e := by
  induction j with
  | zero => rfl
  | succ j ih => show bS 4 (bS 4 (rdG j (.error e)).2) = _; rw [ih]; rfl
theorem rdG_end (j : Nat) (s : St) : (rdG j s).2 = bSs (List.replicate (2 * j) 4) s := by
  induction j with
  | zero => rfl
  | succ j ih =>
    show bS 4 (bS 4 (rdG j s).2) = _
    rw [ih, show 2 * (j + 1) = 2 * j + 2 by omega, ← List.replicate_append_replicate, bSs_append]
    rfl
theorem rdG_at (B : List Int) (j : Nat) (h : 5 + 8 * j ≤ B.length) : (rdG j (.ok (B.drop 5))).2 = .ok (B.drop (5 + 8 * j)) := by
  rw [rdG_end, bSs_ok, List.length_drop, List.drop_drop]
  have : (List.replicate (2 * j) 4).sum = 8 * j := by simp; omega
  rw [this, if_pos (by omega)]
theorem rdG_next (B : List Int) (j : Nat) (h : 5 + 8 * (j + 1) ≤ B.length) : (rdG (j + 1) (.ok (B.drop 5))).1 = (rdG j (.ok (B.drop 5))).1 ++ [(nuN B (5 + 8 * j) 4, nuN B (5 + 8 * j + 4) 4)] := by
  show (rdG j (.ok (B.drop 5))).1 ++ [(bN 4 (rdG j (.ok (B.drop 5))).2, bN 4 (bS 4 (rdG j (.ok (B.drop 5))).2))] = _
  rw [rdG_at B j (by omega), (bN_at B (5 + 8 * j) 4 (by omega)).1, (bN_at B (5 + 8 * j) 4 (by omega)).2, (bN_at B (5 + 8 * j + 4) 4 (by omega)).1]
theorem rd_ack (B : List Int) (k : Nat) (h : 5 ≤ B.length) (hk : nuN B 4 1 = (k : Int)) : tk_ack (.ok B) = ⟨0, 0, 0, 0, 0, 0, 0, nuN B 0 4, 0, 0, (rdG k (.ok (B.drop 5))).1, []⟩ := by
  obtain ⟨h1, h2, h3⟩ := five_at B h
  unfold tk_ack akN
  rw [h1, h2, h3, hk, Int.toNat_natCast]
/-- Where a kind's bytes end. -/
def enK (K : Int) (B : List Int) : Bool := decide (stE (tkS K (.ok B)) = 0) && decide ((stZ (tkS K (.ok B))).length = 0)
theorem en_ask (B : List Int) : enK 1 B = decide (B.length = 9) := end_ss [1, 4, 4] B
theorem en_offer (B : List Int) : enK 2 B = decide (B.length = 15) := end_ss [1, 4, 4, 4, 2] B
theorem en_no (B : List Int) : enK 5 B = decide (B.length = 2) := end_ss [1, 1] B
theorem en_data (B : List Int) : enK 3 B = decide (5 ≤ B.length) := by
  have e : tkS 3 (.ok B) = bS (stZ (dtS (.ok B))).length (dtS (.ok B)) := rfl
  unfold enK
  rw [e]
  unfold dtS
  by_cases h : 5 ≤ B.length
  · rw [(five_at B h).2.2]
    have e2 : bS (stZ (.ok (B.drop 5))).length (.ok (B.drop 5)) = .ok ((B.drop 5).drop (B.drop 5).length) := bS_more (by show ¬ _ < (B.drop 5).length; omega)
    rw [e2, List.drop_length]
    simp [stE, stZ, h]
  · rw [five_short B (by omega)]
    show (decide (stE (.error 2) = 0) && _) = _
    simp [stE]
    omega
theorem nuN_bd {B : List Int} (hb : Bytes B) (p s : Nat) (h : p + s ≤ B.length) : 0 ≤ nuN B p s ∧ nuN B p s < 256 ^ s := by
  have := bigN_bound ((hb.drop p).take s)
  rw [show ((B.drop p).take s).length = s by rw [List.length_take, List.length_drop]; omega] at this
  exact this
theorem en_ack (B : List Int) (hb : Bytes B) : enK 4 B = decide (5 ≤ B.length ∧ (B.length : Int) = 5 + 8 * nuN B 4 1) := by
  have e : tkS 4 (.ok B) = (rdG (akN (.ok B)) (bS 1 (bS 4 (.ok B)))).2 := rfl
  unfold enK
  rw [e]
  by_cases h : 5 ≤ B.length
  · obtain ⟨h1, h2, h3⟩ := five_at B h
    unfold akN
    rw [h2, h3, rdG_end, end_ss, List.length_drop]
    have h0 := (nuN_bd hb 4 1 (by omega)).1
    have hs : (List.replicate (2 * (nuN B 4 1).toNat) 4).sum = 8 * (nuN B 4 1).toNat := by simp; omega
    rw [hs]
    apply decide_eq_decide.2
    omega
  · rw [five_short B (by omega), rdG_err]
    simp [stE]
    omega
end Go.Proofs.Ytaibojmaghmfnaa
/- The document's Read. -/
namespace Go.Proofs.Ytaibojmaghmfnaa
open Go.RowKit
/-- The blocks of the document's Read: its result, its empty message, the message that it fills. -/
structure RbI (w : World) (M : Nat) (c : Array Value) (x : World) : Prop where
  be : Below w.heap.size w x
  z : (x.heap[w.heap.size]? = some (.cells #[.int .i64 0, .int .u32 0, .int .i64 0, .int .u32 0, .int .i64 0, .int .i64 0, .int .i64 0, .int .i64 0, .int .i64 0, .int .i64 0, .slice none 0 0, .slice none 0 0] 26 (0, 0)))
  nb : (x.heap[w.heap.size + 1]? = some (.cells #[.int .i64 0, .int .u32 0, .int .i64 0, .int .u32 0, .int .i64 0, .int .i64 0, .int .i64 0, .int .i64 0, .int .i64 0, .int .i64 0, .slice none 0 0, .slice none 0 0] 26 (0, 0)))
  m : x.heap[M]? = some (.cells c 26 (0, 0))
  lt : w.heap.size + 2 ≤ M
theorem RbI.set {w x : World} {M : Nat} {c : Array Value} (h : RbI w M c x) (i : Nat) (v : Value) : RbI w M (c.setIfInBounds i v) (x.setCell ⟨M, i, none⟩ v) :=
  ⟨h.be.setCell (by have := h.lt; show w.heap.size ≤ M; omega) v, (Below.heap_setCell x ⟨M, i, none⟩ v _ (by have := h.lt; show w.heap.size ≠ M; omega)).trans h.z, (Below.heap_setCell x ⟨M, i, none⟩ v _ (by have := h.lt; show w.heap.size + 1 ≠ M; omega)).trans h.nb, heap_setCell_same x M i _ _ v h.m, h.lt⟩
theorem RbI.old {w x y : World} {M : Nat} {c : Array Value} (h : RbI w M c x) (b : Below x.heap.size x y) : RbI w M c y :=
  ⟨h.be.trans (b.mono h.be.size), (b.block _ (lt_of_block h.z)).trans h.z, (b.block _ (lt_of_block h.nb)).trans h.nb, (b.block _ (lt_of_block h.m)).trans h.m, h.lt⟩
theorem MsR.nil (U : Nat) (w : World) (n : Mn) (hg : n.G = []) (hd : n.D = []) : MsR U w n none 0 none 0 := by
  refine ⟨?_, ?_, (fun x h => by cases h), (fun x h => by cases h)⟩
  · rw [hg]; exact .inl rfl
  · rw [hd]; exact ⟨rfl, Bytes.nil, Nat.le_refl _, by simp, fun _ => rfl, .inl rfl⟩
/-- What the document's May says of what was read. -/
theorem may_rd (n : Mn) (ra : Option Addr) (rc : Nat) (da : Option Addr) (dc : Nat) (U : Nat) (w : World) (h : MsR U w n ra rc da dc) (hb : 0 ≤ n.bo ∧ n.bo < 4294967296) (hs : 0 ≤ n.su ∧ n.su < 4294967296) (hg : n.G.length ≤ 1000) : Calls Try.prog 23 #[(n.ms ra rc da dc).V] w fun e w' => e = .returned (.bool (isKd n.k && myN n)) ∧ Below w.heap.size w w' :=
  rmay_any (n.ms ra rc da dc) n.G n.D w ⟨h.g, rfl, h.d, hb, hs, by show n.G.length ≤ _; omega⟩
theorem sz_two (x : World) (M i j : Nat) (v u : Value) : ((x.setCell ⟨M, i, none⟩ v).setCell ⟨M, j, none⟩ u).heap.size = x.heap.size := by simp [World.setCell]
theorem sl_emp (x : World) (M i j : Nat) (v u : Value) : Sl (((x.setCell ⟨M, i, none⟩ v).setCell ⟨M, j, none⟩ u).alloc (.cells #[] 5)) 5 (.slice (some ⟨x.heap.size, 0, none⟩) 0 0) (some x.heap.size) [] := by
  have h := Sl.empty ((x.setCell ⟨M, i, none⟩ v).setCell ⟨M, j, none⟩ u) 5
  rwa [sz_two] at h
theorem step_rgW {w W : World} {ops : Array Oper} {o : Oper} {a : Act} {K : Act → World → Prop} {Q : Exit → Act → World → Prop} {E : Prop} (hgd : o.guard = none) (s x : Operand)
    (ho : o.op = .call { callee := .builtin .append, args := #[s, x], argTypes := #[23, 23] })
    (base : Nat) (v : Value) (n : Nat) (G : List (Int × Int)) (y z : Int) (hW : W = w.alloc (.cells #[.int .i64 y, .int .i64 z] 53)) (hs : a.eval s = v) (hx : a.eval x = .slice (some ⟨w.heap.size, 0, none⟩) 1 1) (hown : w.ownsRow base 53 2 v n (gv G)) (hn : n ≤ 1000) (hbase : base ≤ w.heap.size)
    (h : ∀ v' w', w'.ownsRow base 53 2 v' (n + 1) (gv (G ++ [(y, z)])) → (w.alloc (.cells #[.int .i64 y, .int .i64 z] 53)).grownBy w' v.ownBlock → K (a.put o.dst v') w') :
    if Region.wanted o (yielded ops a.tmps) = true then Oper.wp Try.prog o a W K Q else E := by
  subst hW
  exact step_rg hgd s x ho base v n G y z hs hx hown hn hbase h
/-- An append to a row of the call's own leaves them. -/
theorem rb_more {w u x : World} {M : Nat} {c : Array Value} {o : Obj} (h : RbI w M c u) (ha : Below u.heap.size u (u.alloc o)) (g : (u.alloc o).grownBy x (some u.heap.size)) : RbI w M c x := by
  have l1 := lt_of_block h.z
  have l2 := lt_of_block h.nb
  have l3 := lt_of_block h.m
  have hb : ∀ k, k < u.heap.size → x.heap[k]? = u.heap[k]? := fun k hk => (g.block k (Nat.lt_of_lt_of_le hk ha.size) (by simp; omega)).trans (ha.block k hk)
  exact ⟨(h.be.trans (ha.mono h.be.size)).grown g (h.be.trans (ha.mono h.be.size)).size (fun k hk => by cases hk; exact h.be.size), (hb _ l1).trans h.z, (hb _ l2).trans h.nb, (hb _ l3).trans h.m, h.lt⟩
theorem fr_more {w u : World} {M : Nat} {c : Array Value} {g5 : Option Nat} {o : Obj} (h : RbI w M c u) (hg : g5 = some u.heap.size ∨ ∃ k, g5 = some k ∧ (u.alloc o).heap.size ≤ k) : ∀ k, g5 = some k → M + 1 ≤ k := by
  have l3 := lt_of_block h.m
  intro k hk
  rcases hg with e | ⟨q, e, hq⟩
  · rw [e] at hk; cases hk; omega
  · rw [e] at hk; cases hk; simp at hq; omega
/-- Data in new memory, behind the store into the message. -/
theorem da_rd {w x : World} {M : Nat} {a : Option Addr} {c : Nat} {g : Option Nat} {D : List Int} {v : Value} {k bo ix pa : Int} (hM : w.heap.size + 2 ≤ M) (s : Sl x 5 (.slice a D.length c) g (vals D)) (hg : ∀ q, g = some q → M + 1 ≤ q) (hb : Bytes D) (hl : D.length ≤ 100000) : MsR (w.heap.size + 1) (x.setCell ⟨M, 11, none⟩ v) (⟨k, bo, 0, 0, 0, 0, 0, ix, pa, 0, [], D⟩ : Mn) none 0 a c := by
  refine ⟨.inl rfl, ?_, (fun y hy => by cases hy), fun y hy => ?_⟩
  · exact Sl.bok (s.same fun q hq => Below.heap_setCell x ⟨M, 11, none⟩ v q (by have := hg q hq; show q ≠ M; omega)) rfl hb (by show D.length ≤ _; omega)
  · rcases s with ⟨e, _, _⟩ | ⟨b', off, cap, cur, e, eg, _⟩
    · simp only [Value.slice.injEq] at e; rw [hy] at e; cases e.1
    · simp only [Value.slice.injEq] at e
      rw [hy] at e
      have e1 := Option.some.inj e.1
      rw [e1]
      have := hg b' eg
      show w.heap.size + 1 ≤ b'
      omega
/-- What stands between two rounds of ranges. -/
structure AjI (w : World) (M : Nat) (w2 : World) (Bo F : Int) (B : List Int) (q : Nat) (v : Value) (wr : World) : Prop where
  rb : RbI w M #[.int .i64 4, .int .u32 Bo, .int .i64 0, .int .u32 0, .int .i64 0, .int .i64 0, .int .i64 0, .int .i64 F, .int .i64 0, .int .i64 0, v, .slice none 0 0] wr
  own : wr.ownsRow (M + 1) 53 2 v q (gv (rdG q (.ok (B.drop 5))).1)
  bx : Below M w2 wr
theorem AjI.drew {w w2 wr : World} {M : Nat} {Bo F : Int} {B : List Int} {q : Nat} {v : Value} (h : AjI w M w2 Bo F B q v wr) : AjI w M w2 Bo F B q v wr.drew :=
  ⟨h.rb.old (below_drewJ wr), own_same h.own fun _ _ => rfl, ⟨h.bx.os, h.bx.tape, h.bx.output, h.bx.size, h.bx.block⟩⟩
theorem AjI.next {w w2 wr w9 : World} {M : Nat} {Bo F : Int} {B : List Int} {q : Nat} {v v9 : Value} {o : Obj} (h : AjI w M w2 Bo F B q v wr) (h9 : w9.ownsRow (M + 1) 53 2 v9 (q + 1) (gv (rdG (q + 1) (.ok (B.drop 5))).1)) (g : (wr.alloc o).grownBy w9 v.ownBlock) :
    AjI w M w2 Bo F B (q + 1) v9 (w9.setCell ⟨M, 10, none⟩ v9) ∧ w9.heap[M]? = some (.cells #[.int .i64 4, .int .u32 Bo, .int .i64 0, .int .u32 0, .int .i64 0, .int .i64 0, .int .i64 0, .int .i64 F, .int .i64 0, .int .i64 0, v, .slice none 0 0] 26 (0, 0)) := by
  have hA := below_allocJ wr o
  have l3 := lt_of_block h.rb.m
  have hk : ∀ k, v.ownBlock = some k → M + 1 ≤ k := fun k e => (own_lt h.own k e).1
  have hb : ∀ k, k ≤ M → k < wr.heap.size → w9.heap[k]? = wr.heap[k]? := fun k hk1 hk2 => (g.block k (Nat.lt_of_lt_of_le hk2 hA.size) (fun e => by have := hk k e.symm; omega)).trans (hA.block k hk2)
  have hlt := h.rb.lt
  have hbe := (h.rb.be.trans (hA.mono h.rb.be.size))
  have r9 : RbI w M #[.int .i64 4, .int .u32 Bo, .int .i64 0, .int .u32 0, .int .i64 0, .int .i64 0, .int .i64 0, .int .i64 F, .int .i64 0, .int .i64 0, v, .slice none 0 0] w9 :=
    ⟨hbe.grown g hbe.size (fun k e => by have := hk k e; omega), (hb _ (by omega) (lt_of_block h.rb.z)).trans h.rb.z, (hb _ (by omega) (lt_of_block h.rb.nb)).trans h.rb.nb, (hb M (Nat.le_refl _) l3).trans h.rb.m, hlt⟩
  have hbx := (h.bx.trans (hA.mono (by omega)))
  exact ⟨⟨r9.set 10 v9, own_same h9 fun k e => Below.heap_setCell _ _ _ _ (by have := (own_lt h9 k e).1; show k ≠ M; omega), (hbx.grown g (Nat.le_trans (by omega) hA.size) (fun k e => by have := hk k e; omega)).setCell (Nat.le_refl _) _⟩, r9.m⟩
theorem rb_start {w x : World} (h : Below w.heap.size w x) (hz : (x.heap[w.heap.size]? = some (.cells #[.int .i64 0, .int .u32 0, .int .i64 0, .int .u32 0, .int .i64 0, .int .i64 0, .int .i64 0, .int .i64 0, .int .i64 0, .int .i64 0, .slice none 0 0, .slice none 0 0] 26 (0, 0)))) (hn : (x.heap[w.heap.size + 1]? = some (.cells #[.int .i64 0, .int .u32 0, .int .i64 0, .int .u32 0, .int .i64 0, .int .i64 0, .int .i64 0, .int .i64 0, .int .i64 0, .int .i64 0, .slice none 0 0, .slice none 0 0] 26 (0, 0)))) : Below w.heap.size w ((((((((((((x.setCell ⟨w.heap.size + 1, 0, none⟩ (.int .i64 0)).setCell ⟨w.heap.size + 1, 1, none⟩ (.int .u32 0)).setCell ⟨w.heap.size + 1, 2, none⟩ (.int .i64 0)).setCell ⟨w.heap.size + 1, 3, none⟩ (.int .u32 0)).setCell ⟨w.heap.size + 1, 4, none⟩ (.int .i64 0)).setCell ⟨w.heap.size + 1, 5, none⟩ (.int .i64 0)).setCell ⟨w.heap.size + 1, 6, none⟩ (.int .i64 0)).setCell ⟨w.heap.size + 1, 7, none⟩ (.int .i64 0)).setCell ⟨w.heap.size + 1, 8, none⟩ (.int .i64 0)).setCell ⟨w.heap.size + 1, 9, none⟩ (.int .i64 0)).setCell ⟨w.heap.size + 1, 10, none⟩ (.slice none 0 0)).setCell ⟨w.heap.size + 1, 11, none⟩ (.slice none 0 0)) ∧ (((((((((((((x.setCell ⟨w.heap.size + 1, 0, none⟩ (.int .i64 0)).setCell ⟨w.heap.size + 1, 1, none⟩ (.int .u32 0)).setCell ⟨w.heap.size + 1, 2, none⟩ (.int .i64 0)).setCell ⟨w.heap.size + 1, 3, none⟩ (.int .u32 0)).setCell ⟨w.heap.size + 1, 4, none⟩ (.int .i64 0)).setCell ⟨w.heap.size + 1, 5, none⟩ (.int .i64 0)).setCell ⟨w.heap.size + 1, 6, none⟩ (.int .i64 0)).setCell ⟨w.heap.size + 1, 7, none⟩ (.int .i64 0)).setCell ⟨w.heap.size + 1, 8, none⟩ (.int .i64 0)).setCell ⟨w.heap.size + 1, 9, none⟩ (.int .i64 0)).setCell ⟨w.heap.size + 1, 10, none⟩ (.slice none 0 0)).setCell ⟨w.heap.size + 1, 11, none⟩ (.slice none 0 0)).heap[w.heap.size]? = some (.cells #[.int .i64 0, .int .u32 0, .int .i64 0, .int .u32 0, .int .i64 0, .int .i64 0, .int .i64 0, .int .i64 0, .int .i64 0, .int .i64 0, .slice none 0 0, .slice none 0 0] 26 (0, 0))) ∧ (((((((((((((x.setCell ⟨w.heap.size + 1, 0, none⟩ (.int .i64 0)).setCell ⟨w.heap.size + 1, 1, none⟩ (.int .u32 0)).setCell ⟨w.heap.size + 1, 2, none⟩ (.int .i64 0)).setCell ⟨w.heap.size + 1, 3, none⟩ (.int .u32 0)).setCell ⟨w.heap.size + 1, 4, none⟩ (.int .i64 0)).setCell ⟨w.heap.size + 1, 5, none⟩ (.int .i64 0)).setCell ⟨w.heap.size + 1, 6, none⟩ (.int .i64 0)).setCell ⟨w.heap.size + 1, 7, none⟩ (.int .i64 0)).setCell ⟨w.heap.size + 1, 8, none⟩ (.int .i64 0)).setCell ⟨w.heap.size + 1, 9, none⟩ (.int .i64 0)).setCell ⟨w.heap.size + 1, 10, none⟩ (.slice none 0 0)).setCell ⟨w.heap.size + 1, 11, none⟩ (.slice none 0 0)).heap[w.heap.size + 1]? = some (.cells #[.int .i64 0, .int .u32 0, .int .i64 0, .int .u32 0, .int .i64 0, .int .i64 0, .int .i64 0, .int .i64 0, .int .i64 0, .int .i64 0, .slice none 0 0, .slice none 0 0] 26 (0, 0))) := by
  have gs := grownBy_setCells (w.heap.size + 1) (Array.toList #[.int .i64 0, .int .u32 0, .int .i64 0, .int .u32 0, .int .i64 0, .int .i64 0, .int .i64 0, .int .i64 0, .int .i64 0, .int .i64 0, .slice none 0 0, .slice none 0 0]) 0 x
  exact ⟨h.grown gs h.size (fun k hk => by cases hk; omega), (gs.block _ (lt_of_block hz) (by simp)).trans hz, set_twelve _ _ _ _ _ _ _ _ _ _ _ _ hn⟩
theorem rb_ck {x : World} {B : Nat} (K Bo : Int) (hn : x.heap[B]? = some (.cells #[.int .i64 0, .int .u32 0, .int .i64 0, .int .u32 0, .int .i64 0, .int .i64 0, .int .i64 0, .int .i64 0, .int .i64 0, .int .i64 0, .slice none 0 0, .slice none 0 0] 26 (0, 0))) : ((((((((((((x.setCell ⟨B, 0, none⟩ (.int .i64 K)).setCell ⟨B, 1, none⟩ (.int .u32 Bo)).setCell ⟨B, 2, none⟩ (.int .i64 0)).setCell ⟨B, 3, none⟩ (.int .u32 0)).setCell ⟨B, 4, none⟩ (.int .i64 0)).setCell ⟨B, 5, none⟩ (.int .i64 0)).setCell ⟨B, 6, none⟩ (.int .i64 0)).setCell ⟨B, 7, none⟩ (.int .i64 0)).setCell ⟨B, 8, none⟩ (.int .i64 0)).setCell ⟨B, 9, none⟩ (.int .i64 0)).setCell ⟨B, 10, none⟩ (.slice none 0 0)).setCell ⟨B, 11, none⟩ (.slice none 0 0)).heap[B]? = some (.cells #[.int .i64 K, .int .u32 Bo, .int .i64 0, .int .u32 0, .int .i64 0, .int .i64 0, .int .i64 0, .int .i64 0, .int .i64 0, .int .i64 0, .slice none 0 0, .slice none 0 0] 26 (0, 0)) ∧ x.grownBy ((((((((((((x.setCell ⟨B, 0, none⟩ (.int .i64 K)).setCell ⟨B, 1, none⟩ (.int .u32 Bo)).setCell ⟨B, 2, none⟩ (.int .i64 0)).setCell ⟨B, 3, none⟩ (.int .u32 0)).setCell ⟨B, 4, none⟩ (.int .i64 0)).setCell ⟨B, 5, none⟩ (.int .i64 0)).setCell ⟨B, 6, none⟩ (.int .i64 0)).setCell ⟨B, 7, none⟩ (.int .i64 0)).setCell ⟨B, 8, none⟩ (.int .i64 0)).setCell ⟨B, 9, none⟩ (.int .i64 0)).setCell ⟨B, 10, none⟩ (.slice none 0 0)).setCell ⟨B, 11, none⟩ (.slice none 0 0)) (some B) :=
  ⟨set_twelve _ _ _ _ _ _ _ _ _ _ _ _ hn, grownBy_setCells B (Array.toList #[.int .i64 K, .int .u32 Bo, .int .i64 0, .int .u32 0, .int .i64 0, .int .i64 0, .int .i64 0, .int .i64 0, .int .i64 0, .int .i64 0, .slice none 0 0, .slice none 0 0]) 0 x⟩
set_option maxRecDepth 8000 in
set_option maxHeartbeats 64000000 in
theorem srd_any (a0 : Option Addr) (n0 cap0 : Nat) (b : List Int) (w : World) (hn : b.length = n0) (hl : n0 ≤ 8000) (hc0 : n0 ≤ cap0) (hcm : cap0 ≤ maxLen) (hb : Bytes b) (hr : Row w a0 b) : Calls Try.prog 14 #[.slice a0 n0 cap0] w fun e w' => MsP w (rdOk b) (rdE b) (mnT (txT b)) e w' := by
  have hA : Below w.heap.size w ((w.alloc (.cells #[.int .i64 0, .int .u32 0, .int .i64 0, .int .u32 0, .int .i64 0, .int .i64 0, .int .i64 0, .int .i64 0, .int .i64 0, .int .i64 0, .slice none 0 0, .slice none 0 0] 26)).alloc (.cells #[.int .i64 0, .int .u32 0, .int .i64 0, .int .u32 0, .int .i64 0, .int .i64 0, .int .i64 0, .int .i64 0, .int .i64 0, .int .i64 0, .slice none 0 0, .slice none 0 0] 26)) := (below_allocJ w _).trans ((below_allocJ _ _).mono (below_allocJ w _).size)
  have hZ1 : (((w.alloc (.cells #[.int .i64 0, .int .u32 0, .int .i64 0, .int .u32 0, .int .i64 0, .int .i64 0, .int .i64 0, .int .i64 0, .int .i64 0, .int .i64 0, .slice none 0 0, .slice none 0 0] 26)).alloc (.cells #[.int .i64 0, .int .u32 0, .int .i64 0, .int .u32 0, .int .i64 0, .int .i64 0, .int .i64 0, .int .i64 0, .int .i64 0, .int .i64 0, .slice none 0 0, .slice none 0 0] 26)).heap[w.heap.size]? = some (.cells #[.int .i64 0, .int .u32 0, .int .i64 0, .int .u32 0, .int .i64 0, .int .i64 0, .int .i64 0, .int .i64 0, .int .i64 0, .int .i64 0, .slice none 0 0, .slice none 0 0] 26 (0, 0))) := ((below_allocJ (w.alloc (.cells #[.int .i64 0, .int .u32 0, .int .i64 0, .int .u32 0, .int .i64 0, .int .i64 0, .int .i64 0, .int .i64 0, .int .i64 0, .int .i64 0, .slice none 0 0, .slice none 0 0] 26)) _).block _ (by simp)).trans (heap_alloc_newM w _)
  have hN1 : (((w.alloc (.cells #[.int .i64 0, .int .u32 0, .int .i64 0, .int .u32 0, .int .i64 0, .int .i64 0, .int .i64 0, .int .i64 0, .int .i64 0, .int .i64 0, .slice none 0 0, .slice none 0 0] 26)).alloc (.cells #[.int .i64 0, .int .u32 0, .int .i64 0, .int .u32 0, .int .i64 0, .int .i64 0, .int .i64 0, .int .i64 0, .int .i64 0, .int .i64 0, .slice none 0 0, .slice none 0 0] 26)).heap[w.heap.size + 1]? = some (.cells #[.int .i64 0, .int .u32 0, .int .i64 0, .int .u32 0, .int .i64 0, .int .i64 0, .int .i64 0, .int .i64 0, .int .i64 0, .int .i64 0, .slice none 0 0, .slice none 0 0] 26 (0, 0))) := by
    have := heap_alloc_newM (w.alloc (.cells #[.int .i64 0, .int .u32 0, .int .i64 0, .int .u32 0, .int .i64 0, .int .i64 0, .int .i64 0, .int .i64 0, .int .i64 0, .int .i64 0, .slice none 0 0, .slice none 0 0] 26)) (.cells #[.int .i64 0, .int .u32 0, .int .i64 0, .int .u32 0, .int .i64 0, .int .i64 0, .int .i64 0, .int .i64 0, .int .i64 0, .int .i64 0, .slice none 0 0, .slice none 0 0] 26)
    rwa [show (w.alloc (.cells #[.int .i64 0, .int .u32 0, .int .i64 0, .int .u32 0, .int .i64 0, .int .i64 0, .int .i64 0, .int .i64 0, .int .i64 0, .int .i64 0, .slice none 0 0, .slice none 0 0] 26)).heap.size = w.heap.size + 1 by simp] at this
  obtain ⟨w0, hw0⟩ : ∃ w0, (w.alloc (.cells #[.int .i64 0, .int .u32 0, .int .i64 0, .int .u32 0, .int .i64 0, .int .i64 0, .int .i64 0, .int .i64 0, .int .i64 0, .int .i64 0, .slice none 0 0, .slice none 0 0] 26)).alloc (.cells #[.int .i64 0, .int .u32 0, .int .i64 0, .int .u32 0, .int .i64 0, .int .i64 0, .int .i64 0, .int .i64 0, .int .i64 0, .int .i64 0, .slice none 0 0, .slice none 0 0] 26) = w0 := ⟨_, rfl⟩
  rw [hw0] at hA hZ1 hN1
  have HN0 : Hid (w0.heap[w.heap.size + 1]? = some (.cells #[.int .i64 0, .int .u32 0, .int .i64 0, .int .u32 0, .int .i64 0, .int .i64 0, .int .i64 0, .int .i64 0, .int .i64 0, .int .i64 0, .slice none 0 0, .slice none 0 0] 26 (0, 0))) := hN1
  have hS := rb_start hA hZ1 hN1
  clear hA hZ1 hN1
  obtain ⟨hA, hZ1, hN1⟩ := hS
  obtain ⟨w1, hw1⟩ : ∃ w1, ((((((((((((w0.setCell ⟨w.heap.size + 1, 0, none⟩ (.int .i64 0)).setCell ⟨w.heap.size + 1, 1, none⟩ (.int .u32 0)).setCell ⟨w.heap.size + 1, 2, none⟩ (.int .i64 0)).setCell ⟨w.heap.size + 1, 3, none⟩ (.int .u32 0)).setCell ⟨w.heap.size + 1, 4, none⟩ (.int .i64 0)).setCell ⟨w.heap.size + 1, 5, none⟩ (.int .i64 0)).setCell ⟨w.heap.size + 1, 6, none⟩ (.int .i64 0)).setCell ⟨w.heap.size + 1, 7, none⟩ (.int .i64 0)).setCell ⟨w.heap.size + 1, 8, none⟩ (.int .i64 0)).setCell ⟨w.heap.size + 1, 9, none⟩ (.int .i64 0)).setCell ⟨w.heap.size + 1, 10, none⟩ (.slice none 0 0)).setCell ⟨w.heap.size + 1, 11, none⟩ (.slice none 0 0)) = w1 := ⟨_, rfl⟩
  rw [hw1] at hA hZ1 hN1
  have HZ1 : Hid ((w1.heap[w.heap.size]? = some (.cells #[.int .i64 0, .int .u32 0, .int .i64 0, .int .u32 0, .int .i64 0, .int .i64 0, .int .i64 0, .int .i64 0, .int .i64 0, .int .i64 0, .slice none 0 0, .slice none 0 0] 26 (0, 0))) ∧ (w1.heap[w.heap.size + 1]? = some (.cells #[.int .i64 0, .int .u32 0, .int .i64 0, .int .u32 0, .int .i64 0, .int .i64 0, .int .i64 0, .int .i64 0, .int .i64 0, .int .i64 0, .slice none 0 0, .slice none 0 0] 26 (0, 0)))) := ⟨hZ1, hN1⟩
  have HA : Hid (Below w.heap.size w w1) := hA
  by_cases h9 : n0 < 9
  · have h9i : (n0 : Int) - 4 < 5 := by omega
    have HF : Hid (MsP w (rdOk b) (rdE b) (mnT (txT b)) (.returned (.tuple #[.agg #[.int .i64 0, .int .u32 0, .int .i64 0, .int .u32 0, .int .i64 0, .int .i64 0, .int .i64 0, .int .i64 0, .int .i64 0, .int .i64 0, .slice none 0 0, .slice none 0 0], .int .i64 2])) (w1.setCells w.heap.size 0 (Array.toList #[.int .i64 0, .int .u32 0, .int .i64 0, .int .u32 0, .int .i64 0, .int .i64 0, .int .i64 0, .int .i64 0, .int .i64 0, .int .i64 0, .slice none 0 0, .slice none 0 0]))) := by
      have e1 : rdOk b = false := by unfold rdOk; rw [hn, decide_eq_false (by omega)]; rfl
      have e2 : rdE b = 2 := by unfold rdE; rw [hn, if_pos h9]
      rw [e1, e2]
      exact fin_bad 2 rfl hA
    clear hA HA hn hl hc0 hcm hb hr hZ1 hN1
    obtain ⟨k0, k1, k2, k3, k4, k5, k6, k7, k8, k9, k10, k11⟩ := twelve_cells HN0.out
    obtain ⟨l0, l1, l2, l3, l4, l5, l6, l7, l8, l9, l10, l11⟩ := fz_twelve HN0.out
    go_enter Try.func14, Try.ntmps14
    go_upto_region 2 with fail
    try rw [hw1]
    clear hw1 hw0 HN0 k0 k1 k2 k3 k4 k5 k6 k7 k8 k9 k10 k11 l0 l1 l2 l3 l4 l5 l6 l7 l8 l9 l10 l11
    have HX : Hid ((w1.setCells w.heap.size 0 (Array.toList #[.int .i64 0, .int .u32 0, .int .i64 0, .int .u32 0, .int .i64 0, .int .i64 0, .int .i64 0, .int .i64 0, .int .i64 0, .int .i64 0, .slice none 0 0, .slice none 0 0])).heap[w.heap.size]? = some (.cells #[.int .i64 0, .int .u32 0, .int .i64 0, .int .u32 0, .int .i64 0, .int .i64 0, .int .i64 0, .int .i64 0, .int .i64 0, .int .i64 0, .slice none 0 0, .slice none 0 0] 26 (0, 0))) := set_twelve _ _ _ _ _ _ _ _ _ _ _ _ HZ1.out.1
    obtain ⟨z0, z1, z2, z3, z4, z5, z6, z7, z8, z9, z10, z11⟩ := twelve_cells (HZ1.out.1)
    obtain ⟨y0, y1, y2, y3, y4, y5, y6, y7, y8, y9, y10, y11⟩ := fz_twelve (HZ1.out.1)
    obtain ⟨n0, n1, n2, n3, n4, n5, n6, n7, n8, n9, n10, n11⟩ := twelve_cells (HZ1.out.2)
    go_wp2
    refine bodyPost_ret (v := .tuple #[.agg #[.int .i64 0, .int .u32 0, .int .i64 0, .int .u32 0, .int .i64 0, .int .i64 0, .int .i64 0, .int .i64 0, .int .i64 0, .int .i64 0, .slice none 0 0, .slice none 0 0], .int .i64 2]) ?_ rfl HF.out
    rw [results_ct rfl]
    simp [asAddr]
    have L0 := load_msg HX.out
    refine (congrArg (fun r => Result.andThen r _) L0).trans ?_
    rfl
  · obtain ⟨bb, off, rfl⟩ : ∃ bb off, a0 = some ⟨bb, off, none⟩ := by
      rcases hr with e | ⟨bb, off, e, _⟩
      · rw [e] at hn; simp at hn; omega
      · exact ⟨bb, off, e⟩
    obtain ⟨m, hm⟩ : ∃ m, n0 = m + 4 := ⟨n0 - 4, by omega⟩
    subst hm
    have hm5 : 5 ≤ m := by omega
    unfold maxLen at hcm
    have etx : txT b = b.take m := by unfold txT; rw [hn]; rfl
    have hr1 : Row w1.drew (some ⟨bb, off, none⟩) b := (hr.old hA).old (below_drewJ w1)
    have HT : Hid (txT b = b.take m ∧ Bytes b ∧ b.length = m + 4 ∧ Row w1.drew (some ⟨bb, off, none⟩) b ∧ Below w.heap.size w w1.drew ∧ (w1.drew.heap[w.heap.size]? = some (.cells #[.int .i64 0, .int .u32 0, .int .i64 0, .int .u32 0, .int .i64 0, .int .i64 0, .int .i64 0, .int .i64 0, .int .i64 0, .int .i64 0, .slice none 0 0, .slice none 0 0] 26 (0, 0))) ∧ (w1.drew.heap[w.heap.size + 1]? = some (.cells #[.int .i64 0, .int .u32 0, .int .i64 0, .int .u32 0, .int .i64 0, .int .i64 0, .int .i64 0, .int .i64 0, .int .i64 0, .int .i64 0, .slice none 0 0, .slice none 0 0] 26 (0, 0)))) := ⟨etx, hb, hn, hr1, hA.trans ((below_drewJ w1).mono hA.size), hZ1, hN1⟩
    have C1 := rof_any (some ⟨bb, off, none⟩) m cap0 (b.take m) w1.drew (by rw [List.length_take]; omega) (by omega) (hb.take m) (hr1.take m)
    have hrd : Row w1.drew (some ⟨bb, off + m, none⟩) (b.drop m) := by
      have := row_cut hr1 m 4 (by omega)
      rwa [List.take_of_length_le (by rw [List.length_drop]; omega)] at this
    have C2 := rturn_any (some ⟨bb, off + m, none⟩) 4 (cap0 - m) (b.drop m) w1.drew (by rw [List.length_drop]; omega) (by omega) hrd
    have esm : smT b = litN (b.drop m) := by unfold smT; rw [hn]; rfl
    have hsb := litN_bound (hb.drop m)
    rw [List.length_drop, hn, show m + 4 - m = 4 by omega] at hsb
    obtain ⟨S4, hS⟩ : ∃ S, litN (b.drop m) = S := ⟨_, rfl⟩
    rw [hS] at esm hsb
    have hS4 : 0 ≤ S4 ∧ S4 < 4294967296 := by simpa using hsb
    obtain ⟨X, hX⟩ : ∃ X, (crcM (BitVec.ofNat 32 0) (b.take m)).toNat = X := ⟨_, rfl⟩
    have hXlt : X < 4294967296 := by rw [← hX]; exact (crcM (BitVec.ofNat 32 0) (b.take m)).isLt
    have ecr : crT b = (X : Int) := by unfold crT; rw [etx, hX]
    rw [hX] at C1
    have HC1 : Hid _ := C1
    have HC2 : Hid _ := C2
    have HNm : Hid (∀ u (a : Option Addr) (c : Nat), Row u a (b.drop m).reverse → Calls Try.prog 29 #[.slice a 4 c] u fun e w' => e = .returned (.int .i64 S4) ∧ w' = u) := fun u a c hu => by
      have := rnum_any a 4 c (b.drop m).reverse u (by rw [List.length_reverse, List.length_drop]; omega) (by omega) (fun z hz => hb.drop m z (by simpa using hz)) hu
      rwa [bigN_reverse, hS] at this
    have HRl : Hid ((b.drop m).reverse.length = 4) := by show _ = _; rw [List.length_reverse, List.length_drop]; omega
    have HE : Hid (rdOk b = (decide (S4 = (X : Int)) && okT (txT b)) ∧ rdE b = if S4 = (X : Int) then 3 else 4) := by
      refine ⟨?_, ?_⟩
      · unfold rdOk; rw [esm, ecr, hn, decide_eq_true (by omega : 9 ≤ m + 4)]; simp
      · unfold rdE; rw [esm, ecr, hn, if_neg (by omega)]
    have hsw : IntKind.u32.wrap S4 = S4 := by rw [IntKind.wrap_u32]; omega
    have hcp : ¬ cap0 = m := by omega
    have i1 : (0 : Int) ≤ (m : Int) := by omega
    have i2 : (m : Int) ≤ (cap0 : Int) := by omega
    have i3 : (m : Int) ≤ (m : Int) + 4 := by omega
    have i4 : (m : Int) + 4 ≤ (cap0 : Int) := by omega
    have i5 : m ≤ cap0 := by omega
    have i6 : m ≤ m + 4 := by omega
    clear C1 C2 hrd esm hsb hS hX ecr etx hr1 hA HA HZ1 hn hb hr h9 hZ1 hN1
    obtain ⟨k0, k1, k2, k3, k4, k5, k6, k7, k8, k9, k10, k11⟩ := twelve_cells HN0.out
    obtain ⟨l0, l1, l2, l3, l4, l5, l6, l7, l8, l9, l10, l11⟩ := fz_twelve HN0.out
    go_enter Try.func14, Try.ntmps14
    go_upto_region 2 with fail
    try rw [hw1]
    clear hw1 hw0 HN0 k0 k1 k2 k3 k4 k5 k6 k7 k8 k9 k10 k11 l0 l1 l2 l3 l4 l5 l6 l7 l8 l9 l10 l11
    go_upto_region 5 with fail
    go_region_held3 (fun _ => True) (exact trivial) (first
      | (go_at_call 28; refine Calls.mono HC1.out ?_; rintro e x ⟨rfl, hx⟩; have hx2 := hx.symm; clear hx; subst hx2)
      | (go_at_call 30; refine Calls.mono HC2.out ?_; rintro e w2 ⟨a2, c2, rfl, t1, t2, t3, t4, t5⟩; rw [HRl.out] at t1 ⊢; have HR2 : Hid (Row w2 a2 (b.drop m).reverse) := t4; have HB2 : Hid (Below w1.drew.heap.size w1.drew w2) := t5; clear t1 t2 t3 t4 t5)
      | (go_at_call 29; refine Calls.mono (HNm.out _ _ _ HR2.out) ?_; rintro e x ⟨rfl, hx⟩; have hx2 := hx.symm; clear hx; subst hx2))
    have HW2 : Hid (Row w2 (some ⟨bb, off, none⟩) b ∧ Below w.heap.size w w2 ∧ (w2.heap[w.heap.size]? = some (.cells #[.int .i64 0, .int .u32 0, .int .i64 0, .int .u32 0, .int .i64 0, .int .i64 0, .int .i64 0, .int .i64 0, .int .i64 0, .int .i64 0, .slice none 0 0, .slice none 0 0] 26 (0, 0))) ∧ (w2.heap[w.heap.size + 1]? = some (.cells #[.int .i64 0, .int .u32 0, .int .i64 0, .int .u32 0, .int .i64 0, .int .i64 0, .int .i64 0, .int .i64 0, .int .i64 0, .int .i64 0, .slice none 0 0, .slice none 0 0] 26 (0, 0)))) := ⟨HT.out.2.2.2.1.old HB2.out, HT.out.2.2.2.2.1.trans (HB2.out.mono HT.out.2.2.2.2.1.size), (HB2.out.block _ (lt_of_block HT.out.2.2.2.2.2.1)).trans HT.out.2.2.2.2.2.1, (HB2.out.block _ (lt_of_block HT.out.2.2.2.2.2.2)).trans HT.out.2.2.2.2.2.2⟩
    have HTb : Hid (txT b = b.take m ∧ Bytes b ∧ b.length = m + 4) := ⟨HT.out.1, HT.out.2.1, HT.out.2.2.1⟩
    clear HT HB2 HR2 HC1 HC2 HNm HRl
    by_cases hs : S4 = (X : Int)
    · subst hs
      rw [decide_eq_true rfl, if_pos rfl] at HE
      have hne : ((X : Int) != (X : Int)) = false := by simp
      obtain ⟨b0, hb0⟩ : ∃ x, b[0]?.getD 0 = x := ⟨_, rfl⟩
      have ht5 : 5 ≤ (b.take m).length := by rw [List.length_take, HTb.out.2.2]; omega
      have hkd : kdT (txT b) = b0 := by
        unfold kdT
        rw [HTb.out.1, (bN_at0 (b.take m) 1 (by omega)).1]
        unfold nuN
        rw [cut_take b m 0 1 (by omega), List.drop_zero, ← hb0]
        have := HTb.out.2.2
        match b, this with
        | x :: r, _ => simp [bigN]
      have hb0b : 0 ≤ b0 ∧ b0 < 256 := by rw [← hb0]; exact HTb.out.2.1.at 0
      have HC0 : Hid (∀ u, Below w2.heap.size w2 u → u.cell? ⟨bb, off, none⟩ = some (.int .u8 b0)) := fun u hu => by
        have hr := HW2.out.1.old hu
        rcases hr with e | ⟨b2, o2, e, hc⟩
        · have := HTb.out.2.2; rw [e] at this; simp at this
        · simp at e
          obtain ⟨rfl, rfl⟩ := e
          have := hc 0 (by have := HTb.out.2.2; omega)
          rwa [hb0] at this
      have hbo : boT (txT b) = nuN b 1 4 := by
        unfold boT
        rw [HTb.out.1, (bN_at0 (b.take m) 1 (by omega)).2, (bN_at (b.take m) 1 4 (by omega)).1]
        unfold nuN
        rw [cut_take b m 1 4 (by omega)]
      obtain ⟨Bo, hBo⟩ : ∃ x, nuN b 1 4 = x := ⟨_, rfl⟩
      have hBob : 0 ≤ Bo ∧ Bo < 4294967296 := by
        have := nuN_bd HTb.out.2.1 1 4 (by rw [HTb.out.2.2]; omega)
        rw [hBo] at this
        simpa using this
      obtain ⟨B, hB⟩ : ∃ x, (b.drop 5).take (m - 5) = x := ⟨_, rfl⟩
      have hBt : (b.take m).drop 5 = B := by rw [List.drop_take, hB]
      have hs2 : s2T (txT b) = .ok B := by
        unfold s2T
        rw [HTb.out.1, (bN_at0 (b.take m) 1 (by omega)).2, (bN_at (b.take m) 1 4 (by omega)).2, hBt]
      obtain ⟨N5, hN5⟩ : ∃ x, m - 5 = x := ⟨_, rfl⟩
      have hBl : B.length = N5 := by rw [← hB, List.length_take, List.length_drop, HTb.out.2.2]; omega
      have hN5b : N5 ≤ 8000 ∧ (m : Int) - 5 = (N5 : Int) ∧ N5 + 5 = m := by omega
      have HBb : Hid (Bytes B ∧ B.length = N5) := ⟨by rw [← hB]; exact (HTb.out.2.1.drop 5).take _, hBl⟩
      have HOK0 : Hid (okT (txT b) = (isKd b0 && enK b0 B && myN ((tkN b0 (.ok B)).kb b0 Bo)) ∧ mnT (txT b) = (tkN b0 (.ok B)).kb b0 Bo) := by
        have e2 : mnT (txT b) = (tkN b0 (.ok B)).kb b0 Bo := by unfold mnT; rw [hkd, hbo, hs2, hBo]
        refine ⟨?_, e2⟩
        unfold okT enT
        rw [e2, hkd, hs2]
        unfold enK
        simp only [Bool.and_assoc]
      have HN1 : Hid (∀ u, Below w2.heap.size w2 u → Calls Try.prog 29 #[.slice (some ⟨bb, off + 1, none⟩) 4 (cap0 - 1)] u fun e w' => e = .returned (.int .i64 Bo) ∧ w' = u) := fun u hu => by
        have := rnum_any (some ⟨bb, off + 1, none⟩) 4 (cap0 - 1) ((b.drop 1).take 4) u (by rw [List.length_take, List.length_drop, HTb.out.2.2]; omega) (by omega) ((HTb.out.2.1.drop 1).take 4) (row_cut (HW2.out.1.old hu) 1 4 (by rw [HTb.out.2.2]; omega))
        have e : bigN ((b.drop 1).take 4) = Bo := hBo
        rwa [e] at this
      have hrB : Row w2 (some ⟨bb, off + 5, none⟩) B := by
        have := row_cut HW2.out.1 5 N5 (by rw [HTb.out.2.2]; omega)
        rwa [← hN5, hB] at this
      have HRB : Hid (Row w2 (some ⟨bb, off + 5, none⟩) B) := hrB
      have hsw2 : IntKind.u32.wrap Bo = Bo := by rw [IntKind.wrap_u32]; omega
      have hwb : IntKind.i64.wrap b0 = b0 := by rw [IntKind.wrap_i64]; omega
      have i0 : (0 : Int) < (m : Int) + 4 := by omega
      have i7 : (5 : Int) ≤ (cap0 : Int) := by omega
      have i8 : (5 : Int) ≤ (m : Int) := by omega
      have i9 : (5 : Int) ≤ (m : Int) + 4 := by omega
      have ic : ¬ cap0 = 1 := by omega
      have id5 : ¬ cap0 = 5 := by omega
      have hbb : bb < w2.heap.size := cell_lt (HC0.out w2 (Below.refl _ _))
      clear hb0 ht5 hkd hbo hBo hB hBt hs2 hBl hrB hsw hS4 hXlt hcp
      go_upto_region 7 with fail
      go_cut [6] (fun v6 wx => v6 = .pointer (some ⟨w2.heap.size, 0, none⟩) ∧ wx.heap[w2.heap.size]? = some (.cells #[.int .i64 b0, .int .u32 Bo, .int .i64 0, .int .u32 0, .int .i64 0, .int .i64 0, .int .i64 0, .int .i64 0, .int .i64 0, .int .i64 0, .slice none 0 0, .slice none 0 0] 26 (0, 0)) ∧ Below w2.heap.size w2 wx)
      case first =>
        have e0 : Below w2.heap.size w2 w2.drew := below_drewJ w2
        have f1 : Below w2.heap.size w2 (w2.alloc (.cells #[.int .i64 0, .int .u32 0, .int .i64 0, .int .u32 0, .int .i64 0, .int .i64 0, .int .i64 0, .int .i64 0, .int .i64 0, .int .i64 0, .slice none 0 0, .slice none 0 0] 26)) := below_allocJ w2 _
        have e1 : Below w2.heap.size w2 ((w2.alloc (.cells #[.int .i64 0, .int .u32 0, .int .i64 0, .int .u32 0, .int .i64 0, .int .i64 0, .int .i64 0, .int .i64 0, .int .i64 0, .int .i64 0, .slice none 0 0, .slice none 0 0] 26)).drew) := f1.trans ((below_drewJ _).mono f1.size)
        have HE5 : Hid (Below w2.heap.size w2 w2.drew ∧ Below w2.heap.size w2 ((w2.alloc (.cells #[.int .i64 0, .int .u32 0, .int .i64 0, .int .u32 0, .int .i64 0, .int .i64 0, .int .i64 0, .int .i64 0, .int .i64 0, .int .i64 0, .slice none 0 0, .slice none 0 0] 26)).drew)) := ⟨e0, e1⟩
        have c0 := HC0.out _ e0
        have c1 := HC0.out _ e1
        have t1 : ((w2.alloc (.cells #[.int .i64 0, .int .u32 0, .int .i64 0, .int .u32 0, .int .i64 0, .int .i64 0, .int .i64 0, .int .i64 0, .int .i64 0, .int .i64 0, .slice none 0 0, .slice none 0 0] 26)).drew).heap[w2.heap.size]? = some (.cells #[.int .i64 0, .int .u32 0, .int .i64 0, .int .u32 0, .int .i64 0, .int .i64 0, .int .i64 0, .int .i64 0, .int .i64 0, .int .i64 0, .slice none 0 0, .slice none 0 0] 26 (0, 0)) := heap_alloc_newM w2 _
        have HTk : Hid (((w2.alloc (.cells #[.int .i64 0, .int .u32 0, .int .i64 0, .int .u32 0, .int .i64 0, .int .i64 0, .int .i64 0, .int .i64 0, .int .i64 0, .int .i64 0, .slice none 0 0, .slice none 0 0] 26)).drew).heap[w2.heap.size]? = some (.cells #[.int .i64 0, .int .u32 0, .int .i64 0, .int .u32 0, .int .i64 0, .int .i64 0, .int .i64 0, .int .i64 0, .int .i64 0, .int .i64 0, .slice none 0 0, .slice none 0 0] 26 (0, 0))) := t1
        clear e0 e1 f1 t1
        go_region_held3 (fun u => u.cell? ⟨bb, off, none⟩ = some (.int .u8 b0))
          (first | (with_reducible assumption) | exact HC0.out _ ((below_allocJ w2 _).trans ((below_drewJ _).mono (below_allocJ w2 _).size))) (first
          | (go_at_call 29; (first | refine Calls.mono (HN1.out w2.drew HE5.out.1) ?_ | refine Calls.mono (HN1.out ((w2.alloc (.cells #[.int .i64 0, .int .u32 0, .int .i64 0, .int .u32 0, .int .i64 0, .int .i64 0, .int .i64 0, .int .i64 0, .int .i64 0, .int .i64 0, .slice none 0 0, .slice none 0 0] 26)).drew) HE5.out.2) ?_); rintro e x ⟨rfl, hx⟩; have hx2 := hx.symm; clear hx; subst hx2))
        all_goals go_wp2
        all_goals go_meet
        all_goals (first
          | exact ⟨rfl, heap_alloc_newM _ _, (below_drewJ w2).trans ((below_allocJ w2.drew _).mono (Nat.le_refl _))⟩
          | exact ⟨rfl, heap_alloc_newM _ _, (below_allocJ w2 _).trans ((below_drewJ _).mono (below_allocJ w2 _).size)⟩
          | exact ⟨rfl, heap_alloc_newM _ _, below_allocJ w2 _⟩)
      case rest =>
        obtain ⟨rfl, hM, hbx⟩ := hcut
        obtain ⟨M, hMe⟩ : ∃ M, w2.heap.size = M := ⟨_, rfl⟩
        have HRb : Hid (RbI w M #[.int .i64 b0, .int .u32 Bo, .int .i64 0, .int .u32 0, .int .i64 0, .int .i64 0, .int .i64 0, .int .i64 0, .int .i64 0, .int .i64 0, .slice none 0 0, .slice none 0 0] wc) := by
          have hl := lt_of_block HW2.out.2.2.2
          have hR := HW2.out
          rw [hMe] at hM
          exact ⟨hR.2.1.trans (hbx.mono hR.2.1.size), (hbx.block _ (lt_of_block hR.2.2.1)).trans hR.2.2.1, (hbx.block _ hl).trans hR.2.2.2, hM, by omega⟩
        have HNu : Hid (∀ u (p s : Nat), Below w2.heap.size w2 u → p + s ≤ N5 → 1 ≤ s → s ≤ 4 → Calls Try.prog 31 #[.slice (some ⟨bb, off + 5, none⟩) N5 (cap0 - 5), .int .i64 (p : Int), .int .i64 (s : Int)] u fun e w' => e = .returned (.int .i64 (nuN B p s)) ∧ w' = u) := fun u p s hu h1 h2 h3 => rnu_any (some ⟨bb, off + 5, none⟩) N5 (cap0 - 5) B p s u HBb.out.2 (by omega) (by omega) HBb.out.1 (HRB.out.old hu) h1 h2 h3
        have HBx : Hid (Below M w2 wc) := by show Below _ _ _; rw [← hMe]; exact hbx
        have HRM : Hid (Row w2 (some ⟨bb, off + 5, none⟩) B ∧ w2.heap.size = M) := ⟨HRB.out, hMe⟩
        try rw [hMe]
        rw [hMe] at HNu
        clear hM hbx hMe HW2 HC0 HN1 HRB HTb
        go_upto_region 8 with fail
        go_upto_region 9 with fail
        try rw [hN5]
        obtain ⟨d0, d1, d2, d3, d4, d5, d6, d7, d8, d9, d10, d11⟩ := twelve_cells HRb.out.m
        by_cases k1 : b0 = 1
        · subst k1
          by_cases hL : N5 = 9
          · subst hL
            obtain ⟨F, hF⟩ : ∃ x, nuN B 0 1 = x := ⟨_, rfl⟩
            have bF := nuN_bd HBb.out.1 0 1 (by rw [HBb.out.2]; omega)
            rw [hF] at bF
            simp at bF
            obtain ⟨S, hS⟩ : ∃ x, nuN B 1 4 = x := ⟨_, rfl⟩
            have bS := nuN_bd HBb.out.1 1 4 (by rw [HBb.out.2]; omega)
            rw [hS] at bS
            simp at bS
            obtain ⟨P, hP⟩ : ∃ x, nuN B 5 4 = x := ⟨_, rfl⟩
            have bP := nuN_bd HBb.out.1 5 4 (by rw [HBb.out.2]; omega)
            rw [hP] at bP
            simp at bP
            have HMn0 : Hid ((tkN 1 (.ok B)).kb 1 Bo = ⟨1, Bo, F, S, 0, P, 0, 0, 0, 0, [], []⟩) := by
              show (tk_ask (.ok B)).kb 1 Bo = _
              rw [rd_ask B HBb.out.2, hF, hS, hP]
              rfl
            have hCF : Hid (Below M w2 wc → Calls Try.prog 31 #[.slice (some ⟨bb, off + 5, none⟩) 9 (cap0 - 5), .int .i64 0, .int .i64 1] wc fun e w' => e = .returned (.int .i64 F) ∧ w' = wc) := fun hu => by
              have := HNu.out wc 0 1 hu (by omega) (by omega) (by omega)
              rw [hF] at this
              exact this
            have hCS : Hid (Below M w2 (wc.setCell ⟨M, 2, none⟩ (.int .i64 F)) → Calls Try.prog 31 #[.slice (some ⟨bb, off + 5, none⟩) 9 (cap0 - 5), .int .i64 1, .int .i64 4] (wc.setCell ⟨M, 2, none⟩ (.int .i64 F)) fun e w' => e = .returned (.int .i64 S) ∧ w' = (wc.setCell ⟨M, 2, none⟩ (.int .i64 F))) := fun hu => by
              have := HNu.out (wc.setCell ⟨M, 2, none⟩ (.int .i64 F)) 1 4 hu (by omega) (by omega) (by omega)
              rw [hS] at this
              exact this
            have hCP : Hid (Below M w2 ((wc.setCell ⟨M, 2, none⟩ (.int .i64 F)).setCell ⟨M, 3, none⟩ (.int .u32 S)) → Calls Try.prog 31 #[.slice (some ⟨bb, off + 5, none⟩) 9 (cap0 - 5), .int .i64 5, .int .i64 4] ((wc.setCell ⟨M, 2, none⟩ (.int .i64 F)).setCell ⟨M, 3, none⟩ (.int .u32 S)) fun e w' => e = .returned (.int .i64 P) ∧ w' = ((wc.setCell ⟨M, 2, none⟩ (.int .i64 F)).setCell ⟨M, 3, none⟩ (.int .u32 S))) := fun hu => by
              have := HNu.out ((wc.setCell ⟨M, 2, none⟩ (.int .i64 F)).setCell ⟨M, 3, none⟩ (.int .u32 S)) 5 4 hu (by omega) (by omega) (by omega)
              rw [hP] at this
              exact this
            have HWF : Hid (Below M w2 wc) := HBx.out
            have HWS : Hid (Below M w2 (wc.setCell ⟨M, 2, none⟩ (.int .i64 F))) := HWF.out.setCell (Nat.le_refl _) _
            have HWP : Hid (Below M w2 ((wc.setCell ⟨M, 2, none⟩ (.int .i64 F)).setCell ⟨M, 3, none⟩ (.int .u32 S))) := HWS.out.setCell (Nat.le_refl _) _
            have HR : Hid (RbI w M #[.int .i64 1, .int .u32 Bo, .int .i64 F, .int .u32 S, .int .i64 0, .int .i64 P, .int .i64 0, .int .i64 0, .int .i64 0, .int .i64 0, .slice none 0 0, .slice none 0 0] (((wc.setCell ⟨M, 2, none⟩ (.int .i64 F)).setCell ⟨M, 3, none⟩ (.int .u32 S)).setCell ⟨M, 5, none⟩ (.int .i64 P))) := (((HRb.out.set 2 (.int .i64 F)).set 3 (.int .u32 S)).set 5 (.int .i64 P))
            have HMs : Hid (MsR (w.heap.size + 1) (((wc.setCell ⟨M, 2, none⟩ (.int .i64 F)).setCell ⟨M, 3, none⟩ (.int .u32 S)).setCell ⟨M, 5, none⟩ (.int .i64 P)) (⟨1, Bo, F, S, 0, P, 0, 0, 0, 0, [], []⟩ : Mn) none 0 none 0) := MsR.nil _ _ _ rfl rfl
            have HOKn : Hid (okT (txT b) = (isKd 1 && myN (⟨1, Bo, F, S, 0, P, 0, 0, 0, 0, [], []⟩ : Mn)) ∧ mnT (txT b) = (⟨1, Bo, F, S, 0, P, 0, 0, 0, 0, [], []⟩ : Mn)) := by
              refine ⟨?_, HOK0.out.2.trans HMn0.out⟩
              rw [HOK0.out.1, HMn0.out, en_ask, HBb.out.2]
              simp
            have HBn : Hid ((0 ≤ Bo ∧ Bo < 4294967296) ∧ (0 ≤ S ∧ S < 4294967296) ∧ ([] : List (Int × Int)).length ≤ 1000) := ⟨hBob, bS, by simp⟩
            have hw3 : IntKind.u32.wrap S = S := by rw [IntKind.wrap_u32]; omega
            have hfz := fz_twelve HRb.out.m
            obtain ⟨y0, y1, y2, y3, y4, y5, y6, y7, y8, y9, y10, y11⟩ := hfz
            clear HOK0 HMn0 hF hS hP
            go_upto_region 14 with (go_at_call 31; (with_reducible refine Calls.mono (hCF.out HWF.out) ?_); rintro e x ⟨rfl, hx⟩; have hx2 := hx.symm; clear hx; subst hx2)
            go_upto_region 15 with (go_at_call 31; (with_reducible refine Calls.mono (hCS.out HWS.out) ?_); rintro e x ⟨rfl, hx⟩; have hx2 := hx.symm; clear hx; subst hx2)
            go_upto_region 43 with (go_at_call 31; (with_reducible refine Calls.mono (hCP.out HWP.out) ?_); rintro e x ⟨rfl, hx⟩; have hx2 := hx.symm; clear hx; subst hx2)
            clear hCF hCS hCP HWF HWS HWP y0 y1 y2 y3 y4 y5 y6 y7 y8 y9 y10 y11 d0 d1 d2 d3 d4 d5 d6 d7 d8 d9 d10 d11
            obtain ⟨Y, hY⟩ : ∃ Y, (isKd 1 && myN (⟨1, Bo, F, S, 0, P, 0, 0, 0, 0, [], []⟩ : Mn)) = Y := ⟨_, rfl⟩
            have HMy : Hid (Calls Try.prog 23 #[.agg #[.int .i64 1, .int .u32 Bo, .int .i64 F, .int .u32 S, .int .i64 0, .int .i64 P, .int .i64 0, .int .i64 0, .int .i64 0, .int .i64 0, .slice none 0 0, .slice none 0 0]] (((wc.setCell ⟨M, 2, none⟩ (.int .i64 F)).setCell ⟨M, 3, none⟩ (.int .u32 S)).setCell ⟨M, 5, none⟩ (.int .i64 P)) fun e w' => e = .returned (.bool Y) ∧ Below ((((wc.setCell ⟨M, 2, none⟩ (.int .i64 F)).setCell ⟨M, 3, none⟩ (.int .u32 S)).setCell ⟨M, 5, none⟩ (.int .i64 P))).heap.size ((((wc.setCell ⟨M, 2, none⟩ (.int .i64 F)).setCell ⟨M, 3, none⟩ (.int .u32 S)).setCell ⟨M, 5, none⟩ (.int .i64 P))) w') := by
              have := may_rd (⟨1, Bo, F, S, 0, P, 0, 0, 0, 0, [], []⟩ : Mn) none 0 none 0 (w.heap.size + 1) ((((wc.setCell ⟨M, 2, none⟩ (.int .i64 F)).setCell ⟨M, 3, none⟩ (.int .u32 S)).setCell ⟨M, 5, none⟩ (.int .i64 P))) HMs.out HBn.out.1 HBn.out.2.1 HBn.out.2.2
              rw [← hY]
              exact this
            rw [hY] at HOKn
            obtain ⟨m0, m1, m2, m3, m4, m5, m6, m7, m8, m9, m10, m11⟩ := twelve_cells HR.out.m
            clear hY HNu HBx
            cases Y
            · go_upto_region 44 with (go_at_call 23; refine Calls.mono HMy.out ?_; rintro e w8 ⟨rfl, b8⟩; have HR8 : Hid (RbI w M #[.int .i64 1, .int .u32 Bo, .int .i64 F, .int .u32 S, .int .i64 0, .int .i64 P, .int .i64 0, .int .i64 0, .int .i64 0, .int .i64 0, .slice none 0 0, .slice none 0 0] w8) := HR.out.old b8; clear b8)
              have HF : Hid (MsP w (rdOk b) (rdE b) (mnT (txT b)) (.returned (.tuple #[.agg #[.int .i64 0, .int .u32 0, .int .i64 0, .int .u32 0, .int .i64 0, .int .i64 0, .int .i64 0, .int .i64 0, .int .i64 0, .int .i64 0, .slice none 0 0, .slice none 0 0], .int .i64 3])) (w8.setCells w.heap.size 0 (Array.toList #[.int .i64 0, .int .u32 0, .int .i64 0, .int .u32 0, .int .i64 0, .int .i64 0, .int .i64 0, .int .i64 0, .int .i64 0, .int .i64 0, .slice none 0 0, .slice none 0 0]))) := by
                rw [HE.out.1, HE.out.2, HOKn.out.1]
                exact fin_bad 3 rfl HR8.out.be
              have HX : Hid ((w8.setCells w.heap.size 0 (Array.toList #[.int .i64 0, .int .u32 0, .int .i64 0, .int .u32 0, .int .i64 0, .int .i64 0, .int .i64 0, .int .i64 0, .int .i64 0, .int .i64 0, .slice none 0 0, .slice none 0 0])).heap[w.heap.size]? = some (.cells #[.int .i64 0, .int .u32 0, .int .i64 0, .int .u32 0, .int .i64 0, .int .i64 0, .int .i64 0, .int .i64 0, .int .i64 0, .int .i64 0, .slice none 0 0, .slice none 0 0] 26 (0, 0))) := set_twelve _ _ _ _ _ _ _ _ _ _ _ _ HR8.out.z
              obtain ⟨z0, z1, z2, z3, z4, z5, z6, z7, z8, z9, z10, z11⟩ := twelve_cells (HR8.out.z)
              obtain ⟨y0, y1, y2, y3, y4, y5, y6, y7, y8, y9, y10, y11⟩ := fz_twelve (HR8.out.z)
              obtain ⟨n0, n1, n2, n3, n4, n5, n6, n7, n8, n9, n10, n11⟩ := twelve_cells (HR8.out.nb)
              go_wp2
              refine bodyPost_ret (v := .tuple #[.agg #[.int .i64 0, .int .u32 0, .int .i64 0, .int .u32 0, .int .i64 0, .int .i64 0, .int .i64 0, .int .i64 0, .int .i64 0, .int .i64 0, .slice none 0 0, .slice none 0 0], .int .i64 3]) ?_ rfl HF.out
              rw [results_ct rfl]
              simp [asAddr]
              have L0 := load_msg HX.out
              refine (congrArg (fun r => Result.andThen r _) L0).trans ?_
              rfl
            · go_upto_region 45 with (go_at_call 23; refine Calls.mono HMy.out ?_; rintro e w8 ⟨rfl, b8⟩; have HR8 : Hid (RbI w M #[.int .i64 1, .int .u32 Bo, .int .i64 F, .int .u32 S, .int .i64 0, .int .i64 P, .int .i64 0, .int .i64 0, .int .i64 0, .int .i64 0, .slice none 0 0, .slice none 0 0] w8 ∧ MsR (w.heap.size + 1) w8 (⟨1, Bo, F, S, 0, P, 0, 0, 0, 0, [], []⟩ : Mn) none 0 none 0) := ⟨HR.out.old b8, HMs.out.old b8⟩; clear b8)
              have HF : Hid (MsP w (rdOk b) (rdE b) (mnT (txT b)) (.returned (.tuple #[.agg #[.int .i64 1, .int .u32 Bo, .int .i64 F, .int .u32 S, .int .i64 0, .int .i64 P, .int .i64 0, .int .i64 0, .int .i64 0, .int .i64 0, .slice none 0 0, .slice none 0 0], .int .i64 0])) (w8.setCells w.heap.size 0 (Array.toList #[.int .i64 1, .int .u32 Bo, .int .i64 F, .int .u32 S, .int .i64 0, .int .i64 P, .int .i64 0, .int .i64 0, .int .i64 0, .int .i64 0, .slice none 0 0, .slice none 0 0]))) := by
                rw [HE.out.1, HE.out.2, HOKn.out.1, HOKn.out.2]
                exact fin_ok (n := (⟨1, Bo, F, S, 0, P, 0, 0, 0, 0, [], []⟩ : Mn)) (U0 := w.heap.size + 1) 3 rfl HR8.out.1.be HR8.out.2 (Nat.lt_succ_self _)
              have HX : Hid ((w8.setCells w.heap.size 0 (Array.toList #[.int .i64 1, .int .u32 Bo, .int .i64 F, .int .u32 S, .int .i64 0, .int .i64 P, .int .i64 0, .int .i64 0, .int .i64 0, .int .i64 0, .slice none 0 0, .slice none 0 0])).heap[w.heap.size]? = some (.cells #[.int .i64 1, .int .u32 Bo, .int .i64 F, .int .u32 S, .int .i64 0, .int .i64 P, .int .i64 0, .int .i64 0, .int .i64 0, .int .i64 0, .slice none 0 0, .slice none 0 0] 26 (0, 0))) := set_twelve _ _ _ _ _ _ _ _ _ _ _ _ HR8.out.1.z
              obtain ⟨z0, z1, z2, z3, z4, z5, z6, z7, z8, z9, z10, z11⟩ := twelve_cells HR8.out.1.z
              obtain ⟨y0, y1, y2, y3, y4, y5, y6, y7, y8, y9, y10, y11⟩ := fz_twelve HR8.out.1.z
              obtain ⟨q0, q1, q2, q3, q4, q5, q6, q7, q8, q9, q10, q11⟩ := twelve_cells HR8.out.1.m
              go_wp2
              refine bodyPost_ret (v := .tuple #[.agg #[.int .i64 1, .int .u32 Bo, .int .i64 F, .int .u32 S, .int .i64 0, .int .i64 P, .int .i64 0, .int .i64 0, .int .i64 0, .int .i64 0, .slice none 0 0, .slice none 0 0], .int .i64 0]) ?_ rfl HF.out
              rw [results_ct rfl]
              simp [asAddr]
              have L0 := load_msg HX.out
              refine (congrArg (fun r => Result.andThen r _) L0).trans ?_
              rfl
          · have hL2 : ((N5 : Int) != 9) = true := by simp; omega
            have HNo : Hid (rdOk b = false ∧ rdE b = 3) := ⟨by rw [HE.out.1, HOK0.out.1, en_ask, decide_eq_false (by rw [HBb.out.2]; exact hL)]; simp, HE.out.2⟩
            clear HNu HBx
            go_upto_region 12 with fail
            have HF : Hid (MsP w (rdOk b) (rdE b) (mnT (txT b)) (.returned (.tuple #[.agg #[.int .i64 0, .int .u32 0, .int .i64 0, .int .u32 0, .int .i64 0, .int .i64 0, .int .i64 0, .int .i64 0, .int .i64 0, .int .i64 0, .slice none 0 0, .slice none 0 0], .int .i64 3])) (wc.setCells w.heap.size 0 (Array.toList #[.int .i64 0, .int .u32 0, .int .i64 0, .int .u32 0, .int .i64 0, .int .i64 0, .int .i64 0, .int .i64 0, .int .i64 0, .int .i64 0, .slice none 0 0, .slice none 0 0]))) := by
              rw [HNo.out.1, HNo.out.2]
              exact fin_bad 3 rfl HRb.out.be
            have HX : Hid ((wc.setCells w.heap.size 0 (Array.toList #[.int .i64 0, .int .u32 0, .int .i64 0, .int .u32 0, .int .i64 0, .int .i64 0, .int .i64 0, .int .i64 0, .int .i64 0, .int .i64 0, .slice none 0 0, .slice none 0 0])).heap[w.heap.size]? = some (.cells #[.int .i64 0, .int .u32 0, .int .i64 0, .int .u32 0, .int .i64 0, .int .i64 0, .int .i64 0, .int .i64 0, .int .i64 0, .int .i64 0, .slice none 0 0, .slice none 0 0] 26 (0, 0))) := set_twelve _ _ _ _ _ _ _ _ _ _ _ _ HRb.out.z
            obtain ⟨z0, z1, z2, z3, z4, z5, z6, z7, z8, z9, z10, z11⟩ := twelve_cells (HRb.out.z)
            obtain ⟨y0, y1, y2, y3, y4, y5, y6, y7, y8, y9, y10, y11⟩ := fz_twelve (HRb.out.z)
            obtain ⟨n0, n1, n2, n3, n4, n5, n6, n7, n8, n9, n10, n11⟩ := twelve_cells (HRb.out.nb)
            go_wp2
            refine bodyPost_ret (v := .tuple #[.agg #[.int .i64 0, .int .u32 0, .int .i64 0, .int .u32 0, .int .i64 0, .int .i64 0, .int .i64 0, .int .i64 0, .int .i64 0, .int .i64 0, .slice none 0 0, .slice none 0 0], .int .i64 3]) ?_ rfl HF.out
            rw [results_ct rfl]
            simp [asAddr]
            have L0 := load_msg HX.out
            refine (congrArg (fun r => Result.andThen r _) L0).trans ?_
            rfl
        by_cases k2 : b0 = 2
        · subst k2
          by_cases hL : N5 = 15
          · subst hL
            obtain ⟨F, hF⟩ : ∃ x, nuN B 0 1 = x := ⟨_, rfl⟩
            have bF := nuN_bd HBb.out.1 0 1 (by rw [HBb.out.2]; omega)
            rw [hF] at bF
            simp at bF
            obtain ⟨S, hS⟩ : ∃ x, nuN B 1 4 = x := ⟨_, rfl⟩
            have bS := nuN_bd HBb.out.1 1 4 (by rw [HBb.out.2]; omega)
            rw [hS] at bS
            simp at bS
            obtain ⟨G, hG⟩ : ∃ x, nuN B 5 4 = x := ⟨_, rfl⟩
            have bG := nuN_bd HBb.out.1 5 4 (by rw [HBb.out.2]; omega)
            rw [hG] at bG
            simp at bG
            obtain ⟨P, hP⟩ : ∃ x, nuN B 9 4 = x := ⟨_, rfl⟩
            have bP := nuN_bd HBb.out.1 9 4 (by rw [HBb.out.2]; omega)
            rw [hP] at bP
            simp at bP
            obtain ⟨D, hD⟩ : ∃ x, nuN B 13 2 = x := ⟨_, rfl⟩
            have bD := nuN_bd HBb.out.1 13 2 (by rw [HBb.out.2]; omega)
            rw [hD] at bD
            simp at bD
            have HMn0 : Hid ((tkN 2 (.ok B)).kb 2 Bo = ⟨2, Bo, F, S, G, P, D, 0, 0, 0, [], []⟩) := by
              show (tk_offer (.ok B)).kb 2 Bo = _
              rw [rd_offer B HBb.out.2, hF, hS, hG, hP, hD]
              rfl
            have hCF : Hid (Below M w2 wc → Calls Try.prog 31 #[.slice (some ⟨bb, off + 5, none⟩) 15 (cap0 - 5), .int .i64 0, .int .i64 1] wc fun e w' => e = .returned (.int .i64 F) ∧ w' = wc) := fun hu => by
              have := HNu.out wc 0 1 hu (by omega) (by omega) (by omega)
              rw [hF] at this
              exact this
            have hCS : Hid (Below M w2 (wc.setCell ⟨M, 2, none⟩ (.int .i64 F)) → Calls Try.prog 31 #[.slice (some ⟨bb, off + 5, none⟩) 15 (cap0 - 5), .int .i64 1, .int .i64 4] (wc.setCell ⟨M, 2, none⟩ (.int .i64 F)) fun e w' => e = .returned (.int .i64 S) ∧ w' = (wc.setCell ⟨M, 2, none⟩ (.int .i64 F))) := fun hu => by
              have := HNu.out (wc.setCell ⟨M, 2, none⟩ (.int .i64 F)) 1 4 hu (by omega) (by omega) (by omega)
              rw [hS] at this
              exact this
            have hCG : Hid (Below M w2 ((wc.setCell ⟨M, 2, none⟩ (.int .i64 F)).setCell ⟨M, 3, none⟩ (.int .u32 S)) → Calls Try.prog 31 #[.slice (some ⟨bb, off + 5, none⟩) 15 (cap0 - 5), .int .i64 5, .int .i64 4] ((wc.setCell ⟨M, 2, none⟩ (.int .i64 F)).setCell ⟨M, 3, none⟩ (.int .u32 S)) fun e w' => e = .returned (.int .i64 G) ∧ w' = ((wc.setCell ⟨M, 2, none⟩ (.int .i64 F)).setCell ⟨M, 3, none⟩ (.int .u32 S))) := fun hu => by
              have := HNu.out ((wc.setCell ⟨M, 2, none⟩ (.int .i64 F)).setCell ⟨M, 3, none⟩ (.int .u32 S)) 5 4 hu (by omega) (by omega) (by omega)
              rw [hG] at this
              exact this
            have hCP : Hid (Below M w2 (((wc.setCell ⟨M, 2, none⟩ (.int .i64 F)).setCell ⟨M, 3, none⟩ (.int .u32 S)).setCell ⟨M, 4, none⟩ (.int .i64 G)) → Calls Try.prog 31 #[.slice (some ⟨bb, off + 5, none⟩) 15 (cap0 - 5), .int .i64 9, .int .i64 4] (((wc.setCell ⟨M, 2, none⟩ (.int .i64 F)).setCell ⟨M, 3, none⟩ (.int .u32 S)).setCell ⟨M, 4, none⟩ (.int .i64 G)) fun e w' => e = .returned (.int .i64 P) ∧ w' = (((wc.setCell ⟨M, 2, none⟩ (.int .i64 F)).setCell ⟨M, 3, none⟩ (.int .u32 S)).setCell ⟨M, 4, none⟩ (.int .i64 G))) := fun hu => by
              have := HNu.out (((wc.setCell ⟨M, 2, none⟩ (.int .i64 F)).setCell ⟨M, 3, none⟩ (.int .u32 S)).setCell ⟨M, 4, none⟩ (.int .i64 G)) 9 4 hu (by omega) (by omega) (by omega)
              rw [hP] at this
              exact this
            have hCD : Hid (Below M w2 ((((wc.setCell ⟨M, 2, none⟩ (.int .i64 F)).setCell ⟨M, 3, none⟩ (.int .u32 S)).setCell ⟨M, 4, none⟩ (.int .i64 G)).setCell ⟨M, 5, none⟩ (.int .i64 P)) → Calls Try.prog 31 #[.slice (some ⟨bb, off + 5, none⟩) 15 (cap0 - 5), .int .i64 13, .int .i64 2] ((((wc.setCell ⟨M, 2, none⟩ (.int .i64 F)).setCell ⟨M, 3, none⟩ (.int .u32 S)).setCell ⟨M, 4, none⟩ (.int .i64 G)).setCell ⟨M, 5, none⟩ (.int .i64 P)) fun e w' => e = .returned (.int .i64 D) ∧ w' = ((((wc.setCell ⟨M, 2, none⟩ (.int .i64 F)).setCell ⟨M, 3, none⟩ (.int .u32 S)).setCell ⟨M, 4, none⟩ (.int .i64 G)).setCell ⟨M, 5, none⟩ (.int .i64 P))) := fun hu => by
              have := HNu.out ((((wc.setCell ⟨M, 2, none⟩ (.int .i64 F)).setCell ⟨M, 3, none⟩ (.int .u32 S)).setCell ⟨M, 4, none⟩ (.int .i64 G)).setCell ⟨M, 5, none⟩ (.int .i64 P)) 13 2 hu (by omega) (by omega) (by omega)
              rw [hD] at this
              exact this
            have HWF : Hid (Below M w2 wc) := HBx.out
            have HWS : Hid (Below M w2 (wc.setCell ⟨M, 2, none⟩ (.int .i64 F))) := HWF.out.setCell (Nat.le_refl _) _
            have HWG : Hid (Below M w2 ((wc.setCell ⟨M, 2, none⟩ (.int .i64 F)).setCell ⟨M, 3, none⟩ (.int .u32 S))) := HWS.out.setCell (Nat.le_refl _) _
            have HWP : Hid (Below M w2 (((wc.setCell ⟨M, 2, none⟩ (.int .i64 F)).setCell ⟨M, 3, none⟩ (.int .u32 S)).setCell ⟨M, 4, none⟩ (.int .i64 G))) := HWG.out.setCell (Nat.le_refl _) _
            have HWD : Hid (Below M w2 ((((wc.setCell ⟨M, 2, none⟩ (.int .i64 F)).setCell ⟨M, 3, none⟩ (.int .u32 S)).setCell ⟨M, 4, none⟩ (.int .i64 G)).setCell ⟨M, 5, none⟩ (.int .i64 P))) := HWP.out.setCell (Nat.le_refl _) _
            have HR : Hid (RbI w M #[.int .i64 2, .int .u32 Bo, .int .i64 F, .int .u32 S, .int .i64 G, .int .i64 P, .int .i64 D, .int .i64 0, .int .i64 0, .int .i64 0, .slice none 0 0, .slice none 0 0] (((((wc.setCell ⟨M, 2, none⟩ (.int .i64 F)).setCell ⟨M, 3, none⟩ (.int .u32 S)).setCell ⟨M, 4, none⟩ (.int .i64 G)).setCell ⟨M, 5, none⟩ (.int .i64 P)).setCell ⟨M, 6, none⟩ (.int .i64 D))) := (((((HRb.out.set 2 (.int .i64 F)).set 3 (.int .u32 S)).set 4 (.int .i64 G)).set 5 (.int .i64 P)).set 6 (.int .i64 D))
            have HMs : Hid (MsR (w.heap.size + 1) (((((wc.setCell ⟨M, 2, none⟩ (.int .i64 F)).setCell ⟨M, 3, none⟩ (.int .u32 S)).setCell ⟨M, 4, none⟩ (.int .i64 G)).setCell ⟨M, 5, none⟩ (.int .i64 P)).setCell ⟨M, 6, none⟩ (.int .i64 D)) (⟨2, Bo, F, S, G, P, D, 0, 0, 0, [], []⟩ : Mn) none 0 none 0) := MsR.nil _ _ _ rfl rfl
            have HOKn : Hid (okT (txT b) = (isKd 2 && myN (⟨2, Bo, F, S, G, P, D, 0, 0, 0, [], []⟩ : Mn)) ∧ mnT (txT b) = (⟨2, Bo, F, S, G, P, D, 0, 0, 0, [], []⟩ : Mn)) := by
              refine ⟨?_, HOK0.out.2.trans HMn0.out⟩
              rw [HOK0.out.1, HMn0.out, en_offer, HBb.out.2]
              simp
            have HBn : Hid ((0 ≤ Bo ∧ Bo < 4294967296) ∧ (0 ≤ S ∧ S < 4294967296) ∧ ([] : List (Int × Int)).length ≤ 1000) := ⟨hBob, bS, by simp⟩
            have hw3 : IntKind.u32.wrap S = S := by rw [IntKind.wrap_u32]; omega
            have hfz := fz_twelve HRb.out.m
            obtain ⟨y0, y1, y2, y3, y4, y5, y6, y7, y8, y9, y10, y11⟩ := hfz
            clear HOK0 HMn0 hF hS hG hP hD
            go_upto_region 20 with (go_at_call 31; (with_reducible refine Calls.mono (hCF.out HWF.out) ?_); rintro e x ⟨rfl, hx⟩; have hx2 := hx.symm; clear hx; subst hx2)
            go_upto_region 21 with (go_at_call 31; (with_reducible refine Calls.mono (hCS.out HWS.out) ?_); rintro e x ⟨rfl, hx⟩; have hx2 := hx.symm; clear hx; subst hx2)
            go_upto_region 22 with (go_at_call 31; (with_reducible refine Calls.mono (hCG.out HWG.out) ?_); rintro e x ⟨rfl, hx⟩; have hx2 := hx.symm; clear hx; subst hx2)
            go_upto_region 23 with (go_at_call 31; (with_reducible refine Calls.mono (hCP.out HWP.out) ?_); rintro e x ⟨rfl, hx⟩; have hx2 := hx.symm; clear hx; subst hx2)
            go_upto_region 43 with (go_at_call 31; (with_reducible refine Calls.mono (hCD.out HWD.out) ?_); rintro e x ⟨rfl, hx⟩; have hx2 := hx.symm; clear hx; subst hx2)
            clear hCF hCS hCG hCP hCD HWF HWS HWG HWP HWD y0 y1 y2 y3 y4 y5 y6 y7 y8 y9 y10 y11 d0 d1 d2 d3 d4 d5 d6 d7 d8 d9 d10 d11
            obtain ⟨Y, hY⟩ : ∃ Y, (isKd 2 && myN (⟨2, Bo, F, S, G, P, D, 0, 0, 0, [], []⟩ : Mn)) = Y := ⟨_, rfl⟩
            have HMy : Hid (Calls Try.prog 23 #[.agg #[.int .i64 2, .int .u32 Bo, .int .i64 F, .int .u32 S, .int .i64 G, .int .i64 P, .int .i64 D, .int .i64 0, .int .i64 0, .int .i64 0, .slice none 0 0, .slice none 0 0]] (((((wc.setCell ⟨M, 2, none⟩ (.int .i64 F)).setCell ⟨M, 3, none⟩ (.int .u32 S)).setCell ⟨M, 4, none⟩ (.int .i64 G)).setCell ⟨M, 5, none⟩ (.int .i64 P)).setCell ⟨M, 6, none⟩ (.int .i64 D)) fun e w' => e = .returned (.bool Y) ∧ Below ((((((wc.setCell ⟨M, 2, none⟩ (.int .i64 F)).setCell ⟨M, 3, none⟩ (.int .u32 S)).setCell ⟨M, 4, none⟩ (.int .i64 G)).setCell ⟨M, 5, none⟩ (.int .i64 P)).setCell ⟨M, 6, none⟩ (.int .i64 D))).heap.size ((((((wc.setCell ⟨M, 2, none⟩ (.int .i64 F)).setCell ⟨M, 3, none⟩ (.int .u32 S)).setCell ⟨M, 4, none⟩ (.int .i64 G)).setCell ⟨M, 5, none⟩ (.int .i64 P)).setCell ⟨M, 6, none⟩ (.int .i64 D))) w') := by
              have := may_rd (⟨2, Bo, F, S, G, P, D, 0, 0, 0, [], []⟩ : Mn) none 0 none 0 (w.heap.size + 1) ((((((wc.setCell ⟨M, 2, none⟩ (.int .i64 F)).setCell ⟨M, 3, none⟩ (.int .u32 S)).setCell ⟨M, 4, none⟩ (.int .i64 G)).setCell ⟨M, 5, none⟩ (.int .i64 P)).setCell ⟨M, 6, none⟩ (.int .i64 D))) HMs.out HBn.out.1 HBn.out.2.1 HBn.out.2.2
              rw [← hY]
              exact this
            rw [hY] at HOKn
            obtain ⟨m0, m1, m2, m3, m4, m5, m6, m7, m8, m9, m10, m11⟩ := twelve_cells HR.out.m
            clear hY HNu HBx
            cases Y
            · go_upto_region 44 with (go_at_call 23; refine Calls.mono HMy.out ?_; rintro e w8 ⟨rfl, b8⟩; have HR8 : Hid (RbI w M #[.int .i64 2, .int .u32 Bo, .int .i64 F, .int .u32 S, .int .i64 G, .int .i64 P, .int .i64 D, .int .i64 0, .int .i64 0, .int .i64 0, .slice none 0 0, .slice none 0 0] w8) := HR.out.old b8; clear b8)
              have HF : Hid (MsP w (rdOk b) (rdE b) (mnT (txT b)) (.returned (.tuple #[.agg #[.int .i64 0, .int .u32 0, .int .i64 0, .int .u32 0, .int .i64 0, .int .i64 0, .int .i64 0, .int .i64 0, .int .i64 0, .int .i64 0, .slice none 0 0, .slice none 0 0], .int .i64 3])) (w8.setCells w.heap.size 0 (Array.toList #[.int .i64 0, .int .u32 0, .int .i64 0, .int .u32 0, .int .i64 0, .int .i64 0, .int .i64 0, .int .i64 0, .int .i64 0, .int .i64 0, .slice none 0 0, .slice none 0 0]))) := by
                rw [HE.out.1, HE.out.2, HOKn.out.1]
                exact fin_bad 3 rfl HR8.out.be
              have HX : Hid ((w8.setCells w.heap.size 0 (Array.toList #[.int .i64 0, .int .u32 0, .int .i64 0, .int .u32 0, .int .i64 0, .int .i64 0, .int .i64 0, .int .i64 0, .int .i64 0, .int .i64 0, .slice none 0 0, .slice none 0 0])).heap[w.heap.size]? = some (.cells #[.int .i64 0, .int .u32 0, .int .i64 0, .int .u32 0, .int .i64 0, .int .i64 0, .int .i64 0, .int .i64 0, .int .i64 0, .int .i64 0, .slice none 0 0, .slice none 0 0] 26 (0, 0))) := set_twelve _ _ _ _ _ _ _ _ _ _ _ _ HR8.out.z
              obtain ⟨z0, z1, z2, z3, z4, z5, z6, z7, z8, z9, z10, z11⟩ := twelve_cells (HR8.out.z)
              obtain ⟨y0, y1, y2, y3, y4, y5, y6, y7, y8, y9, y10, y11⟩ := fz_twelve (HR8.out.z)
              obtain ⟨n0, n1, n2, n3, n4, n5, n6, n7, n8, n9, n10, n11⟩ := twelve_cells (HR8.out.nb)
              go_wp2
              refine bodyPost_ret (v := .tuple #[.agg #[.int .i64 0, .int .u32 0, .int .i64 0, .int .u32 0, .int .i64 0, .int .i64 0, .int .i64 0, .int .i64 0, .int .i64 0, .int .i64 0, .slice none 0 0, .slice none 0 0], .int .i64 3]) ?_ rfl HF.out
              rw [results_ct rfl]
              simp [asAddr]
              have L0 := load_msg HX.out
              refine (congrArg (fun r => Result.andThen r _) L0).trans ?_
              rfl
            · go_upto_region 45 with (go_at_call 23; refine Calls.mono HMy.out ?_; rintro e w8 ⟨rfl, b8⟩; have HR8 : Hid (RbI w M #[.int .i64 2, .int .u32 Bo, .int .i64 F, .int .u32 S, .int .i64 G, .int .i64 P, .int .i64 D, .int .i64 0, .int .i64 0, .int .i64 0, .slice none 0 0, .slice none 0 0] w8 ∧ MsR (w.heap.size + 1) w8 (⟨2, Bo, F, S, G, P, D, 0, 0, 0, [], []⟩ : Mn) none 0 none 0) := ⟨HR.out.old b8, HMs.out.old b8⟩; clear b8)
              have HF : Hid (MsP w (rdOk b) (rdE b) (mnT (txT b)) (.returned (.tuple #[.agg #[.int .i64 2, .int .u32 Bo, .int .i64 F, .int .u32 S, .int .i64 G, .int .i64 P, .int .i64 D, .int .i64 0, .int .i64 0, .int .i64 0, .slice none 0 0, .slice none 0 0], .int .i64 0])) (w8.setCells w.heap.size 0 (Array.toList #[.int .i64 2, .int .u32 Bo, .int .i64 F, .int .u32 S, .int .i64 G, .int .i64 P, .int .i64 D, .int .i64 0, .int .i64 0, .int .i64 0, .slice none 0 0, .slice none 0 0]))) := by
                rw [HE.out.1, HE.out.2, HOKn.out.1, HOKn.out.2]
                exact fin_ok (n := (⟨2, Bo, F, S, G, P, D, 0, 0, 0, [], []⟩ : Mn)) (U0 := w.heap.size + 1) 3 rfl HR8.out.1.be HR8.out.2 (Nat.lt_succ_self _)
              have HX : Hid ((w8.setCells w.heap.size 0 (Array.toList #[.int .i64 2, .int .u32 Bo, .int .i64 F, .int .u32 S, .int .i64 G, .int .i64 P, .int .i64 D, .int .i64 0, .int .i64 0, .int .i64 0, .slice none 0 0, .slice none 0 0])).heap[w.heap.size]? = some (.cells #[.int .i64 2, .int .u32 Bo, .int .i64 F, .int .u32 S, .int .i64 G, .int .i64 P, .int .i64 D, .int .i64 0, .int .i64 0, .int .i64 0, .slice none 0 0, .slice none 0 0] 26 (0, 0))) := set_twelve _ _ _ _ _ _ _ _ _ _ _ _ HR8.out.1.z
              obtain ⟨z0, z1, z2, z3, z4, z5, z6, z7, z8, z9, z10, z11⟩ := twelve_cells HR8.out.1.z
              obtain ⟨y0, y1, y2, y3, y4, y5, y6, y7, y8, y9, y10, y11⟩ := fz_twelve HR8.out.1.z
              obtain ⟨q0, q1, q2, q3, q4, q5, q6, q7, q8, q9, q10, q11⟩ := twelve_cells HR8.out.1.m
              go_wp2
              refine bodyPost_ret (v := .tuple #[.agg #[.int .i64 2, .int .u32 Bo, .int .i64 F, .int .u32 S, .int .i64 G, .int .i64 P, .int .i64 D, .int .i64 0, .int .i64 0, .int .i64 0, .slice none 0 0, .slice none 0 0], .int .i64 0]) ?_ rfl HF.out
              rw [results_ct rfl]
              simp [asAddr]
              have L0 := load_msg HX.out
              refine (congrArg (fun r => Result.andThen r _) L0).trans ?_
              rfl
          · have hL2 : ((N5 : Int) != 15) = true := by simp; omega
            have HNo : Hid (rdOk b = false ∧ rdE b = 3) := ⟨by rw [HE.out.1, HOK0.out.1, en_offer, decide_eq_false (by rw [HBb.out.2]; exact hL)]; simp, HE.out.2⟩
            clear HNu HBx
            go_upto_region 18 with fail
            have HF : Hid (MsP w (rdOk b) (rdE b) (mnT (txT b)) (.returned (.tuple #[.agg #[.int .i64 0, .int .u32 0, .int .i64 0, .int .u32 0, .int .i64 0, .int .i64 0, .int .i64 0, .int .i64 0, .int .i64 0, .int .i64 0, .slice none 0 0, .slice none 0 0], .int .i64 3])) (wc.setCells w.heap.size 0 (Array.toList #[.int .i64 0, .int .u32 0, .int .i64 0, .int .u32 0, .int .i64 0, .int .i64 0, .int .i64 0, .int .i64 0, .int .i64 0, .int .i64 0, .slice none 0 0, .slice none 0 0]))) := by
              rw [HNo.out.1, HNo.out.2]
              exact fin_bad 3 rfl HRb.out.be
            have HX : Hid ((wc.setCells w.heap.size 0 (Array.toList #[.int .i64 0, .int .u32 0, .int .i64 0, .int .u32 0, .int .i64 0, .int .i64 0, .int .i64 0, .int .i64 0, .int .i64 0, .int .i64 0, .slice none 0 0, .slice none 0 0])).heap[w.heap.size]? = some (.cells #[.int .i64 0, .int .u32 0, .int .i64 0, .int .u32 0, .int .i64 0, .int .i64 0, .int .i64 0, .int .i64 0, .int .i64 0, .int .i64 0, .slice none 0 0, .slice none 0 0] 26 (0, 0))) := set_twelve _ _ _ _ _ _ _ _ _ _ _ _ HRb.out.z
            obtain ⟨z0, z1, z2, z3, z4, z5, z6, z7, z8, z9, z10, z11⟩ := twelve_cells (HRb.out.z)
            obtain ⟨y0, y1, y2, y3, y4, y5, y6, y7, y8, y9, y10, y11⟩ := fz_twelve (HRb.out.z)
            obtain ⟨n0, n1, n2, n3, n4, n5, n6, n7, n8, n9, n10, n11⟩ := twelve_cells (HRb.out.nb)
            go_wp2
            refine bodyPost_ret (v := .tuple #[.agg #[.int .i64 0, .int .u32 0, .int .i64 0, .int .u32 0, .int .i64 0, .int .i64 0, .int .i64 0, .int .i64 0, .int .i64 0, .int .i64 0, .slice none 0 0, .slice none 0 0], .int .i64 3]) ?_ rfl HF.out
            rw [results_ct rfl]
            simp [asAddr]
            have L0 := load_msg HX.out
            refine (congrArg (fun r => Result.andThen r _) L0).trans ?_
            rfl
        by_cases k3 : b0 = 3
        · subst k3
          by_cases hL : N5 < 5
          · have hL2 : (N5 : Int) < 5 := by omega
            have HNo : Hid (rdOk b = false ∧ rdE b = 3) := ⟨by rw [HE.out.1, HOK0.out.1, en_data, decide_eq_false (by rw [HBb.out.2]; omega)]; simp, HE.out.2⟩
            clear HNu HBx
            go_upto_region 26 with fail
            have HF : Hid (MsP w (rdOk b) (rdE b) (mnT (txT b)) (.returned (.tuple #[.agg #[.int .i64 0, .int .u32 0, .int .i64 0, .int .u32 0, .int .i64 0, .int .i64 0, .int .i64 0, .int .i64 0, .int .i64 0, .int .i64 0, .slice none 0 0, .slice none 0 0], .int .i64 3])) (wc.setCells w.heap.size 0 (Array.toList #[.int .i64 0, .int .u32 0, .int .i64 0, .int .u32 0, .int .i64 0, .int .i64 0, .int .i64 0, .int .i64 0, .int .i64 0, .int .i64 0, .slice none 0 0, .slice none 0 0]))) := by
              rw [HNo.out.1, HNo.out.2]
              exact fin_bad 3 rfl HRb.out.be
            have HX : Hid ((wc.setCells w.heap.size 0 (Array.toList #[.int .i64 0, .int .u32 0, .int .i64 0, .int .u32 0, .int .i64 0, .int .i64 0, .int .i64 0, .int .i64 0, .int .i64 0, .int .i64 0, .slice none 0 0, .slice none 0 0])).heap[w.heap.size]? = some (.cells #[.int .i64 0, .int .u32 0, .int .i64 0, .int .u32 0, .int .i64 0, .int .i64 0, .int .i64 0, .int .i64 0, .int .i64 0, .int .i64 0, .slice none 0 0, .slice none 0 0] 26 (0, 0))) := set_twelve _ _ _ _ _ _ _ _ _ _ _ _ HRb.out.z
            obtain ⟨z0, z1, z2, z3, z4, z5, z6, z7, z8, z9, z10, z11⟩ := twelve_cells (HRb.out.z)
            obtain ⟨y0, y1, y2, y3, y4, y5, y6, y7, y8, y9, y10, y11⟩ := fz_twelve (HRb.out.z)
            obtain ⟨n0, n1, n2, n3, n4, n5, n6, n7, n8, n9, n10, n11⟩ := twelve_cells (HRb.out.nb)
            go_wp2
            refine bodyPost_ret (v := .tuple #[.agg #[.int .i64 0, .int .u32 0, .int .i64 0, .int .u32 0, .int .i64 0, .int .i64 0, .int .i64 0, .int .i64 0, .int .i64 0, .int .i64 0, .slice none 0 0, .slice none 0 0], .int .i64 3]) ?_ rfl HF.out
            rw [results_ct rfl]
            simp [asAddr]
            have L0 := load_msg HX.out
            refine (congrArg (fun r => Result.andThen r _) L0).trans ?_
            rfl
          · have hL2 : ¬ (N5 : Int) < 5 := by omega
            obtain ⟨F, hF⟩ : ∃ x, nuN B 0 4 = x := ⟨_, rfl⟩
            have bF := nuN_bd HBb.out.1 0 4 (by rw [HBb.out.2]; omega)
            rw [hF] at bF
            simp at bF
            obtain ⟨P, hP⟩ : ∃ x, nuN B 4 1 = x := ⟨_, rfl⟩
            have bP := nuN_bd HBb.out.1 4 1 (by rw [HBb.out.2]; omega)
            rw [hP] at bP
            simp at bP
            have hC1 : Hid (Calls Try.prog 31 #[.slice (some ⟨bb, off + 5, none⟩) N5 (cap0 - 5), .int .i64 0, .int .i64 4] wc fun e w' => e = .returned (.int .i64 F) ∧ w' = wc) := by
              have := HNu.out wc 0 4 HBx.out (by omega) (by omega) (by omega)
              rw [hF] at this
              exact this
            have HWF : Hid (Below M w2 (wc.setCell ⟨M, 7, none⟩ (.int .i64 F))) := HBx.out.setCell (Nat.le_refl _) _
            have hC2 : Hid (Calls Try.prog 31 #[.slice (some ⟨bb, off + 5, none⟩) N5 (cap0 - 5), .int .i64 4, .int .i64 1] (wc.setCell ⟨M, 7, none⟩ (.int .i64 F)) fun e w' => e = .returned (.int .i64 P) ∧ w' = (wc.setCell ⟨M, 7, none⟩ (.int .i64 F))) := by
              have := HNu.out (wc.setCell ⟨M, 7, none⟩ (.int .i64 F)) 4 1 HWF.out (by omega) (by omega) (by omega)
              rw [hP] at this
              exact this
            have HWP : Hid (Below M w2 ((wc.setCell ⟨M, 7, none⟩ (.int .i64 F)).setCell ⟨M, 8, none⟩ (.int .i64 P))) := HWF.out.setCell (Nat.le_refl _) _
            have HR2 : Hid (RbI w M #[.int .i64 3, .int .u32 Bo, .int .i64 0, .int .u32 0, .int .i64 0, .int .i64 0, .int .i64 0, .int .i64 F, .int .i64 P, .int .i64 0, .slice none 0 0, .slice none 0 0] ((wc.setCell ⟨M, 7, none⟩ (.int .i64 F)).setCell ⟨M, 8, none⟩ (.int .i64 P))) := (HRb.out.set 7 (.int .i64 F)).set 8 (.int .i64 P)
            have HAl : Hid (Below (((wc.setCell ⟨M, 7, none⟩ (.int .i64 F)).setCell ⟨M, 8, none⟩ (.int .i64 P))).heap.size (((wc.setCell ⟨M, 7, none⟩ (.int .i64 F)).setCell ⟨M, 8, none⟩ (.int .i64 P))) ((((wc.setCell ⟨M, 7, none⟩ (.int .i64 F)).setCell ⟨M, 8, none⟩ (.int .i64 P))).alloc (.cells #[] 5))) := below_allocJ _ _
            obtain ⟨D, hD⟩ : ∃ x, B.drop 5 = x := ⟨_, rfl⟩
            have hDl : D.length = N5 - 5 := by rw [← hD, List.length_drop, HBb.out.2]
            have hrD : Row w2 (some ⟨bb, off + 5 + 5, none⟩) D := by
              have := row_cut HRM.out.1 5 (N5 - 5) (by rw [HBb.out.2]; omega)
              rwa [List.take_of_length_le (by rw [List.length_drop, HBb.out.2]; omega), hD] at this
            have HDb : Hid (Bytes D ∧ D.length = N5 - 5 ∧ Row ((((wc.setCell ⟨M, 7, none⟩ (.int .i64 F)).setCell ⟨M, 8, none⟩ (.int .i64 P))).alloc (.cells #[] 5)) (some ⟨bb, off + 5 + 5, none⟩) D) := ⟨by rw [← hD]; exact HBb.out.1.drop 5, hDl, (hrD.old (by rw [HRM.out.2]; exact HWP.out)).old HAl.out⟩
            have HMn0 : Hid ((tkN 3 (.ok B)).kb 3 Bo = (⟨3, Bo, 0, 0, 0, 0, 0, F, P, 0, [], D⟩ : Mn)) := by
              show (tk_data (.ok B)).kb 3 Bo = _
              rw [rd_data B (by rw [HBb.out.2]; omega), hF, hP, hD]
              rfl
            have HOKn : Hid (okT (txT b) = (isKd 3 && myN (⟨3, Bo, 0, 0, 0, 0, 0, F, P, 0, [], D⟩ : Mn)) ∧ mnT (txT b) = (⟨3, Bo, 0, 0, 0, 0, 0, F, P, 0, [], D⟩ : Mn)) := by
              refine ⟨?_, HOK0.out.2.trans HMn0.out⟩
              rw [HOK0.out.1, HMn0.out, en_data, HBb.out.2, decide_eq_true (by omega : 5 ≤ N5)]
              simp
            have HBn : Hid ((0 ≤ Bo ∧ Bo < 4294967296) ∧ (0 ≤ (0 : Int) ∧ (0 : Int) < 4294967296) ∧ ([] : List (Int × Int)).length ≤ 1000) := ⟨hBob, ⟨by omega, by omega⟩, by simp⟩
            obtain ⟨y0, y1, y2, y3, y4, y5, y6, y7, y8, y9, y10, y11⟩ := fz_twelve HRb.out.m
            obtain ⟨g0, g1, g2, g3, g4, g5, g6, g7, g8, g9, g10, g11⟩ := twelve_cells HR2.out.m
            have u1 : (5 : Int) ≤ (N5 : Int) := by omega
            have u2 : (N5 : Int) ≤ ((cap0 - 5 : Nat) : Int) := by omega
            have u3 : ¬ cap0 - 5 = 5 := by omega
            clear HOK0 HMn0 hF hP hD hDl hrD
            go_upto_region 28 with (go_at_call 31; (with_reducible refine Calls.mono hC1.out ?_); rintro e x ⟨rfl, hx⟩; have hx2 := hx.symm; clear hx; subst hx2)
            go_upto_region 29 with (go_at_call 31; (with_reducible refine Calls.mono hC2.out ?_); rintro e x ⟨rfl, hx⟩; have hx2 := hx.symm; clear hx; subst hx2)
            go_upto_region 43 with (first | (at_builtin; refine wpList_more rfl _ _ rfl (.slice (some ⟨wc.heap.size, 0, none⟩) 0 0) (some wc.heap.size) [] rfl (sl_emp wc M 7 8 (.int .i64 F) (.int .i64 P)) (some ⟨bb, off + 5 + 5, none⟩) (N5 - 5) (cap0 - 5 - 5) D rfl (by intro h; cases h) HDb.out.2.1 HDb.out.2.2 (by simp; omega) ?_; intro v5 x5 g5 sl5 hg5 hw5; obtain ⟨a5, c5, hv5, -⟩ := sl5.shape; rw [List.nil_append] at sl5; rw [List.nil_append, vals_len] at hv5; subst hv5; have HR5 : Hid (RbI w M #[.int .i64 3, .int .u32 Bo, .int .i64 0, .int .u32 0, .int .i64 0, .int .i64 0, .int .i64 0, .int .i64 F, .int .i64 P, .int .i64 0, .slice none 0 0, .slice none 0 0] x5) := rb_more HR2.out HAl.out (by rw [sz_two]; exact hw5); have HS5 : Hid (Sl x5 5 (.slice a5 D.length c5) g5 (vals D) ∧ ∀ k, g5 = some k → M + 1 ≤ k) := ⟨sl5, fr_more HR2.out (by rw [sz_two]; exact hg5)⟩; obtain ⟨o0, o1, o2, o3, o4, o5, o6, o7, o8, o9, o10, o11⟩ := fz_twelve HR5.out.m; obtain ⟨p0, p1, p2, p3, p4, p5, p6, p7, p8, p9, p10, p11⟩ := twelve_cells HR5.out.m; clear sl5 hg5 hw5))
            have HR : Hid (RbI w M #[.int .i64 3, .int .u32 Bo, .int .i64 0, .int .u32 0, .int .i64 0, .int .i64 0, .int .i64 0, .int .i64 F, .int .i64 P, .int .i64 0, .slice none 0 0, .slice a5 D.length c5] (x5.setCell ⟨M, 11, none⟩ (.slice a5 D.length c5))) := HR5.out.set 11 _
            have HMs : Hid (MsR (w.heap.size + 1) (x5.setCell ⟨M, 11, none⟩ (.slice a5 D.length c5)) (⟨3, Bo, 0, 0, 0, 0, 0, F, P, 0, [], D⟩ : Mn) none 0 a5 c5) := da_rd HR5.out.lt HS5.out.1 HS5.out.2 HDb.out.1 (by have := HDb.out.2.1; omega)
            clear hC1 hC2 HWF HWP HR2 HAl HDb HS5 HR5 y0 y1 y2 y3 y4 y5 y6 y7 y8 y9 y10 y11 g0 g1 g2 g3 g4 g5 g6 g7 g8 g9 g10 g11 d0 d1 d2 d3 d4 d5 d6 d7 d8 d9 d10 d11 o0 o1 o2 o3 o4 o5 o6 o7 o8 o9 o10 o11 p0 p1 p2 p3 p4 p5 p6 p7 p8 p9 p10 p11
            obtain ⟨Y, hY⟩ : ∃ Y, (isKd 3 && myN (⟨3, Bo, 0, 0, 0, 0, 0, F, P, 0, [], D⟩ : Mn)) = Y := ⟨_, rfl⟩
            have HMy : Hid (Calls Try.prog 23 #[.agg #[.int .i64 3, .int .u32 Bo, .int .i64 0, .int .u32 0, .int .i64 0, .int .i64 0, .int .i64 0, .int .i64 F, .int .i64 P, .int .i64 0, .slice none 0 0, .slice a5 D.length c5]] (x5.setCell ⟨M, 11, none⟩ (.slice a5 D.length c5)) fun e w' => e = .returned (.bool Y) ∧ Below ((x5.setCell ⟨M, 11, none⟩ (.slice a5 D.length c5))).heap.size ((x5.setCell ⟨M, 11, none⟩ (.slice a5 D.length c5))) w') := by
              have := may_rd (⟨3, Bo, 0, 0, 0, 0, 0, F, P, 0, [], D⟩ : Mn) none 0 a5 c5 (w.heap.size + 1) ((x5.setCell ⟨M, 11, none⟩ (.slice a5 D.length c5))) HMs.out HBn.out.1 HBn.out.2.1 HBn.out.2.2
              rw [← hY]
              exact this
            rw [hY] at HOKn
            obtain ⟨m0, m1, m2, m3, m4, m5, m6, m7, m8, m9, m10, m11⟩ := twelve_cells HR.out.m
            clear hY HNu HBx
            cases Y
            · go_upto_region 44 with (go_at_call 23; refine Calls.mono HMy.out ?_; rintro e w8 ⟨rfl, b8⟩; have HR8 : Hid (RbI w M #[.int .i64 3, .int .u32 Bo, .int .i64 0, .int .u32 0, .int .i64 0, .int .i64 0, .int .i64 0, .int .i64 F, .int .i64 P, .int .i64 0, .slice none 0 0, .slice a5 D.length c5] w8) := HR.out.old b8; clear b8)
              have HF : Hid (MsP w (rdOk b) (rdE b) (mnT (txT b)) (.returned (.tuple #[.agg #[.int .i64 0, .int .u32 0, .int .i64 0, .int .u32 0, .int .i64 0, .int .i64 0, .int .i64 0, .int .i64 0, .int .i64 0, .int .i64 0, .slice none 0 0, .slice none 0 0], .int .i64 3])) (w8.setCells w.heap.size 0 (Array.toList #[.int .i64 0, .int .u32 0, .int .i64 0, .int .u32 0, .int .i64 0, .int .i64 0, .int .i64 0, .int .i64 0, .int .i64 0, .int .i64 0, .slice none 0 0, .slice none 0 0]))) := by
                rw [HE.out.1, HE.out.2, HOKn.out.1]
                exact fin_bad 3 rfl HR8.out.be
              have HX : Hid ((w8.setCells w.heap.size 0 (Array.toList #[.int .i64 0, .int .u32 0, .int .i64 0, .int .u32 0, .int .i64 0, .int .i64 0, .int .i64 0, .int .i64 0, .int .i64 0, .int .i64 0, .slice none 0 0, .slice none 0 0])).heap[w.heap.size]? = some (.cells #[.int .i64 0, .int .u32 0, .int .i64 0, .int .u32 0, .int .i64 0, .int .i64 0, .int .i64 0, .int .i64 0, .int .i64 0, .int .i64 0, .slice none 0 0, .slice none 0 0] 26 (0, 0))) := set_twelve _ _ _ _ _ _ _ _ _ _ _ _ HR8.out.z
              obtain ⟨z0, z1, z2, z3, z4, z5, z6, z7, z8, z9, z10, z11⟩ := twelve_cells (HR8.out.z)
              obtain ⟨y0, y1, y2, y3, y4, y5, y6, y7, y8, y9, y10, y11⟩ := fz_twelve (HR8.out.z)
              obtain ⟨n0, n1, n2, n3, n4, n5, n6, n7, n8, n9, n10, n11⟩ := twelve_cells (HR8.out.nb)
              go_wp2
              refine bodyPost_ret (v := .tuple #[.agg #[.int .i64 0, .int .u32 0, .int .i64 0, .int .u32 0, .int .i64 0, .int .i64 0, .int .i64 0, .int .i64 0, .int .i64 0, .int .i64 0, .slice none 0 0, .slice none 0 0], .int .i64 3]) ?_ rfl HF.out
              rw [results_ct rfl]
              simp [asAddr]
              have L0 := load_msg HX.out
              refine (congrArg (fun r => Result.andThen r _) L0).trans ?_
              rfl
            · go_upto_region 45 with (go_at_call 23; refine Calls.mono HMy.out ?_; rintro e w8 ⟨rfl, b8⟩; have HR8 : Hid (RbI w M #[.int .i64 3, .int .u32 Bo, .int .i64 0, .int .u32 0, .int .i64 0, .int .i64 0, .int .i64 0, .int .i64 F, .int .i64 P, .int .i64 0, .slice none 0 0, .slice a5 D.length c5] w8 ∧ MsR (w.heap.size + 1) w8 (⟨3, Bo, 0, 0, 0, 0, 0, F, P, 0, [], D⟩ : Mn) none 0 a5 c5) := ⟨HR.out.old b8, HMs.out.old b8⟩; clear b8)
              have HF : Hid (MsP w (rdOk b) (rdE b) (mnT (txT b)) (.returned (.tuple #[.agg #[.int .i64 3, .int .u32 Bo, .int .i64 0, .int .u32 0, .int .i64 0, .int .i64 0, .int .i64 0, .int .i64 F, .int .i64 P, .int .i64 0, .slice none 0 0, .slice a5 D.length c5], .int .i64 0])) (w8.setCells w.heap.size 0 (Array.toList #[.int .i64 3, .int .u32 Bo, .int .i64 0, .int .u32 0, .int .i64 0, .int .i64 0, .int .i64 0, .int .i64 F, .int .i64 P, .int .i64 0, .slice none 0 0, .slice a5 D.length c5]))) := by
                rw [HE.out.1, HE.out.2, HOKn.out.1, HOKn.out.2]
                exact fin_ok (n := (⟨3, Bo, 0, 0, 0, 0, 0, F, P, 0, [], D⟩ : Mn)) (U0 := w.heap.size + 1) 3 rfl HR8.out.1.be HR8.out.2 (Nat.lt_succ_self _)
              have HX : Hid ((w8.setCells w.heap.size 0 (Array.toList #[.int .i64 3, .int .u32 Bo, .int .i64 0, .int .u32 0, .int .i64 0, .int .i64 0, .int .i64 0, .int .i64 F, .int .i64 P, .int .i64 0, .slice none 0 0, .slice a5 D.length c5])).heap[w.heap.size]? = some (.cells #[.int .i64 3, .int .u32 Bo, .int .i64 0, .int .u32 0, .int .i64 0, .int .i64 0, .int .i64 0, .int .i64 F, .int .i64 P, .int .i64 0, .slice none 0 0, .slice a5 D.length c5] 26 (0, 0))) := set_twelve _ _ _ _ _ _ _ _ _ _ _ _ HR8.out.1.z
              obtain ⟨z0, z1, z2, z3, z4, z5, z6, z7, z8, z9, z10, z11⟩ := twelve_cells HR8.out.1.z
              obtain ⟨y0, y1, y2, y3, y4, y5, y6, y7, y8, y9, y10, y11⟩ := fz_twelve HR8.out.1.z
              obtain ⟨q0, q1, q2, q3, q4, q5, q6, q7, q8, q9, q10, q11⟩ := twelve_cells HR8.out.1.m
              go_wp2
              refine bodyPost_ret (v := .tuple #[.agg #[.int .i64 3, .int .u32 Bo, .int .i64 0, .int .u32 0, .int .i64 0, .int .i64 0, .int .i64 0, .int .i64 F, .int .i64 P, .int .i64 0, .slice none 0 0, .slice a5 D.length c5], .int .i64 0]) ?_ rfl HF.out
              rw [results_ct rfl]
              simp [asAddr]
              have L0 := load_msg HX.out
              refine (congrArg (fun r => Result.andThen r _) L0).trans ?_
              rfl
        by_cases k4 : b0 = 4
        · subst k4
          by_cases hL : N5 < 5
          · have hL2 : (N5 : Int) < 5 := by omega
            have HNo : Hid (rdOk b = false ∧ rdE b = 3) := ⟨by rw [HE.out.1, HOK0.out.1, en_ack B HBb.out.1, decide_eq_false (by rw [HBb.out.2]; omega)]; simp, HE.out.2⟩
            clear HNu HBx
            go_upto_region 32 with fail
            have HF : Hid (MsP w (rdOk b) (rdE b) (mnT (txT b)) (.returned (.tuple #[.agg #[.int .i64 0, .int .u32 0, .int .i64 0, .int .u32 0, .int .i64 0, .int .i64 0, .int .i64 0, .int .i64 0, .int .i64 0, .int .i64 0, .slice none 0 0, .slice none 0 0], .int .i64 3])) (wc.setCells w.heap.size 0 (Array.toList #[.int .i64 0, .int .u32 0, .int .i64 0, .int .u32 0, .int .i64 0, .int .i64 0, .int .i64 0, .int .i64 0, .int .i64 0, .int .i64 0, .slice none 0 0, .slice none 0 0]))) := by
              rw [HNo.out.1, HNo.out.2]
              exact fin_bad 3 rfl HRb.out.be
            have HX : Hid ((wc.setCells w.heap.size 0 (Array.toList #[.int .i64 0, .int .u32 0, .int .i64 0, .int .u32 0, .int .i64 0, .int .i64 0, .int .i64 0, .int .i64 0, .int .i64 0, .int .i64 0, .slice none 0 0, .slice none 0 0])).heap[w.heap.size]? = some (.cells #[.int .i64 0, .int .u32 0, .int .i64 0, .int .u32 0, .int .i64 0, .int .i64 0, .int .i64 0, .int .i64 0, .int .i64 0, .int .i64 0, .slice none 0 0, .slice none 0 0] 26 (0, 0))) := set_twelve _ _ _ _ _ _ _ _ _ _ _ _ HRb.out.z
            obtain ⟨z0, z1, z2, z3, z4, z5, z6, z7, z8, z9, z10, z11⟩ := twelve_cells (HRb.out.z)
            obtain ⟨y0, y1, y2, y3, y4, y5, y6, y7, y8, y9, y10, y11⟩ := fz_twelve (HRb.out.z)
            obtain ⟨n0, n1, n2, n3, n4, n5, n6, n7, n8, n9, n10, n11⟩ := twelve_cells (HRb.out.nb)
            go_wp2
            refine bodyPost_ret (v := .tuple #[.agg #[.int .i64 0, .int .u32 0, .int .i64 0, .int .u32 0, .int .i64 0, .int .i64 0, .int .i64 0, .int .i64 0, .int .i64 0, .int .i64 0, .slice none 0 0, .slice none 0 0], .int .i64 3]) ?_ rfl HF.out
            rw [results_ct rfl]
            simp [asAddr]
            have L0 := load_msg HX.out
            refine (congrArg (fun r => Result.andThen r _) L0).trans ?_
            rfl
          · have hL2 : ¬ (N5 : Int) < 5 := by omega
            obtain ⟨F, hF⟩ : ∃ x, nuN B 0 4 = x := ⟨_, rfl⟩
            have bF := nuN_bd HBb.out.1 0 4 (by rw [HBb.out.2]; omega)
            rw [hF] at bF
            simp at bF
            obtain ⟨P, hP⟩ : ∃ x, nuN B 4 1 = x := ⟨_, rfl⟩
            have bP := nuN_bd HBb.out.1 4 1 (by rw [HBb.out.2]; omega)
            rw [hP] at bP
            simp at bP
            have hC1 : Hid (Calls Try.prog 31 #[.slice (some ⟨bb, off + 5, none⟩) N5 (cap0 - 5), .int .i64 0, .int .i64 4] wc fun e w' => e = .returned (.int .i64 F) ∧ w' = wc) := by
              have := HNu.out wc 0 4 HBx.out (by omega) (by omega) (by omega)
              rw [hF] at this
              exact this
            have hC2 : Hid (Calls Try.prog 31 #[.slice (some ⟨bb, off + 5, none⟩) N5 (cap0 - 5), .int .i64 4, .int .i64 1] wc fun e w' => e = .returned (.int .i64 P) ∧ w' = wc) := by
              have := HNu.out wc 4 1 HBx.out (by omega) (by omega) (by omega)
              rw [hP] at this
              exact this
            obtain ⟨kk, hkk⟩ : ∃ kk : Nat, P = (kk : Int) := ⟨P.toNat, by omega⟩
            subst hkk
            by_cases hE8 : N5 = 5 + 8 * kk
            · have hE9 : ((N5 : Int) != 5 + 8 * (kk : Int)) = false := by simp; omega
              obtain ⟨y0, y1, y2, y3, y4, y5, y6, y7, y8, y9, y10, y11⟩ := fz_twelve HRb.out.m
              have HKb : Hid (kk ≤ 255 ∧ N5 = 5 + 8 * kk ∧ nuN B 4 1 = (kk : Int) ∧ nuN B 0 4 = F) := ⟨by omega, hE8, hP, hF⟩
              have HA0 : Hid (AjI w M w2 Bo F B 0 (.slice none 0 0) (wc.setCell ⟨M, 7, none⟩ (.int .i64 F))) := ⟨HRb.out.set 7 (.int .i64 F), World.ownsRow_nil _ _ _ _, HBx.out.setCell (Nat.le_refl _) _⟩
              obtain ⟨hEa, hEb⟩ : N5 ≤ 5 + 8 * kk ∧ 5 + 8 * kk ≤ N5 := by omega
              clear hF hP hE8
              go_upto_region 33 with (go_at_call 31; (with_reducible refine Calls.mono hC2.out ?_); rintro e x ⟨rfl, hx⟩; have hx2 := hx.symm; clear hx; subst hx2)
              go_upto_region 34 with (go_at_call 31; (with_reducible refine Calls.mono hC1.out ?_); rintro e x ⟨rfl, hx⟩; have hx2 := hx.symm; clear hx; subst hx2)
              obtain ⟨wd, hwd⟩ : ∃ u, (wc.setCell ⟨M, 7, none⟩ (.int .i64 F)) = u := ⟨_, rfl⟩
              rw [hwd] at HA0
              try rw [hwd]
              clear hwd hC1 hC2 HRb HBx y0 y1 y2 y3 y4 y5 y6 y7 y8 y9 y10 y11 d0 d1 d2 d3 d4 d5 d6 d7 d8 d9 d10 d11
              go_wp2
              go_loopw [7] (fun iv wr => ∃ (q : Nat) (v : Value), q ≤ kk ∧ iv = .int .i64 (5 + 8 * (q : Int)) ∧ Hid (AjI w M w2 Bo F B q v wr)) (fun iv _ => (N5 - (intOf iv).toNat))
              case atStart => exact ⟨0, _, Nat.zero_le _, rfl, HA0.out⟩
              case round =>
                clear HA0
                obtain ⟨q, v, hq, rfl, HAk⟩ := hrel
                by_cases hlt : q < kk
                · have hl1 : 5 + 8 * (q : Int) < (N5 : Int) := by omega
                  go_upto_region 37 with fail
                  obtain ⟨Y1, hY1⟩ : ∃ x, nuN B (5 + 8 * q) 4 = x := ⟨_, rfl⟩
                  obtain ⟨Y2, hY2⟩ : ∃ x, nuN B (5 + 8 * q + 4) 4 = x := ⟨_, rfl⟩
                  have HAd : Hid (AjI w M w2 Bo F B q v wr.drew) := HAk.out.drew
                  have hD1 : Hid (Calls Try.prog 31 #[.slice (some ⟨bb, off + 5, none⟩) N5 (cap0 - 5), .int .i64 (5 + 8 * (q : Int)), .int .i64 4] wr.drew fun e w' => e = .returned (.int .i64 Y1) ∧ w' = wr.drew) := by
                    have := HNu.out wr.drew (5 + 8 * q) 4 HAd.out.bx (by omega) (by omega) (by omega)
                    rw [hY1, show ((5 + 8 * q : Nat) : Int) = 5 + 8 * (q : Int) by omega] at this
                    exact this
                  have hD2 : Hid (Calls Try.prog 31 #[.slice (some ⟨bb, off + 5, none⟩) N5 (cap0 - 5), .int .i64 (5 + 8 * (q : Int) + 4), .int .i64 4] wr.drew fun e w' => e = .returned (.int .i64 Y2) ∧ w' = wr.drew) := by
                    have := HNu.out wr.drew (5 + 8 * q + 4) 4 HAd.out.bx (by omega) (by omega) (by omega)
                    rw [hY2, show ((5 + 8 * q + 4 : Nat) : Int) = 5 + 8 * (q : Int) + 4 by omega] at this
                    exact this
                  have HYv : Hid ((rdG (q + 1) (.ok (B.drop 5))).1 = (rdG q (.ok (B.drop 5))).1 ++ [(Y1, Y2)]) := by
                    have := rdG_next B q (by rw [HBb.out.2]; omega)
                    rw [hY1, hY2] at this
                    exact this
                  have hqb : q ≤ 1000 := by have := HKb.out.1; omega
                  have hMs : M + 1 ≤ wr.heap.size := lt_of_block HAk.out.rb.m
                  obtain ⟨g0, g1, g2, g3, g4, g5, g6, g7, g8, g9, g10, g11⟩ := twelve_cells HAd.out.rb.m
                  clear hY1 hY2
                  have HWq : Hid (IntKind.i64.wrap (5 + 8 * (q : Int) + 4) = 5 + 8 * (q : Int) + 4) := by
                    show _ = _
                    rw [IntKind.wrap_i64]
                    have := HKb.out.1
                    omega
                  have gA10 : (wr.alloc (.cells #[.int .i64 Y1, .int .i64 Y2] 53)).drew.cell? ⟨M, 10, none⟩ = some v := (((below_allocJ wr _).trans ((below_drewJ _).mono (below_allocJ wr _).size)).cell (by show M < wr.heap.size; omega)).trans g10
                  go_region_law (first
                    | (go_simp; go_at_call 31; refine Calls.mono hD1.out ?_; rintro e x ⟨rfl, hx⟩; have hx2 := hx.symm; clear hx; subst hx2; clear hD1)
                    | (go_simp; go_at_call 31; (try rw [HWq.out]); refine Calls.mono hD2.out ?_; rintro e x ⟨rfl, hx⟩; have hx2 := hx.symm; clear hx; subst hx2; clear hD2)
                    | (refine step_rgW (w := wr.drew) rfl _ _ rfl (M + 1) v q (rdG q (.ok (B.drop 5))).1 Y1 Y2 ?x1 rfl ?x2 HAd.out.own hqb hMs ?_; (case x1 => rfl); (case x2 => rfl); intro v9 w9 o9 g9; obtain ⟨ga9, gc9, hv9, -⟩ := owns_rgR o9; have HN9 : Hid (AjI w M w2 Bo F B (q + 1) v9 (w9.setCell ⟨M, 10, none⟩ v9) ∧ w9.heap[M]? = some (.cells #[.int .i64 4, .int .u32 Bo, .int .i64 0, .int .u32 0, .int .i64 0, .int .i64 0, .int .i64 0, .int .i64 F, .int .i64 0, .int .i64 0, v, .slice none 0 0] 26 (0, 0))) := AjI.next HAd.out (by rw [HYv.out]; exact o9) g9; obtain ⟨k0, k1, k2, k3, k4, k5, k6, k7, k8, k9, k10, k11⟩ := twelve_cells HN9.out.2; have hfz := (fz_twelve HN9.out.2).2.2.2.2.2.2.2.2.2.2.1; obtain ⟨l0, l1, l2, l3, l4, l5, l6, l7, l8, l9, l10, l11⟩ := twelve_cells HN9.out.1.rb.m; clear o9 g9; subst hv9))
                  all_goals
                    go_wp2
                    go_roundw
                    case rel => exact ⟨q + 1, _, by omega, by go_num, HN9.out.1⟩
                    case measure => simp [intOf]; omega
                · obtain rfl : q = kk := by omega
                  have hl1 : ¬ 5 + 8 * (q : Int) < (N5 : Int) := by omega
                  obtain ⟨ga, gc, rfl, hrg, hra⟩ := owns_rgR HAk.out.own
                  obtain ⟨G, hG⟩ : ∃ G, (rdG q (.ok (B.drop 5))).1 = G := ⟨_, rfl⟩
                  have hGl : G.length = q := by rw [← hG, rdG_len]
                  rw [hG] at hrg
                  have HMn0 : Hid ((tkN 4 (.ok B)).kb 4 Bo = (⟨4, Bo, 0, 0, 0, 0, 0, F, 0, 0, G, []⟩ : Mn)) := by
                    show (tk_ack (.ok B)).kb 4 Bo = _
                    rw [rd_ack B q (by rw [HBb.out.2]; omega) HKb.out.2.2.1, HKb.out.2.2.2, hG]
                    rfl
                  have HOKn : Hid (okT (txT b) = (isKd 4 && myN (⟨4, Bo, 0, 0, 0, 0, 0, F, 0, 0, G, []⟩ : Mn)) ∧ mnT (txT b) = (⟨4, Bo, 0, 0, 0, 0, 0, F, 0, 0, G, []⟩ : Mn)) := by
                    refine ⟨?_, HOK0.out.2.trans HMn0.out⟩
                    rw [HOK0.out.1, HMn0.out, en_ack B HBb.out.1, HBb.out.2, HKb.out.2.2.1, decide_eq_true (by have := HKb.out.2.1; omega : 5 ≤ N5 ∧ (N5 : Int) = 5 + 8 * (q : Int))]
                    simp
                  have HBn : Hid ((0 ≤ Bo ∧ Bo < 4294967296) ∧ (0 ≤ (0 : Int) ∧ (0 : Int) < 4294967296) ∧ G.length ≤ 1000) := ⟨hBob, ⟨by omega, by omega⟩, by have := HKb.out.1; omega⟩
                  have HRw : Hid (RbI w M #[.int .i64 4, .int .u32 Bo, .int .i64 0, .int .u32 0, .int .i64 0, .int .i64 0, .int .i64 0, .int .i64 F, .int .i64 0, .int .i64 0, .slice ga q gc, .slice none 0 0] wr) := HAk.out.rb
                  have HMs : Hid (MsR (w.heap.size + 1) wr (⟨4, Bo, 0, 0, 0, 0, 0, F, 0, 0, G, []⟩ : Mn) ga gc none 0) := ⟨hrg, ⟨rfl, Bytes.nil, Nat.le_refl _, by simp, fun _ => rfl, .inl rfl⟩, (fun x hx => by have := hra x hx; have := HAk.out.rb.lt; omega), (fun x hx => by cases hx)⟩
                  clear hG hrg hra HOK0 HMn0 HKb HAk
                  have hGq := hGl.symm
                  subst hGq
                  have HR : Hid (RbI w M #[.int .i64 4, .int .u32 Bo, .int .i64 0, .int .u32 0, .int .i64 0, .int .i64 0, .int .i64 0, .int .i64 F, .int .i64 0, .int .i64 0, .slice ga G.length gc, .slice none 0 0] wr) := HRw.out
                  go_upto_region 43 with fail
                  have HBx : True := trivial
                  obtain ⟨Y, hY⟩ : ∃ Y, (isKd 4 && myN (⟨4, Bo, 0, 0, 0, 0, 0, F, 0, 0, G, []⟩ : Mn)) = Y := ⟨_, rfl⟩
                  have HMy : Hid (Calls Try.prog 23 #[.agg #[.int .i64 4, .int .u32 Bo, .int .i64 0, .int .u32 0, .int .i64 0, .int .i64 0, .int .i64 0, .int .i64 F, .int .i64 0, .int .i64 0, .slice ga G.length gc, .slice none 0 0]] wr fun e w' => e = .returned (.bool Y) ∧ Below (wr).heap.size (wr) w') := by
                    have := may_rd (⟨4, Bo, 0, 0, 0, 0, 0, F, 0, 0, G, []⟩ : Mn) ga gc none 0 (w.heap.size + 1) (wr) HMs.out HBn.out.1 HBn.out.2.1 HBn.out.2.2
                    rw [← hY]
                    exact this
                  rw [hY] at HOKn
                  obtain ⟨m0, m1, m2, m3, m4, m5, m6, m7, m8, m9, m10, m11⟩ := twelve_cells HR.out.m
                  clear hY HNu HBx
                  cases Y
                  · go_upto_region 44 with (go_at_call 23; refine Calls.mono HMy.out ?_; rintro e w8 ⟨rfl, b8⟩; have HR8 : Hid (RbI w M #[.int .i64 4, .int .u32 Bo, .int .i64 0, .int .u32 0, .int .i64 0, .int .i64 0, .int .i64 0, .int .i64 F, .int .i64 0, .int .i64 0, .slice ga G.length gc, .slice none 0 0] w8) := HR.out.old b8; clear b8)
                    have HF : Hid (MsP w (rdOk b) (rdE b) (mnT (txT b)) (.returned (.tuple #[.agg #[.int .i64 0, .int .u32 0, .int .i64 0, .int .u32 0, .int .i64 0, .int .i64 0, .int .i64 0, .int .i64 0, .int .i64 0, .int .i64 0, .slice none 0 0, .slice none 0 0], .int .i64 3])) (w8.setCells w.heap.size 0 (Array.toList #[.int .i64 0, .int .u32 0, .int .i64 0, .int .u32 0, .int .i64 0, .int .i64 0, .int .i64 0, .int .i64 0, .int .i64 0, .int .i64 0, .slice none 0 0, .slice none 0 0]))) := by
                      rw [HE.out.1, HE.out.2, HOKn.out.1]
                      exact fin_bad 3 rfl HR8.out.be
                    have HX : Hid ((w8.setCells w.heap.size 0 (Array.toList #[.int .i64 0, .int .u32 0, .int .i64 0, .int .u32 0, .int .i64 0, .int .i64 0, .int .i64 0, .int .i64 0, .int .i64 0, .int .i64 0, .slice none 0 0, .slice none 0 0])).heap[w.heap.size]? = some (.cells #[.int .i64 0, .int .u32 0, .int .i64 0, .int .u32 0, .int .i64 0, .int .i64 0, .int .i64 0, .int .i64 0, .int .i64 0, .int .i64 0, .slice none 0 0, .slice none 0 0] 26 (0, 0))) := set_twelve _ _ _ _ _ _ _ _ _ _ _ _ HR8.out.z
                    obtain ⟨z0, z1, z2, z3, z4, z5, z6, z7, z8, z9, z10, z11⟩ := twelve_cells (HR8.out.z)
                    obtain ⟨y0, y1, y2, y3, y4, y5, y6, y7, y8, y9, y10, y11⟩ := fz_twelve (HR8.out.z)
                    obtain ⟨n0, n1, n2, n3, n4, n5, n6, n7, n8, n9, n10, n11⟩ := twelve_cells (HR8.out.nb)
                    go_wp2
                    refine bodyPost_ret (v := .tuple #[.agg #[.int .i64 0, .int .u32 0, .int .i64 0, .int .u32 0, .int .i64 0, .int .i64 0, .int .i64 0, .int .i64 0, .int .i64 0, .int .i64 0, .slice none 0 0, .slice none 0 0], .int .i64 3]) ?_ rfl HF.out
                    rw [results_ct rfl]
                    simp [asAddr]
                    have L0 := load_msg HX.out
                    refine (congrArg (fun r => Result.andThen r _) L0).trans ?_
                    rfl
                  · go_upto_region 45 with (go_at_call 23; refine Calls.mono HMy.out ?_; rintro e w8 ⟨rfl, b8⟩; have HR8 : Hid (RbI w M #[.int .i64 4, .int .u32 Bo, .int .i64 0, .int .u32 0, .int .i64 0, .int .i64 0, .int .i64 0, .int .i64 F, .int .i64 0, .int .i64 0, .slice ga G.length gc, .slice none 0 0] w8 ∧ MsR (w.heap.size + 1) w8 (⟨4, Bo, 0, 0, 0, 0, 0, F, 0, 0, G, []⟩ : Mn) ga gc none 0) := ⟨HR.out.old b8, HMs.out.old b8⟩; clear b8)
                    have HF : Hid (MsP w (rdOk b) (rdE b) (mnT (txT b)) (.returned (.tuple #[.agg #[.int .i64 4, .int .u32 Bo, .int .i64 0, .int .u32 0, .int .i64 0, .int .i64 0, .int .i64 0, .int .i64 F, .int .i64 0, .int .i64 0, .slice ga G.length gc, .slice none 0 0], .int .i64 0])) (w8.setCells w.heap.size 0 (Array.toList #[.int .i64 4, .int .u32 Bo, .int .i64 0, .int .u32 0, .int .i64 0, .int .i64 0, .int .i64 0, .int .i64 F, .int .i64 0, .int .i64 0, .slice ga G.length gc, .slice none 0 0]))) := by
                      rw [HE.out.1, HE.out.2, HOKn.out.1, HOKn.out.2]
                      exact fin_ok (n := (⟨4, Bo, 0, 0, 0, 0, 0, F, 0, 0, G, []⟩ : Mn)) (U0 := w.heap.size + 1) 3 rfl HR8.out.1.be HR8.out.2 (Nat.lt_succ_self _)
                    have HX : Hid ((w8.setCells w.heap.size 0 (Array.toList #[.int .i64 4, .int .u32 Bo, .int .i64 0, .int .u32 0, .int .i64 0, .int .i64 0, .int .i64 0, .int .i64 F, .int .i64 0, .int .i64 0, .slice ga G.length gc, .slice none 0 0])).heap[w.heap.size]? = some (.cells #[.int .i64 4, .int .u32 Bo, .int .i64 0, .int .u32 0, .int .i64 0, .int .i64 0, .int .i64 0, .int .i64 F, .int .i64 0, .int .i64 0, .slice ga G.length gc, .slice none 0 0] 26 (0, 0))) := set_twelve _ _ _ _ _ _ _ _ _ _ _ _ HR8.out.1.z
                    obtain ⟨z0, z1, z2, z3, z4, z5, z6, z7, z8, z9, z10, z11⟩ := twelve_cells HR8.out.1.z
                    obtain ⟨y0, y1, y2, y3, y4, y5, y6, y7, y8, y9, y10, y11⟩ := fz_twelve HR8.out.1.z
                    obtain ⟨q0, q1, q2, q3, q4, q5, q6, q7, q8, q9, q10, q11⟩ := twelve_cells HR8.out.1.m
                    go_wp2
                    refine bodyPost_ret (v := .tuple #[.agg #[.int .i64 4, .int .u32 Bo, .int .i64 0, .int .u32 0, .int .i64 0, .int .i64 0, .int .i64 0, .int .i64 F, .int .i64 0, .int .i64 0, .slice ga G.length gc, .slice none 0 0], .int .i64 0]) ?_ rfl HF.out
                    rw [results_ct rfl]
                    simp [asAddr]
                    have L0 := load_msg HX.out
                    refine (congrArg (fun r => Result.andThen r _) L0).trans ?_
                    rfl
            · have hE9 : ((N5 : Int) != 5 + 8 * (kk : Int)) = true := by simp; omega
              have HOKx : Hid (enK 4 B = false) := by
                show _ = _
                rw [en_ack B HBb.out.1, HBb.out.2, hP]
                exact decide_eq_false (by omega)
              clear hF hP hC1
              have HNo : Hid (rdOk b = false ∧ rdE b = 3) := ⟨by rw [HE.out.1, HOK0.out.1, HOKx.out]; simp, HE.out.2⟩
              clear HNu HBx
              go_upto_region 32 with (go_at_call 31; (with_reducible refine Calls.mono hC2.out ?_); rintro e x ⟨rfl, hx⟩; have hx2 := hx.symm; clear hx; subst hx2)
              have HF : Hid (MsP w (rdOk b) (rdE b) (mnT (txT b)) (.returned (.tuple #[.agg #[.int .i64 0, .int .u32 0, .int .i64 0, .int .u32 0, .int .i64 0, .int .i64 0, .int .i64 0, .int .i64 0, .int .i64 0, .int .i64 0, .slice none 0 0, .slice none 0 0], .int .i64 3])) (wc.setCells w.heap.size 0 (Array.toList #[.int .i64 0, .int .u32 0, .int .i64 0, .int .u32 0, .int .i64 0, .int .i64 0, .int .i64 0, .int .i64 0, .int .i64 0, .int .i64 0, .slice none 0 0, .slice none 0 0]))) := by
                rw [HNo.out.1, HNo.out.2]
                exact fin_bad 3 rfl HRb.out.be
              have HX : Hid ((wc.setCells w.heap.size 0 (Array.toList #[.int .i64 0, .int .u32 0, .int .i64 0, .int .u32 0, .int .i64 0, .int .i64 0, .int .i64 0, .int .i64 0, .int .i64 0, .int .i64 0, .slice none 0 0, .slice none 0 0])).heap[w.heap.size]? = some (.cells #[.int .i64 0, .int .u32 0, .int .i64 0, .int .u32 0, .int .i64 0, .int .i64 0, .int .i64 0, .int .i64 0, .int .i64 0, .int .i64 0, .slice none 0 0, .slice none 0 0] 26 (0, 0))) := set_twelve _ _ _ _ _ _ _ _ _ _ _ _ HRb.out.z
              obtain ⟨z0, z1, z2, z3, z4, z5, z6, z7, z8, z9, z10, z11⟩ := twelve_cells (HRb.out.z)
              obtain ⟨y0, y1, y2, y3, y4, y5, y6, y7, y8, y9, y10, y11⟩ := fz_twelve (HRb.out.z)
              obtain ⟨n0, n1, n2, n3, n4, n5, n6, n7, n8, n9, n10, n11⟩ := twelve_cells (HRb.out.nb)
              go_wp2
              refine bodyPost_ret (v := .tuple #[.agg #[.int .i64 0, .int .u32 0, .int .i64 0, .int .u32 0, .int .i64 0, .int .i64 0, .int .i64 0, .int .i64 0, .int .i64 0, .int .i64 0, .slice none 0 0, .slice none 0 0], .int .i64 3]) ?_ rfl HF.out
              rw [results_ct rfl]
              simp [asAddr]
              have L0 := load_msg HX.out
              refine (congrArg (fun r => Result.andThen r _) L0).trans ?_
              rfl
        by_cases k5 : b0 = 5
        · subst k5
          by_cases hL : N5 = 2
          · subst hL
            clear hN5b
            obtain ⟨F, hF⟩ : ∃ x, nuN B 0 1 = x := ⟨_, rfl⟩
            have bF := nuN_bd HBb.out.1 0 1 (by rw [HBb.out.2]; omega)
            rw [hF] at bF
            simp at bF
            obtain ⟨P, hP⟩ : ∃ x, nuN B 1 1 = x := ⟨_, rfl⟩
            have bP := nuN_bd HBb.out.1 1 1 (by rw [HBb.out.2]; omega)
            rw [hP] at bP
            simp at bP
            have HMn0 : Hid ((tkN 5 (.ok B)).kb 5 Bo = ⟨5, Bo, F, 0, 0, 0, 0, 0, 0, P, [], []⟩) := by
              show (tk_no (.ok B)).kb 5 Bo = _
              rw [rd_no B HBb.out.2, hF, hP]
              rfl
            have hCF : Hid (Below M w2 wc → Calls Try.prog 31 #[.slice (some ⟨bb, off + 5, none⟩) 2 (cap0 - 5), .int .i64 0, .int .i64 1] wc fun e w' => e = .returned (.int .i64 F) ∧ w' = wc) := fun hu => by
              have := HNu.out wc 0 1 hu (by omega) (by omega) (by omega)
              rw [hF] at this
              exact this
            have hCP : Hid (Below M w2 (wc.setCell ⟨M, 2, none⟩ (.int .i64 F)) → Calls Try.prog 31 #[.slice (some ⟨bb, off + 5, none⟩) 2 (cap0 - 5), .int .i64 1, .int .i64 1] (wc.setCell ⟨M, 2, none⟩ (.int .i64 F)) fun e w' => e = .returned (.int .i64 P) ∧ w' = (wc.setCell ⟨M, 2, none⟩ (.int .i64 F))) := fun hu => by
              have := HNu.out (wc.setCell ⟨M, 2, none⟩ (.int .i64 F)) 1 1 hu (by omega) (by omega) (by omega)
              rw [hP] at this
              exact this
            have HWF : Hid (Below M w2 wc) := HBx.out
            have HWP : Hid (Below M w2 (wc.setCell ⟨M, 2, none⟩ (.int .i64 F))) := HWF.out.setCell (Nat.le_refl _) _
            have HR : Hid (RbI w M #[.int .i64 5, .int .u32 Bo, .int .i64 F, .int .u32 0, .int .i64 0, .int .i64 0, .int .i64 0, .int .i64 0, .int .i64 0, .int .i64 P, .slice none 0 0, .slice none 0 0] ((wc.setCell ⟨M, 2, none⟩ (.int .i64 F)).setCell ⟨M, 9, none⟩ (.int .i64 P))) := ((HRb.out.set 2 (.int .i64 F)).set 9 (.int .i64 P))
            have HMs : Hid (MsR (w.heap.size + 1) ((wc.setCell ⟨M, 2, none⟩ (.int .i64 F)).setCell ⟨M, 9, none⟩ (.int .i64 P)) (⟨5, Bo, F, 0, 0, 0, 0, 0, 0, P, [], []⟩ : Mn) none 0 none 0) := MsR.nil _ _ _ rfl rfl
            have HOKn : Hid (okT (txT b) = (isKd 5 && myN (⟨5, Bo, F, 0, 0, 0, 0, 0, 0, P, [], []⟩ : Mn)) ∧ mnT (txT b) = (⟨5, Bo, F, 0, 0, 0, 0, 0, 0, P, [], []⟩ : Mn)) := by
              refine ⟨?_, HOK0.out.2.trans HMn0.out⟩
              rw [HOK0.out.1, HMn0.out, en_no, HBb.out.2]
              simp
            have HBn : Hid ((0 ≤ Bo ∧ Bo < 4294967296) ∧ (0 ≤ (0 : Int) ∧ (0 : Int) < 4294967296) ∧ ([] : List (Int × Int)).length ≤ 1000) := ⟨hBob, ⟨by omega, by omega⟩, by simp⟩
            have hfz := fz_twelve HRb.out.m
            obtain ⟨y0, y1, y2, y3, y4, y5, y6, y7, y8, y9, y10, y11⟩ := hfz
            clear HOK0 HMn0 hF hP
            go_upto_region 42 with (go_at_call 31; (with_reducible refine Calls.mono (hCF.out HWF.out) ?_); rintro e x ⟨rfl, hx⟩; have hx2 := hx.symm; clear hx; subst hx2)
            go_upto_region 43 with (go_at_call 31; (with_reducible refine Calls.mono (hCP.out HWP.out) ?_); rintro e x ⟨rfl, hx⟩; have hx2 := hx.symm; clear hx; subst hx2)
            clear hCF hCP HWF HWP y0 y1 y2 y3 y4 y5 y6 y7 y8 y9 y10 y11 d0 d1 d2 d3 d4 d5 d6 d7 d8 d9 d10 d11
            obtain ⟨Y, hY⟩ : ∃ Y, (isKd 5 && myN (⟨5, Bo, F, 0, 0, 0, 0, 0, 0, P, [], []⟩ : Mn)) = Y := ⟨_, rfl⟩
            have HMy : Hid (Calls Try.prog 23 #[.agg #[.int .i64 5, .int .u32 Bo, .int .i64 F, .int .u32 0, .int .i64 0, .int .i64 0, .int .i64 0, .int .i64 0, .int .i64 0, .int .i64 P, .slice none 0 0, .slice none 0 0]] ((wc.setCell ⟨M, 2, none⟩ (.int .i64 F)).setCell ⟨M, 9, none⟩ (.int .i64 P)) fun e w' => e = .returned (.bool Y) ∧ Below (((wc.setCell ⟨M, 2, none⟩ (.int .i64 F)).setCell ⟨M, 9, none⟩ (.int .i64 P))).heap.size (((wc.setCell ⟨M, 2, none⟩ (.int .i64 F)).setCell ⟨M, 9, none⟩ (.int .i64 P))) w') := by
              have := may_rd (⟨5, Bo, F, 0, 0, 0, 0, 0, 0, P, [], []⟩ : Mn) none 0 none 0 (w.heap.size + 1) (((wc.setCell ⟨M, 2, none⟩ (.int .i64 F)).setCell ⟨M, 9, none⟩ (.int .i64 P))) HMs.out HBn.out.1 HBn.out.2.1 HBn.out.2.2
              rw [← hY]
              exact this
            rw [hY] at HOKn
            obtain ⟨m0, m1, m2, m3, m4, m5, m6, m7, m8, m9, m10, m11⟩ := twelve_cells HR.out.m
            clear hY HNu HBx
            cases Y
            · go_upto_region 44 with (go_at_call 23; refine Calls.mono HMy.out ?_; rintro e w8 ⟨rfl, b8⟩; have HR8 : Hid (RbI w M #[.int .i64 5, .int .u32 Bo, .int .i64 F, .int .u32 0, .int .i64 0, .int .i64 0, .int .i64 0, .int .i64 0, .int .i64 0, .int .i64 P, .slice none 0 0, .slice none 0 0] w8) := HR.out.old b8; clear b8)
              have HF : Hid (MsP w (rdOk b) (rdE b) (mnT (txT b)) (.returned (.tuple #[.agg #[.int .i64 0, .int .u32 0, .int .i64 0, .int .u32 0, .int .i64 0, .int .i64 0, .int .i64 0, .int .i64 0, .int .i64 0, .int .i64 0, .slice none 0 0, .slice none 0 0], .int .i64 3])) (w8.setCells w.heap.size 0 (Array.toList #[.int .i64 0, .int .u32 0, .int .i64 0, .int .u32 0, .int .i64 0, .int .i64 0, .int .i64 0, .int .i64 0, .int .i64 0, .int .i64 0, .slice none 0 0, .slice none 0 0]))) := by
                rw [HE.out.1, HE.out.2, HOKn.out.1]
                exact fin_bad 3 rfl HR8.out.be
              have HX : Hid ((w8.setCells w.heap.size 0 (Array.toList #[.int .i64 0, .int .u32 0, .int .i64 0, .int .u32 0, .int .i64 0, .int .i64 0, .int .i64 0, .int .i64 0, .int .i64 0, .int .i64 0, .slice none 0 0, .slice none 0 0])).heap[w.heap.size]? = some (.cells #[.int .i64 0, .int .u32 0, .int .i64 0, .int .u32 0, .int .i64 0, .int .i64 0, .int .i64 0, .int .i64 0, .int .i64 0, .int .i64 0, .slice none 0 0, .slice none 0 0] 26 (0, 0))) := set_twelve _ _ _ _ _ _ _ _ _ _ _ _ HR8.out.z
              obtain ⟨z0, z1, z2, z3, z4, z5, z6, z7, z8, z9, z10, z11⟩ := twelve_cells (HR8.out.z)
              obtain ⟨y0, y1, y2, y3, y4, y5, y6, y7, y8, y9, y10, y11⟩ := fz_twelve (HR8.out.z)
              obtain ⟨n0, n1, n2, n3, n4, n5, n6, n7, n8, n9, n10, n11⟩ := twelve_cells (HR8.out.nb)
              go_wp2
              refine bodyPost_ret (v := .tuple #[.agg #[.int .i64 0, .int .u32 0, .int .i64 0, .int .u32 0, .int .i64 0, .int .i64 0, .int .i64 0, .int .i64 0, .int .i64 0, .int .i64 0, .slice none 0 0, .slice none 0 0], .int .i64 3]) ?_ rfl HF.out
              rw [results_ct rfl]
              simp [asAddr]
              have L0 := load_msg HX.out
              refine (congrArg (fun r => Result.andThen r _) L0).trans ?_
              rfl
            · go_upto_region 45 with (go_at_call 23; refine Calls.mono HMy.out ?_; rintro e w8 ⟨rfl, b8⟩; have HR8 : Hid (RbI w M #[.int .i64 5, .int .u32 Bo, .int .i64 F, .int .u32 0, .int .i64 0, .int .i64 0, .int .i64 0, .int .i64 0, .int .i64 0, .int .i64 P, .slice none 0 0, .slice none 0 0] w8 ∧ MsR (w.heap.size + 1) w8 (⟨5, Bo, F, 0, 0, 0, 0, 0, 0, P, [], []⟩ : Mn) none 0 none 0) := ⟨HR.out.old b8, HMs.out.old b8⟩; clear b8)
              have HF : Hid (MsP w (rdOk b) (rdE b) (mnT (txT b)) (.returned (.tuple #[.agg #[.int .i64 5, .int .u32 Bo, .int .i64 F, .int .u32 0, .int .i64 0, .int .i64 0, .int .i64 0, .int .i64 0, .int .i64 0, .int .i64 P, .slice none 0 0, .slice none 0 0], .int .i64 0])) (w8.setCells w.heap.size 0 (Array.toList #[.int .i64 5, .int .u32 Bo, .int .i64 F, .int .u32 0, .int .i64 0, .int .i64 0, .int .i64 0, .int .i64 0, .int .i64 0, .int .i64 P, .slice none 0 0, .slice none 0 0]))) := by
                rw [HE.out.1, HE.out.2, HOKn.out.1, HOKn.out.2]
                exact fin_ok (n := (⟨5, Bo, F, 0, 0, 0, 0, 0, 0, P, [], []⟩ : Mn)) (U0 := w.heap.size + 1) 3 rfl HR8.out.1.be HR8.out.2 (Nat.lt_succ_self _)
              have HX : Hid ((w8.setCells w.heap.size 0 (Array.toList #[.int .i64 5, .int .u32 Bo, .int .i64 F, .int .u32 0, .int .i64 0, .int .i64 0, .int .i64 0, .int .i64 0, .int .i64 0, .int .i64 P, .slice none 0 0, .slice none 0 0])).heap[w.heap.size]? = some (.cells #[.int .i64 5, .int .u32 Bo, .int .i64 F, .int .u32 0, .int .i64 0, .int .i64 0, .int .i64 0, .int .i64 0, .int .i64 0, .int .i64 P, .slice none 0 0, .slice none 0 0] 26 (0, 0))) := set_twelve _ _ _ _ _ _ _ _ _ _ _ _ HR8.out.1.z
              obtain ⟨z0, z1, z2, z3, z4, z5, z6, z7, z8, z9, z10, z11⟩ := twelve_cells HR8.out.1.z
              obtain ⟨y0, y1, y2, y3, y4, y5, y6, y7, y8, y9, y10, y11⟩ := fz_twelve HR8.out.1.z
              obtain ⟨q0, q1, q2, q3, q4, q5, q6, q7, q8, q9, q10, q11⟩ := twelve_cells HR8.out.1.m
              go_wp2
              refine bodyPost_ret (v := .tuple #[.agg #[.int .i64 5, .int .u32 Bo, .int .i64 F, .int .u32 0, .int .i64 0, .int .i64 0, .int .i64 0, .int .i64 0, .int .i64 0, .int .i64 P, .slice none 0 0, .slice none 0 0], .int .i64 0]) ?_ rfl HF.out
              rw [results_ct rfl]
              simp [asAddr]
              have L0 := load_msg HX.out
              refine (congrArg (fun r => Result.andThen r _) L0).trans ?_
              rfl
          · have hL2 : ((N5 : Int) != 2) = true := by simp; omega
            have HNo : Hid (rdOk b = false ∧ rdE b = 3) := ⟨by rw [HE.out.1, HOK0.out.1, en_no, decide_eq_false (by rw [HBb.out.2]; exact hL)]; simp, HE.out.2⟩
            clear HNu HBx
            go_upto_region 40 with fail
            have HF : Hid (MsP w (rdOk b) (rdE b) (mnT (txT b)) (.returned (.tuple #[.agg #[.int .i64 0, .int .u32 0, .int .i64 0, .int .u32 0, .int .i64 0, .int .i64 0, .int .i64 0, .int .i64 0, .int .i64 0, .int .i64 0, .slice none 0 0, .slice none 0 0], .int .i64 3])) (wc.setCells w.heap.size 0 (Array.toList #[.int .i64 0, .int .u32 0, .int .i64 0, .int .u32 0, .int .i64 0, .int .i64 0, .int .i64 0, .int .i64 0, .int .i64 0, .int .i64 0, .slice none 0 0, .slice none 0 0]))) := by
              rw [HNo.out.1, HNo.out.2]
              exact fin_bad 3 rfl HRb.out.be
            have HX : Hid ((wc.setCells w.heap.size 0 (Array.toList #[.int .i64 0, .int .u32 0, .int .i64 0, .int .u32 0, .int .i64 0, .int .i64 0, .int .i64 0, .int .i64 0, .int .i64 0, .int .i64 0, .slice none 0 0, .slice none 0 0])).heap[w.heap.size]? = some (.cells #[.int .i64 0, .int .u32 0, .int .i64 0, .int .u32 0, .int .i64 0, .int .i64 0, .int .i64 0, .int .i64 0, .int .i64 0, .int .i64 0, .slice none 0 0, .slice none 0 0] 26 (0, 0))) := set_twelve _ _ _ _ _ _ _ _ _ _ _ _ HRb.out.z
            obtain ⟨z0, z1, z2, z3, z4, z5, z6, z7, z8, z9, z10, z11⟩ := twelve_cells (HRb.out.z)
            obtain ⟨y0, y1, y2, y3, y4, y5, y6, y7, y8, y9, y10, y11⟩ := fz_twelve (HRb.out.z)
            obtain ⟨n0, n1, n2, n3, n4, n5, n6, n7, n8, n9, n10, n11⟩ := twelve_cells (HRb.out.nb)
            go_wp2
            refine bodyPost_ret (v := .tuple #[.agg #[.int .i64 0, .int .u32 0, .int .i64 0, .int .u32 0, .int .i64 0, .int .i64 0, .int .i64 0, .int .i64 0, .int .i64 0, .int .i64 0, .slice none 0 0, .slice none 0 0], .int .i64 3]) ?_ rfl HF.out
            rw [results_ct rfl]
            simp [asAddr]
            have L0 := load_msg HX.out
            refine (congrArg (fun r => Result.andThen r _) L0).trans ?_
            rfl
        have hkd : isKd b0 = false := by unfold isKd; exact decide_eq_false (by omega)
        have HNo : Hid (rdOk b = false ∧ rdE b = 3) := ⟨by rw [HE.out.1, HOK0.out.1, hkd]; simp, HE.out.2⟩
        have HMs : Hid (MsR (w.heap.size + 1) wc (⟨b0, Bo, 0, 0, 0, 0, 0, 0, 0, 0, [], []⟩ : Mn) none 0 none 0) := MsR.nil _ _ _ rfl rfl
        have HMy : Hid (Calls Try.prog 23 #[.agg #[.int .i64 b0, .int .u32 Bo, .int .i64 0, .int .u32 0, .int .i64 0, .int .i64 0, .int .i64 0, .int .i64 0, .int .i64 0, .int .i64 0, .slice none 0 0, .slice none 0 0]] wc fun e w' => e = .returned (.bool false) ∧ Below wc.heap.size wc w') := by
          have := may_rd (⟨b0, Bo, 0, 0, 0, 0, 0, 0, 0, 0, [], []⟩ : Mn) none 0 none 0 (w.heap.size + 1) wc HMs.out hBob ⟨by show (0 : Int) ≤ 0; omega, by show (0 : Int) < _; omega⟩ (by simp)
          have e : (isKd b0 && myN (⟨b0, Bo, 0, 0, 0, 0, 0, 0, 0, 0, [], []⟩ : Mn)) = false := by rw [hkd]; rfl
          have e2 : (isKd ((⟨b0, Bo, 0, 0, 0, 0, 0, 0, 0, 0, [], []⟩ : Mn)).k && myN (⟨b0, Bo, 0, 0, 0, 0, 0, 0, 0, 0, [], []⟩ : Mn)) = false := e
          rw [e2] at this
          exact this
        clear HNu HBx HMs hkd HOK0
        go_upto_region 44 with (go_at_call 23; refine Calls.mono HMy.out ?_; rintro e w8 ⟨rfl, b8⟩; have HR8 : Hid (RbI w M #[.int .i64 b0, .int .u32 Bo, .int .i64 0, .int .u32 0, .int .i64 0, .int .i64 0, .int .i64 0, .int .i64 0, .int .i64 0, .int .i64 0, .slice none 0 0, .slice none 0 0] w8) := HRb.out.old b8; clear b8)
        have HF : Hid (MsP w (rdOk b) (rdE b) (mnT (txT b)) (.returned (.tuple #[.agg #[.int .i64 0, .int .u32 0, .int .i64 0, .int .u32 0, .int .i64 0, .int .i64 0, .int .i64 0, .int .i64 0, .int .i64 0, .int .i64 0, .slice none 0 0, .slice none 0 0], .int .i64 3])) (w8.setCells w.heap.size 0 (Array.toList #[.int .i64 0, .int .u32 0, .int .i64 0, .int .u32 0, .int .i64 0, .int .i64 0, .int .i64 0, .int .i64 0, .int .i64 0, .int .i64 0, .slice none 0 0, .slice none 0 0]))) := by
          rw [HNo.out.1, HNo.out.2]
          exact fin_bad 3 rfl HR8.out.be
        have HX : Hid ((w8.setCells w.heap.size 0 (Array.toList #[.int .i64 0, .int .u32 0, .int .i64 0, .int .u32 0, .int .i64 0, .int .i64 0, .int .i64 0, .int .i64 0, .int .i64 0, .int .i64 0, .slice none 0 0, .slice none 0 0])).heap[w.heap.size]? = some (.cells #[.int .i64 0, .int .u32 0, .int .i64 0, .int .u32 0, .int .i64 0, .int .i64 0, .int .i64 0, .int .i64 0, .int .i64 0, .int .i64 0, .slice none 0 0, .slice none 0 0] 26 (0, 0))) := set_twelve _ _ _ _ _ _ _ _ _ _ _ _ HR8.out.z
        obtain ⟨z0, z1, z2, z3, z4, z5, z6, z7, z8, z9, z10, z11⟩ := twelve_cells (HR8.out.z)
        obtain ⟨y0, y1, y2, y3, y4, y5, y6, y7, y8, y9, y10, y11⟩ := fz_twelve (HR8.out.z)
        obtain ⟨n0, n1, n2, n3, n4, n5, n6, n7, n8, n9, n10, n11⟩ := twelve_cells (HR8.out.nb)
        go_wp2
        refine bodyPost_ret (v := .tuple #[.agg #[.int .i64 0, .int .u32 0, .int .i64 0, .int .u32 0, .int .i64 0, .int .i64 0, .int .i64 0, .int .i64 0, .int .i64 0, .int .i64 0, .slice none 0 0, .slice none 0 0], .int .i64 3]) ?_ rfl HF.out
        rw [results_ct rfl]
        simp [asAddr]
        have L0 := load_msg HX.out
        refine (congrArg (fun r => Result.andThen r _) L0).trans ?_
        rfl
    · have hne : ((X : Int) != S4) = true := by simpa using (fun h => hs h.symm)
      obtain ⟨s1, s2⟩ := hS4
      rw [decide_eq_false hs, if_neg hs] at HE
      clear hs
      go_upto_region 6 with fail
      have HF : Hid (MsP w (rdOk b) (rdE b) (mnT (txT b)) (.returned (.tuple #[.agg #[.int .i64 0, .int .u32 0, .int .i64 0, .int .u32 0, .int .i64 0, .int .i64 0, .int .i64 0, .int .i64 0, .int .i64 0, .int .i64 0, .slice none 0 0, .slice none 0 0], .int .i64 4])) (w2.setCells w.heap.size 0 (Array.toList #[.int .i64 0, .int .u32 0, .int .i64 0, .int .u32 0, .int .i64 0, .int .i64 0, .int .i64 0, .int .i64 0, .int .i64 0, .int .i64 0, .slice none 0 0, .slice none 0 0]))) := by
        rw [HE.out.1, HE.out.2]
        exact fin_bad 4 rfl HW2.out.2.1
      have HX : Hid ((w2.setCells w.heap.size 0 (Array.toList #[.int .i64 0, .int .u32 0, .int .i64 0, .int .u32 0, .int .i64 0, .int .i64 0, .int .i64 0, .int .i64 0, .int .i64 0, .int .i64 0, .slice none 0 0, .slice none 0 0])).heap[w.heap.size]? = some (.cells #[.int .i64 0, .int .u32 0, .int .i64 0, .int .u32 0, .int .i64 0, .int .i64 0, .int .i64 0, .int .i64 0, .int .i64 0, .int .i64 0, .slice none 0 0, .slice none 0 0] 26 (0, 0))) := set_twelve _ _ _ _ _ _ _ _ _ _ _ _ HW2.out.2.2.1
      obtain ⟨z0, z1, z2, z3, z4, z5, z6, z7, z8, z9, z10, z11⟩ := twelve_cells (HW2.out.2.2.1)
      obtain ⟨y0, y1, y2, y3, y4, y5, y6, y7, y8, y9, y10, y11⟩ := fz_twelve (HW2.out.2.2.1)
      obtain ⟨n0, n1, n2, n3, n4, n5, n6, n7, n8, n9, n10, n11⟩ := twelve_cells (HW2.out.2.2.2)
      go_wp2
      refine bodyPost_ret (v := .tuple #[.agg #[.int .i64 0, .int .u32 0, .int .i64 0, .int .u32 0, .int .i64 0, .int .i64 0, .int .i64 0, .int .i64 0, .int .i64 0, .int .i64 0, .slice none 0 0, .slice none 0 0], .int .i64 4]) ?_ rfl HF.out
      rw [results_ct rfl]
      simp [asAddr]
      have L0 := load_msg HX.out
      refine (congrArg (fun r => Result.andThen r _) L0).trans ?_
      rfl
end Go.Proofs.Ytaibojmaghmfnaa
/- SegmentReads: its walk. -/
namespace Go.Proofs.Ytaibojmaghmfnaa
open Go.RowKit
def oM (ok : Bool) (n : Mn) : Mn := if ok then n else ⟨0, 0, 0, 0, 0, 0, 0, 0, 0, 0, [], []⟩
def oE (ok : Bool) (er : Int) : Int := if ok then 0 else er
/-- What a Read comes to, as one value. -/
theorem msp_val {w w' : World} {ok : Bool} {er : Int} {n : Mn} {e : Ending} (h : MsP w ok er n e w') : ∃ ra rc da dc, e = .returned (.tuple #[((oM ok n).ms ra rc da dc).V, .int .i64 (oE ok er)]) ∧ MsR w.heap.size w' (oM ok n) ra rc da dc ∧ Below w.heap.size w w' := by
  obtain ⟨h1, h2, h3⟩ := h
  cases ok
  · exact ⟨none, 0, none, 0, h2 rfl, MsR.nil _ _ _ rfl rfl, h1⟩
  · obtain ⟨ra, rc, da, dc, e1, e2⟩ := h3 rfl
    exact ⟨ra, rc, da, dc, e1, e2, h1⟩
/-- A message in its block. -/
structure TmI (U : Nat) (wr : World) (Bk : Nat) (n : Mn) (ra : Option Addr) (rc : Nat) (da : Option Addr) (dc : Nat) : Prop where
  tk : wr.heap[Bk]? = some (.cells (n.ms ra rc da dc).c12 26 (0, 0))
  ms : MsR U wr n ra rc da dc
theorem TmI.old {U : Nat} {wr w' : World} {Bk : Nat} {n : Mn} {ra : Option Addr} {rc : Nat} {da : Option Addr} {dc : Nat} (h : TmI U wr Bk n ra rc da dc) (b : Below wr.heap.size wr w') : TmI U w' Bk n ra rc da dc := ⟨(b.block _ (lt_of_block h.tk)).trans h.tk, h.ms.old b⟩
theorem TmI.new {U : Nat} {wr : World} {n : Mn} {ra : Option Addr} {rc : Nat} {da : Option Addr} {dc : Nat} (h : MsR U wr n ra rc da dc) : TmI U (wr.alloc (.cells (n.ms ra rc da dc).c12 26)) wr.heap.size n ra rc da dc := ⟨heap_alloc_newM _ _, h.old (below_allocJ _ _)⟩
theorem TmI.own {U ob : Nat} {wr w' : World} {Bk : Nat} {n : Mn} {ra : Option Addr} {rc : Nat} {da : Option Addr} {dc : Nat} (h : TmI U wr Bk n ra rc da dc) (g : wr.grownBy w' (some ob)) (h1 : ob < U) (h2 : ob < Bk) : TmI U w' Bk n ra rc da dc := by
  refine ⟨(g.block _ (lt_of_block h.tk) (by simp; omega)).trans h.tk, ⟨h.ms.g.same2 fun y hy hne => g.block _ (h.ms.g.lt y hy hne) (fun e => by have := h.ms.fg y hy; simp at e; omega), ?_, h.ms.fg, h.ms.fd⟩⟩
  have hd := h.ms.d
  exact ⟨hd.1, hd.2.1, hd.2.2.1, hd.2.2.2.1, hd.2.2.2.2.1, hd.2.2.2.2.2.same fun y hy hne => g.block _ (hd.2.2.2.2.2.lt y hy hne) (fun e => by have := h.ms.fd y hy; simp at e; omega)⟩
theorem rsame_mn (n : Mn) (ra : Option Addr) (rc : Nat) (da : Option Addr) (dc : Nat) (ra' : Option Addr) (rc' : Nat) (da' : Option Addr) (dc' U U' : Nat) (w : World) (h : MsR U w n ra rc da dc) (h' : MsR U' w n ra' rc' da' dc') (hg : n.G.length ≤ 1000) : Calls Try.prog 12 #[(n.ms ra rc da dc).V, (n.ms ra' rc' da' dc').V] w fun e w' => e = .returned (.bool true) ∧ Below w.heap.size w w' :=
  rsame_yes (n.ms ra rc da dc) (n.ms ra' rc' da' dc') n.G n.D w ⟨rfl, rfl, rfl, rfl, rfl, rfl, rfl, rfl, rfl, rfl, rfl, rfl⟩ rfl rfl (by show n.G.length ≤ _; omega) h.g h'.g h.d.2.2.2.2.2 h'.d.2.2.2.2.2
theorem below_grow {B : Nat} {w u x : World} {o : Obj} (h : Below B w u) (hu : B ≤ u.heap.size) (g : (u.alloc o).grownBy x (some u.heap.size)) : Below B w x := (h.trans ((below_allocJ u o).mono hu)).grown g (Nat.le_trans hu (below_allocJ u o).size) (fun k hk => by cases hk; exact hu)
theorem row_cellJ {wr : World} {zs : List Int} {a : Option Addr} {n cp : Nat} {go : Option Nat} (h : Sl wr 5 (.slice a n cp) go (vals zs)) (hl : zs.length = n) (j : Nat) (hj : j < n) : ∃ g off cap, a = some ⟨g, off, none⟩ ∧ cap = cp ∧ go = some g ∧ wr.cell? ⟨g, off + j, none⟩ = some (.int .u8 (zs[j]?.getD 0)) ∧ wr.frozen? ⟨g, off + j, none⟩ = false := by
  rcases h with ⟨e, _, _⟩ | ⟨b, off, cap, cur, e, eg, hh, h1, h2, h3, hc⟩
  · simp only [Value.slice.injEq] at e; omega
  · simp only [Value.slice.injEq] at e
    obtain ⟨rfl, e2, rfl⟩ := e
    have hv : (vals zs)[j]? = some (.int .u8 (zs[j]?.getD 0)) := by
      unfold vals
      rw [List.getElem?_map]
      have : j < zs.length := by omega
      simp [this]
    have hcc := hc j (by rw [vals_len]; omega)
    rw [hv] at hcc
    refine ⟨b, off, cp, rfl, rfl, eg, ?_, ?_⟩
    · simp [World.cell?, hh, hcc]
    · simp [World.frozen?, hh]
theorem may_len (n : Mn) (hk : isKd n.k = true) (hy : myN n = true) : n.G.length ≤ 1000 := by
  have hk' : 1 ≤ n.k ∧ n.k ≤ 5 := of_decide_eq_true hk
  unfold myN myM at hy
  have e : (n.ms none 0 none 0).k = n.k := rfl
  have er : (n.ms none 0 none 0).rn = n.G.length := rfl
  rw [e] at hy
  by_cases k1 : n.k = 1
  · rw [if_pos k1] at hy
    unfold my_ask at hy
    simp only [Bool.and_eq_true] at hy
    have := (same_ask hy.1).2.2.2.2.2.2.2.2.1
    rw [er] at this
    have h0 : (on_ask (n.ms none 0 none 0)).rn = 0 := rfl
    omega
  by_cases k2 : n.k = 2
  · rw [if_neg k1, if_pos k2] at hy
    unfold my_offer at hy
    simp only [Bool.and_eq_true] at hy
    have := (same_ask hy.1).2.2.2.2.2.2.2.2.1
    rw [er] at this
    have h0 : (on_offer (n.ms none 0 none 0)).rn = 0 := rfl
    omega
  by_cases k3 : n.k = 3
  · rw [if_neg k1, if_neg k2, if_pos k3] at hy
    unfold my_data at hy
    simp only [Bool.and_eq_true] at hy
    have := (same_ask hy.1).2.2.2.2.2.2.2.2.1
    rw [er] at this
    have h0 : (on_data (n.ms none 0 none 0)).rn = 0 := rfl
    omega
  by_cases k4 : n.k = 4
  · rw [if_neg k1, if_neg k2, if_neg k3, if_pos k4] at hy
    unfold my_ack bn_ack at hy
    simp only [Bool.and_eq_true, decide_eq_true_eq] at hy
    have := hy.2.1.2
    rw [er] at this
    omega
  · rw [if_neg k1, if_neg k2, if_neg k3, if_neg k4] at hy
    unfold my_no at hy
    simp only [Bool.and_eq_true] at hy
    have := (same_ask hy.1).2.2.2.2.2.2.2.2.1
    rw [er] at this
    have h0 : (on_no (n.ms none 0 none 0)).rn = 0 := rfl
    omega
theorem nuG_len (b : List Int) (_hl : b.length ≤ 8000) : (oM (rdOk b) (mnT (txT b))).G.length ≤ 1000 := by
  unfold oM
  cases hk : rdOk b
  · simp
  · unfold rdOk at hk
    simp only [Bool.and_eq_true] at hk
    have ho := hk.2
    unfold okT at ho
    simp only [Bool.and_eq_true] at ho
    exact may_len _ ho.1.1.1 ho.2
theorem sreads_big (a : Option Addr) (n c : Nat) (w : World) (hn : 3000 < (n : Int)) : Calls Try.prog 4 #[.slice a n c] w fun e w' => e = .returned (.bool true) ∧ Below w.heap.size w w' := by
  have HF : Hid _ := fixed_any w
  go_enter Try.func4, Try.ntmps4
  go_wp2_with fail
  refine Calls.mono HF.out ?_
  rintro e w1 ⟨rfl, b1⟩
  go_wp2
  go_ret
  exact ⟨rfl, b1⟩
set_option maxHeartbeats 32000000 in
theorem sreads_all (a : Option Addr) (n c : Nat) (A : List Int) (w : World) (h : BOk w a n c A) (hn : ¬ 3000 < (n : Int)) : Calls Try.prog 4 #[.slice a n c] w fun e w' => e = .returned (.bool true) ∧ Below w.heap.size w w' := by
  have HF : Hid _ := fixed_any w
  have HA : Hid (BOk w a n c A) := h
  have hG := nuG_len A (by rw [h.1]; omega)
  have Q1 : Hid (∀ u a' c', BOk u a' n c' A → Calls Try.prog 13 #[.slice a' n c'] u fun e w' => ∃ ra rc da dc, e = .returned (.tuple #[((oM (rdOk A) (mnT (txT A))).ms ra rc da dc).V, .int .i64 (oE (rdOk A) (rdE A))]) ∧ MsR u.heap.size w' (oM (rdOk A) (mnT (txT A))) ra rc da dc ∧ Below u.heap.size u w') := fun u a' c' hu => (read_any a' n c' A u hu.1 hu.2.2.2.2.1 (by omega) hu.2.2.1 (by unfold maxLen; have := hu.2.2.2.1; omega) hu.2.1 hu.2.2.2.2.2).mono fun e w' q => msp_val q
  have Q2 : Hid (∀ u a' c', BOk u a' n c' A → Calls Try.prog 14 #[.slice a' n c'] u fun e w' => ∃ ra rc da dc, e = .returned (.tuple #[((oM (rdOk A) (mnT (txT A))).ms ra rc da dc).V, .int .i64 (oE (rdOk A) (rdE A))]) ∧ MsR u.heap.size w' (oM (rdOk A) (mnT (txT A))) ra rc da dc ∧ Below u.heap.size u w') := fun u a' c' hu => (srd_any a' n c' A u hu.1 (by omega) hu.2.2.1 (by unfold maxLen; have := hu.2.2.2.1; omega) hu.2.1 hu.2.2.2.2.2).mono fun e w' q => msp_val q
  generalize oM (rdOk A) (mnT (txT A)) = N at *
  generalize oE (rdOk A) (rdE A) = E at *
  obtain ⟨k, bo, fi, su, si, ap, bd, ix, pa, co, G, D⟩ := N
  simp only at hG
  have HGl : Hid (G.length ≤ 1000) := hG
  clear h hG
  go_enter Try.func4, Try.ntmps4
  go_upto_region 5 with (go_at_call 8; refine Calls.mono HF.out ?_; rintro e w1 ⟨rfl, b1⟩; have HB1 : Hid (Below w.heap.size w w1) := b1; clear b1 HF)
  have HC1 : Hid (BOk w1 a n c A) := HA.out.old HB1.out
  have HAl : Hid (Below w1.heap.size w1 (w1.alloc (.cells #[] 5))) := below_allocJ w1 _
  go_upto_region 6 with (at_builtin; refine wpList_more rfl _ _ rfl _ _ [] rfl (Sl.empty w1 5) a n c A rfl HC1.out.2.2.2.2.1 HC1.out.1 (HC1.out.2.2.2.2.2.old HAl.out) (by simp; omega) ?_; intro v1 x1 g1 sl1 hg1 hw1; obtain ⟨a1, e1, hv1, hv2, hv3, hv4⟩ := sl1.shape; have hl1 : (vals ([] ++ A)).length = n := (by rw [vals_len, List.nil_append]; exact HC1.out.1); rw [hl1] at hv1 hv2; subst hv1; have HB2 : Hid (Below w1.heap.size w1 x1) := below_grow (Below.refl _ _) (Nat.le_refl _) hw1; have HO1 : Hid (Sl x1 5 (.slice a1 n e1) g1 (vals A) ∧ n ≤ e1 ∧ e1 ≤ maxLen ∧ (a1 = none → e1 = 0) ∧ ∀ k, g1 = some k → w1.heap.size ≤ k) := ⟨sl1, hv2, hv3, hv4, fun k hk => by
        rcases hg1 with e | ⟨q, e, hq⟩
        · rw [e] at hk; cases hk; exact Nat.le_refl _
        · rw [e] at hk; cases hk; simp at hq; omega⟩; clear sl1 hg1 hw1 hl1 hv2 hv3 hv4)
  have HC2 : Hid (BOk x1 a n c A ∧ BOk x1 a1 n e1 A ∧ Below w.heap.size w x1) := ⟨HC1.out.old HB2.out, ⟨HC1.out.1, HC1.out.2.1, HO1.out.2.1, ⟨by omega, by have := HO1.out.2.2.1; unfold maxLen at this; omega⟩, HO1.out.2.2.2.1, HO1.out.1.row rfl⟩, HB1.out.trans (HB2.out.mono HB1.out.size)⟩
  have HU : Hid (∀ q, g1 = some q → q < x1.heap.size ∧ w.heap.size ≤ q) := fun q hq => ⟨HO1.out.1.lt hq, by have := HO1.out.2.2.2.2 q hq; have := HB1.out.size; omega⟩
  have HS1 : Hid (Sl x1 5 (.slice a1 n e1) g1 (vals A)) := HO1.out.1
  clear HC1 HB1 HB2 HAl HO1
  go_upto_region 7 with (go_at_call 13; refine Calls.mono (Q1.out x1 a1 e1 HC2.out.2.1) ?_; rintro e x2 ⟨ra, rc, da, dc, rfl, ok2, b2⟩; unfold Mn.ms Ms.V Ms.c12; simp only)
  obtain ⟨x3, hx3⟩ : ∃ u, x2.alloc (.cells #[.int .i64 k, .int .u32 bo, .int .i64 fi, .int .u32 su, .int .i64 si, .int .i64 ap, .int .i64 bd, .int .i64 ix, .int .i64 pa, .int .i64 co, .slice ra G.length rc, .slice da D.length dc] 26) = u := ⟨_, rfl⟩
  have bb2 : Below x1.heap.size x1 x3 := by rw [← hx3]; exact b2.trans ((below_allocJ x2 _).mono b2.size)
  have HT2 : Hid (TmI x1.heap.size x3 x2.heap.size (⟨k, bo, fi, su, si, ap, bd, ix, pa, co, G, D⟩ : Mn) ra rc da dc) := by show TmI _ _ _ _ _ _ _ _; rw [← hx3]; exact TmI.new ok2
  have HC3 : Hid (BOk x3 a n c A ∧ BOk x3 a1 n e1 A ∧ Below w.heap.size w x3) := ⟨HC2.out.1.old bb2, HC2.out.2.1.old bb2, HC2.out.2.2.trans (bb2.mono HC2.out.2.2.size)⟩
  have HS3 : Hid (Sl x3 5 (.slice a1 n e1) g1 (vals A)) := HS1.out.same fun q hq => bb2.block q (HU.out q hq).1
  have HL3 : Hid (x1.heap.size ≤ x2.heap.size ∧ x1.heap.size ≤ x3.heap.size) := ⟨b2.size, bb2.size⟩
  try rw [hx3]
  clear hx3 b2 ok2 bb2 HS1 HC2
  go_upto_region 8 with (go_at_call 14; refine Calls.mono (Q2.out x3 a c HC3.out.1) ?_; rintro e x4 ⟨ra', rc', da', dc', rfl, ok4, b4⟩; unfold Mn.ms Ms.V Ms.c12; simp only)
  obtain ⟨x5, hx5⟩ : ∃ u, x4.alloc (.cells #[.int .i64 k, .int .u32 bo, .int .i64 fi, .int .u32 su, .int .i64 si, .int .i64 ap, .int .i64 bd, .int .i64 ix, .int .i64 pa, .int .i64 co, .slice ra' G.length rc', .slice da' D.length dc'] 26) = u := ⟨_, rfl⟩
  have bb4 : Below x3.heap.size x3 x5 := by rw [← hx5]; exact b4.trans ((below_allocJ x4 _).mono b4.size)
  have HT4 : Hid (TmI x3.heap.size x5 x4.heap.size (⟨k, bo, fi, su, si, ap, bd, ix, pa, co, G, D⟩ : Mn) ra' rc' da' dc') := by show TmI _ _ _ _ _ _ _ _; rw [← hx5]; exact TmI.new ok4
  have HT3 : Hid (TmI x1.heap.size x5 x2.heap.size (⟨k, bo, fi, su, si, ap, bd, ix, pa, co, G, D⟩ : Mn) ra rc da dc) := HT2.out.old bb4
  have HC5 : Hid (BOk x5 a n c A ∧ BOk x5 a1 n e1 A ∧ Below w.heap.size w x5) := ⟨HC3.out.1.old bb4, HC3.out.2.1.old bb4, HC3.out.2.2.trans (bb4.mono HC3.out.2.2.size)⟩
  have HS5 : Hid (Sl x5 5 (.slice a1 n e1) g1 (vals A)) := HS3.out.same fun q hq => bb4.block q (Nat.lt_of_lt_of_le (HU.out q hq).1 HL3.out.2)
  have HL5 : Hid (x1.heap.size ≤ x2.heap.size ∧ x1.heap.size ≤ x3.heap.size ∧ x1.heap.size ≤ x4.heap.size) := ⟨HL3.out.1, HL3.out.2, Nat.le_trans HL3.out.2 b4.size⟩
  try rw [hx5]
  clear hx5 b4 ok4 bb4 HS3 HC3 HT2 HL3 Q1 Q2
  have CS : Hid _ := same_any a1 a n e1 c A x5 HC5.out.1.1 HC5.out.2.1.2.2.2.2.2 HC5.out.1.2.2.2.2.2
  have HAl2 : Hid (A.length = n) := HC5.out.1.1
  go_upto_region 10 with (go_at_call 11; refine Calls.mono CS.out ?_; rintro e x ⟨rfl, hx⟩; have hx2 := hx.symm; clear hx; subst hx2)
  have HJ0 : Hid (TmI x1.heap.size x5 x2.heap.size (⟨k, bo, fi, su, si, ap, bd, ix, pa, co, G, D⟩ : Mn) ra rc da dc ∧ TmI x3.heap.size x5 x4.heap.size (⟨k, bo, fi, su, si, ap, bd, ix, pa, co, G, D⟩ : Mn) ra' rc' da' dc' ∧ Below w.heap.size w x5 ∧ Sl x5 5 (.slice a1 n e1) g1 (vals A)) := ⟨HT3.out, HT4.out, HC5.out.2.2, HS5.out⟩
  clear CS HT3 HT4 HC5 HS5
  go_wp2
  go_loopw [33] (fun jv wr => ∃ (j : Nat) (l : List Int), j ≤ n ∧ jv = .int .i64 j ∧ l.length = n ∧ Hid (TmI x1.heap.size wr x2.heap.size (⟨k, bo, fi, su, si, ap, bd, ix, pa, co, G, D⟩ : Mn) ra rc da dc ∧ TmI x3.heap.size wr x4.heap.size (⟨k, bo, fi, su, si, ap, bd, ix, pa, co, G, D⟩ : Mn) ra' rc' da' dc' ∧ Below w.heap.size w wr ∧ Sl wr 5 (.slice a1 n e1) g1 (vals l))) (fun jv _ => n - (intOf jv).toNat)
  case atStart => exact ⟨0, A, Nat.zero_le _, rfl, HAl2.out, HJ0.out⟩
  case round =>
    clear HJ0
    obtain ⟨j, l, hj, rfl, hll, HJ⟩ := hrel
    by_cases hjl : j < n
    · obtain ⟨og, oo, oc, rfl, rfl, hog, cc, fc⟩ := row_cellJ HJ.out.2.2.2 hll j hjl
      have hu := HU.out og hog
      have hl5 := HL5.out
      have HJ2 : Hid (∀ v : Int, TmI x1.heap.size (wr.setCell ⟨og, oo + j, none⟩ (.int .u8 v)) x2.heap.size (⟨k, bo, fi, su, si, ap, bd, ix, pa, co, G, D⟩ : Mn) ra rc da dc ∧ TmI x3.heap.size (wr.setCell ⟨og, oo + j, none⟩ (.int .u8 v)) x4.heap.size (⟨k, bo, fi, su, si, ap, bd, ix, pa, co, G, D⟩ : Mn) ra' rc' da' dc' ∧ Below w.heap.size w (wr.setCell ⟨og, oo + j, none⟩ (.int .u8 v)) ∧ Sl (wr.setCell ⟨og, oo + j, none⟩ (.int .u8 v)) 5 (.slice (some ⟨og, oo, none⟩) n oc) g1 (vals (l.set j v))) := fun v => ⟨HJ.out.1.own (grownBy_set _ _ _ _) (by omega) (by omega), HJ.out.2.1.own (grownBy_set _ _ _ _) (by omega) (by omega), HJ.out.2.2.1.setCell (by show w.heap.size ≤ og; omega) _, by rw [vals_set]; exact HJ.out.2.2.2.setAt j _⟩
      have HLl : Hid (l.length = n) := hll
      clear hu hl5 HJ hll
      go_wp2
      go_roundw
      case rel => exact ⟨j + 1, _, by omega, by go_num, by rw [List.length_set]; exact HLl.out, HJ2.out _⟩
      case measure => simp [intOf]; omega
    · obtain rfl : j = n := by omega
      have C9 : Hid _ := rsame_mn (⟨k, bo, fi, su, si, ap, bd, ix, pa, co, G, D⟩ : Mn) ra rc da dc ra' rc' da' dc' x1.heap.size x3.heap.size wr HJ.out.1.ms HJ.out.2.1.ms HGl.out
      unfold Mn.ms Ms.V Ms.c12 at C9
      simp only at C9
      obtain ⟨p0, p1, p2, p3, p4, p5, p6, p7, p8, p9, p10, p11⟩ := twelve_cells HJ.out.1.tk
      obtain ⟨q0, q1, q2, q3, q4, q5, q6, q7, q8, q9, q10, q11⟩ := twelve_cells HJ.out.2.1.tk
      have HB9 : Hid (Below w.heap.size w wr) := HJ.out.2.2.1
      clear HJ hll HU HL5
      go_wp2_with (go_at_call 12; refine Calls.mono C9.out ?_; rintro e x9 ⟨rfl, b9⟩; have HBa : Hid (Below w.heap.size w x9) := HB9.out.trans (b9.mono HB9.out.size); clear b9)
      go_ret
      exact ⟨by simp, HBa.out⟩
theorem BArg.bok {w : World} {a : Option Addr} {n c : Nat} (h : BArg w a n c) : ∃ A, BOk w a n c A := by
  obtain ⟨A, h1, h2, h3, h4, h5, h6⟩ := h
  exact ⟨A, h2, h1, h3, ⟨by omega, by omega⟩, h5, h6⟩
theorem sreads_walk (a : Option Addr) (n c : Nat) (w : World) (h : BArg w a n c) : Calls Try.prog 4 #[.slice a n c] w fun e w' => e = .returned (.bool true) ∧ Below w.heap.size w w' := by
  obtain ⟨A, hA⟩ := h.bok
  by_cases hn : 3000 < (n : Int)
  · exact sreads_big a n c w hn
  · exact sreads_all a n c A w hA hn
end Go.Proofs.Ytaibojmaghmfnaa
/- What is read is written as it was: the bytes; no program in it. -/
namespace Go.Proofs.Ytaibojmaghmfnaa
open Go.RowKit
theorem octs_lit (l : List Int) (hb : Bytes l) (hl : l.length = 1 ∨ l.length = 2 ∨ l.length = 4) : octs (litN l) l.length = l := by
  rcases hl with h | h | h
  · match l, h with
    | [a], _ =>
      have := hb a (by simp)
      simp [octs, litN, oct, List.range_succ]
      omega
  · match l, h with
    | [a, b], _ =>
      have h1 := hb a (by simp)
      have h2 := hb b (by simp)
      simp [octs, litN, oct, List.range_succ]
      omega
  · match l, h with
    | [a, b, c, d], _ =>
      have h1 := hb a (by simp)
      have h2 := hb b (by simp)
      have h3 := hb c (by simp)
      have h4 := hb d (by simp)
      simp [octs, litN, oct, List.range_succ]
      omega
def seg (B : List Int) (p s : Nat) : List Int := (B.drop p).take s
theorem bg_nu (B : List Int) (hb : Bytes B) (p s : Nat) (hs : s = 1 ∨ s = 2 ∨ s = 4) (h : p + s ≤ B.length) : bg s (nuN B p s) = seg B p s := by
  have hl : (seg B p s).length = s := by unfold seg; rw [List.length_take, List.length_drop]; omega
  have hbs : Bytes (seg B p s) := (hb.drop p).take s
  have h1 := octs_lit (seg B p s).reverse (fun z hz => hbs z (by simpa using hz)) (by rw [List.length_reverse, hl]; exact hs)
  have e : nuN B p s = litN (seg B p s).reverse := by
    have := bigN_reverse (seg B p s).reverse
    rw [List.reverse_reverse] at this
    exact this
  unfold bg
  rw [e]
  rw [List.length_reverse, hl] at h1
  rw [h1, List.reverse_reverse]
theorem seg_add (B : List Int) (p s s' : Nat) : seg B p s ++ seg B (p + s) s' = seg B p (s + s') := by
  unfold seg
  rw [← List.drop_drop, ← List.take_add]
theorem seg_all (B : List Int) (n : Nat) (h : B.length = n) : seg B 0 n = B := by unfold seg; rw [List.drop_zero, List.take_of_length_le (by omega)]
theorem seg_end (B : List Int) (p n : Nat) (h : B.length = p + n) : seg B p n = B.drop p := by unfold seg; rw [List.take_of_length_le (by rw [List.length_drop]; omega)]
theorem rgB_read (B : List Int) (hb : Bytes B) : ∀ j, 5 + 8 * j ≤ B.length → rgB (rdG j (.ok (B.drop 5))).1 = seg B 5 (8 * j) := by
  intro j
  induction j with
  | zero => intro _; simp [rdG, rgB, seg]
  | succ j ih =>
    intro h
    rw [rdG_next B j h]
    have e : ∀ (G : List (Int × Int)) (y z : Int), rgB (G ++ [(y, z)]) = rgB G ++ (bg 4 y ++ bg 4 z) := fun G y z => by simp [rgB]
    rw [e, ih (by omega), bg_nu B hb _ 4 (by omega) (by omega), bg_nu B hb _ 4 (by omega) (by omega), seg_add, seg_add]
    rw [show 8 * j + (4 + 4) = 8 * (j + 1) by omega]
theorem bd_read (K Bo : Int) (B : List Int) (hb : Bytes B) (hK : isKd K = true) (he : enK K B = true) (ra : Option Addr) (rc : Nat) (da : Option Addr) (dc : Nat) : bdM (((tkN K (.ok B)).kb K Bo).ms ra rc da dc) ((tkN K (.ok B)).kb K Bo).G ((tkN K (.ok B)).kb K Bo).D = B := by
  have hk' : 1 ≤ K ∧ K ≤ 5 := of_decide_eq_true hK
  have e : (((tkN K (.ok B)).kb K Bo).ms ra rc da dc).k = K := rfl
  unfold bdM
  rw [e]
  by_cases k1 : K = 1
  · subst k1
    rw [en_ask, decide_eq_true_eq] at he
    rw [if_pos rfl]
    have h1 : tkN 1 (.ok B) = _ := rd_ask B he
    rw [h1]
    show bg 1 (nuN B 0 1) ++ bg 4 (nuN B 1 4) ++ bg 4 (nuN B 5 4) = B
    rw [bg_nu B hb 0 1 (by omega) (by omega), bg_nu B hb 1 4 (by omega) (by omega), bg_nu B hb 5 4 (by omega) (by omega), seg_add B 0 1 4, seg_add B 0 5 4]
    exact seg_all B 9 he
  by_cases k2 : K = 2
  · subst k2
    rw [en_offer, decide_eq_true_eq] at he
    rw [if_neg (by omega), if_pos rfl]
    have h1 : tkN 2 (.ok B) = _ := rd_offer B he
    rw [h1]
    show bg 1 (nuN B 0 1) ++ bg 4 (nuN B 1 4) ++ bg 4 (nuN B 5 4) ++ bg 4 (nuN B 9 4) ++ bg 2 (nuN B 13 2) = B
    rw [bg_nu B hb 0 1 (by omega) (by omega), bg_nu B hb 1 4 (by omega) (by omega), bg_nu B hb 5 4 (by omega) (by omega), bg_nu B hb 9 4 (by omega) (by omega), bg_nu B hb 13 2 (by omega) (by omega), seg_add B 0 1 4, seg_add B 0 5 4, seg_add B 0 9 4, seg_add B 0 13 2]
    exact seg_all B 15 he
  by_cases k3 : K = 3
  · subst k3
    rw [en_data, decide_eq_true_eq] at he
    rw [if_neg (by omega), if_neg (by omega), if_pos rfl]
    have h1 : tkN 3 (.ok B) = _ := rd_data B he
    rw [h1]
    show bg 4 (nuN B 0 4) ++ bg 1 (nuN B 4 1) ++ B.drop 5 = B
    rw [bg_nu B hb 0 4 (by omega) (by omega), bg_nu B hb 4 1 (by omega) (by omega), seg_add B 0 4 1]
    unfold seg
    rw [List.drop_zero, List.take_append_drop]
  by_cases k4 : K = 4
  · subst k4
    rw [en_ack B hb, decide_eq_true_eq] at he
    rw [if_neg (by omega), if_neg (by omega), if_neg (by omega), if_pos rfl]
    have h0 := (nuN_bd hb 4 1 (by omega)).1
    obtain ⟨k, hk⟩ : ∃ k : Nat, nuN B 4 1 = (k : Int) := ⟨(nuN B 4 1).toNat, by omega⟩
    have h1 : tkN 4 (.ok B) = _ := rd_ack B k he.1 hk
    rw [h1]
    show bg 4 (nuN B 0 4) ++ bg 1 ((rdG k (.ok (B.drop 5))).1.length : Int) ++ rgB (rdG k (.ok (B.drop 5))).1 = B
    rw [rdG_len, ← hk, rgB_read B hb k (by omega), bg_nu B hb 0 4 (by omega) (by omega), bg_nu B hb 4 1 (by omega) (by omega), seg_add B 0 4 1, seg_add B 0 5 (8 * k)]
    exact seg_all B _ (by omega)
  · obtain rfl : K = 5 := by omega
    rw [en_no, decide_eq_true_eq] at he
    rw [if_neg (by omega), if_neg (by omega), if_neg (by omega), if_neg (by omega)]
    have h1 : tkN 5 (.ok B) = _ := rd_no B he
    rw [h1]
    show bg 1 (nuN B 0 1) ++ bg 1 (nuN B 1 1) = B
    rw [bg_nu B hb 0 1 (by omega) (by omega), bg_nu B hb 1 1 (by omega) (by omega), seg_add B 0 1 1]
    exact seg_all B 2 he
/-- What is read so is written as it was. -/
theorem tx_read (t : List Int) (hb : Bytes t) (h5 : 5 ≤ t.length) (ho : okT t = true) (ra : Option Addr) (rc : Nat) (da : Option Addr) (dc : Nat) : txM ((mnT t).ms ra rc da dc) (mnT t).G (mnT t).D = t ∧ mayW ((mnT t).ms ra rc da dc) (mnT t).G = true := by
  have hs2 : s2T t = .ok (t.drop 5) := by
    unfold s2T
    rw [(bN_at0 t 1 (by omega)).2, (bN_at t 1 4 (by omega)).2]
  have hkd : kdT t = nuN t 0 1 := (bN_at0 t 1 (by omega)).1
  have hbo : boT t = nuN t 1 4 := by
    unfold boT
    rw [(bN_at0 t 1 (by omega)).2, (bN_at t 1 4 (by omega)).1]
  unfold okT at ho
  simp only [Bool.and_eq_true] at ho
  obtain ⟨⟨⟨o1, o2⟩, o3⟩, o4⟩ := ho
  have hen : enK (kdT t) (t.drop 5) = true := by
    unfold enT at o2 o3
    rw [hs2] at o2 o3
    unfold enK
    rw [o2, o3]
    rfl
  refine ⟨?_, ?_⟩
  · have hbd := bd_read (kdT t) (boT t) (t.drop 5) (hb.drop 5) o1 hen ra rc da dc
    have e : mnT t = (tkN (kdT t) (.ok (t.drop 5))).kb (kdT t) (boT t) := by unfold mnT; rw [hs2]
    rw [e]
    unfold txM
    rw [hbd]
    show bg 1 (kdT t) ++ bg 4 (boT t) ++ t.drop 5 = t
    rw [hkd, hbo, bg_nu t hb 0 1 (by omega) (by omega), bg_nu t hb 1 4 (by omega) (by omega), seg_add t 0 1 4]
    unfold seg
    rw [List.drop_zero, List.take_append_drop]
  · unfold mayW
    rw [Bool.and_eq_true]
    exact ⟨o1, o4⟩
end Go.Proofs.Ytaibojmaghmfnaa
/- SegmentSealed: its walk. -/
namespace Go.Proofs.Ytaibojmaghmfnaa
open Go.RowKit
theorem ssealed_big (a : Option Addr) (n c : Nat) (w : World) (hn : 3000 < (n : Int)) : Calls Try.prog 5 #[.slice a n c] w fun e w' => e = .returned (.bool true) ∧ Below w.heap.size w w' := by
  have HF : Hid _ := fixed_any w
  go_enter Try.func5, Try.ntmps5
  go_wp2_with fail
  refine Calls.mono HF.out ?_
  rintro e w1 ⟨rfl, b1⟩
  go_wp2
  go_ret
  exact ⟨rfl, b1⟩
theorem rdE_ne (b : List Int) : rdE b ≠ 0 := by
  unfold rdE
  split
  · omega
  · split <;> omega
theorem oE_ok {ok : Bool} {b : List Int} (h : oE ok (rdE b) = 0) : ok = true := by
  cases ok
  · exact absurd h (rdE_ne b)
  · rfl
/-- What is read of sealed bytes is written as it was. -/
theorem sealed_back (A : List Int) (hb : Bytes A) (h : oE (rdOk (sealM A)) (rdE (sealM A)) = 0) (ra : Option Addr) (rc : Nat) (da : Option Addr) (dc : Nat) (N : Mn) (hN : oM (rdOk (sealM A)) (mnT (txT (sealM A))) = N) :
    mayW (N.ms ra rc da dc) N.G = true ∧ txM (N.ms ra rc da dc) N.G N.D = A ∧ 0 ≤ N.bo ∧ N.bo < 4294967296 ∧ 0 ≤ N.su ∧ N.su < 4294967296 ∧ (Lit.int .i64 N.k).wf = true := by
  have hok := oE_ok h
  rw [hok] at hN
  have hl : (sealM A).length = A.length + 4 := by unfold sealM; rw [List.length_append, octs_len]
  have e1 := seal_tx A
  rw [e1] at hN
  have hN2 : mnT A = N := hN
  unfold rdOk at hok
  rw [e1, hl] at hok
  simp only [Bool.and_eq_true, decide_eq_true_eq] at hok
  have h5 : 5 ≤ A.length := by omega
  have t := tx_read A hb h5 hok.2 ra rc da dc
  rw [hN2] at t
  have hbo : N.bo = boT A := by rw [← hN2]; rfl
  have hsu : N.su = (tkN (kdT A) (s2T A)).su := by rw [← hN2]; rfl
  have hk : N.k = kdT A := by rw [← hN2]; rfl
  have b2 := bN_byte (st := bS 1 (.ok A)) (bS_bytes (st := .ok A) hb 1) 4
  have b3 := tk_su (kdT A) (st := s2T A) (bS_bytes (bS_bytes (st := .ok A) hb 1) 4)
  have b4 := bN_byte (st := .ok A) hb 1
  simp at b2 b4
  refine ⟨t.2, t.1, by rw [hbo]; exact b2.1, by rw [hbo]; exact b2.2, by rw [hsu]; exact b3.1, by rw [hsu]; exact b3.2, ?_⟩
  rw [hk]
  exact wf64k (by show -9223372036854775808 ≤ bN 1 (.ok A); omega) (by show bN 1 (.ok A) ≤ 9223372036854775807; omega)
set_option maxHeartbeats 32000000 in
theorem ssealed_all (a : Option Addr) (n c : Nat) (A : List Int) (w : World) (h : BOk w a n c A) (hn : ¬ 3000 < (n : Int)) : Calls Try.prog 5 #[.slice a n c] w fun e w' => e = .returned (.bool true) ∧ Below w.heap.size w w' := by
  have HF : Hid _ := fixed_any w
  have HA : Hid (BOk w a n c A) := h
  obtain ⟨Z, hZ⟩ : ∃ Z, sealM A = Z := ⟨_, rfl⟩
  have hZl : Z.length = n + 4 := by rw [← hZ]; unfold sealM; rw [List.length_append, octs_len, h.1]
  have Q0 : Hid (∀ u, BOk u a n c A → Calls Try.prog 15 #[.slice a n c] u fun e w' => BPs u (n + 4) Z e w') := fun u hu => by
    rw [← hZ]
    exact sealed_any a n c A u hu (by omega)
  have hG := nuG_len Z (by omega)
  have Q1 : Hid (∀ u a' c', BOk u a' (n + 4) c' Z → Calls Try.prog 13 #[.slice a' (n + 4) c'] u fun e w' => ∃ ra rc da dc, e = .returned (.tuple #[((oM (rdOk Z) (mnT (txT Z))).ms ra rc da dc).V, .int .i64 (oE (rdOk Z) (rdE Z))]) ∧ MsR u.heap.size w' (oM (rdOk Z) (mnT (txT Z))) ra rc da dc ∧ Below u.heap.size u w') := fun u a' c' hu => (read_any a' (n + 4) c' Z u hu.1 hu.2.2.2.2.1 (by omega) hu.2.2.1 (by unfold maxLen; have := hu.2.2.2.1; omega) hu.2.1 hu.2.2.2.2.2).mono fun e w' q => msp_val q
  have Q2 : Hid (∀ u a' c', BOk u a' (n + 4) c' Z → Calls Try.prog 14 #[.slice a' (n + 4) c'] u fun e w' => ∃ ra rc da dc, e = .returned (.tuple #[((oM (rdOk Z) (mnT (txT Z))).ms ra rc da dc).V, .int .i64 (oE (rdOk Z) (rdE Z))]) ∧ MsR u.heap.size w' (oM (rdOk Z) (mnT (txT Z))) ra rc da dc ∧ Below u.heap.size u w') := fun u a' c' hu => (srd_any a' (n + 4) c' Z u hu.1 (by omega) hu.2.2.1 (by unfold maxLen; have := hu.2.2.2.1; omega) hu.2.1 hu.2.2.2.2.2).mono fun e w' q => msp_val q
  have HBk : Hid (∀ (N : Mn), oM (rdOk Z) (mnT (txT Z)) = N → oE (rdOk Z) (rdE Z) = 0 → ∀ ra rc da dc, mayW (N.ms ra rc da dc) N.G = true ∧ sealM (txM (N.ms ra rc da dc) N.G N.D) = Z ∧ 0 ≤ N.bo ∧ N.bo < 4294967296 ∧ 0 ≤ N.su ∧ N.su < 4294967296 ∧ (Lit.int .i64 N.k).wf = true) := fun N hN hE ra rc da dc => by
    subst hZ
    have := sealed_back A h.2.1 hE ra rc da dc N hN
    exact ⟨this.1, by rw [this.2.1], this.2.2⟩
  obtain ⟨N, hN⟩ : ∃ N, oM (rdOk Z) (mnT (txT Z)) = N := ⟨_, rfl⟩
  obtain ⟨E, hE⟩ : ∃ E, oE (rdOk Z) (rdE Z) = E := ⟨_, rfl⟩
  have HBk2 : Hid (E = 0 → ∀ ra rc da dc, mayW (N.ms ra rc da dc) N.G = true ∧ sealM (txM (N.ms ra rc da dc) N.G N.D) = Z ∧ 0 ≤ N.bo ∧ N.bo < 4294967296 ∧ 0 ≤ N.su ∧ N.su < 4294967296 ∧ (Lit.int .i64 N.k).wf = true) := fun e => HBk.out N hN (hE.trans e)
  rw [hN, hE] at Q1 Q2
  rw [hN] at hG
  clear HBk hN hE hZ
  have HZl : Hid (Z.length = n + 4) := hZl
  obtain ⟨k, bo, fi, su, si, ap, bd, ix, pa, co, G, D⟩ := N
  simp only at hG
  have HGl : Hid (G.length ≤ 1000) := hG
  clear h hG hZl
  go_enter Try.func5, Try.ntmps5
  go_upto_region 5 with (go_at_call 8; refine Calls.mono HF.out ?_; rintro e w1 ⟨rfl, b1⟩; have HB1 : Hid (Below w.heap.size w w1) := b1; clear b1 HF)
  go_upto_region 6 with (go_at_call 15; refine Calls.mono (Q0.out w1 (HA.out.old HB1.out)) ?_; rintro e x1 ⟨a1, e1, g1, rfl, sl1, hl1, hb1, hg1, bb1⟩; have HC2 : Hid (BOk x1 a1 (n + 4) e1 Z ∧ Below w.heap.size w x1) := ⟨Sl.bok sl1 hl1 hb1 (by omega), HB1.out.trans (bb1.mono HB1.out.size)⟩; clear sl1 hl1 hb1 hg1 bb1)
  clear HB1 Q0
  go_upto_region 7 with (go_at_call 13; refine Calls.mono (Q1.out x1 a1 e1 HC2.out.1) ?_; rintro e x2 ⟨ra, rc, da, dc, rfl, ok2, b2⟩; unfold Mn.ms Ms.V Ms.c12; simp only)
  obtain ⟨x3, hx3⟩ : ∃ u, x2.alloc (.cells #[.int .i64 k, .int .u32 bo, .int .i64 fi, .int .u32 su, .int .i64 si, .int .i64 ap, .int .i64 bd, .int .i64 ix, .int .i64 pa, .int .i64 co, .slice ra G.length rc, .slice da D.length dc] 26) = u := ⟨_, rfl⟩
  have bb2 : Below x1.heap.size x1 x3 := by rw [← hx3]; exact b2.trans ((below_allocJ x2 _).mono b2.size)
  have HT2 : Hid (TmI x1.heap.size x3 x2.heap.size (⟨k, bo, fi, su, si, ap, bd, ix, pa, co, G, D⟩ : Mn) ra rc da dc) := by show TmI _ _ _ _ _ _ _ _; rw [← hx3]; exact TmI.new ok2
  have HC3 : Hid (BOk x3 a1 (n + 4) e1 Z ∧ Below w.heap.size w x3) := ⟨HC2.out.1.old bb2, HC2.out.2.trans (bb2.mono HC2.out.2.size)⟩
  try rw [hx3]
  clear hx3 b2 ok2 bb2 HC2
  go_upto_region 8 with (go_at_call 14; refine Calls.mono (Q2.out x3 a1 e1 HC3.out.1) ?_; rintro e x4 ⟨ra', rc', da', dc', rfl, ok4, b4⟩; unfold Mn.ms Ms.V Ms.c12; simp only)
  obtain ⟨x5, hx5⟩ : ∃ u, x4.alloc (.cells #[.int .i64 k, .int .u32 bo, .int .i64 fi, .int .u32 su, .int .i64 si, .int .i64 ap, .int .i64 bd, .int .i64 ix, .int .i64 pa, .int .i64 co, .slice ra' G.length rc', .slice da' D.length dc'] 26) = u := ⟨_, rfl⟩
  have bb4 : Below x3.heap.size x3 x5 := by rw [← hx5]; exact b4.trans ((below_allocJ x4 _).mono b4.size)
  have HT4 : Hid (TmI x3.heap.size x5 x4.heap.size (⟨k, bo, fi, su, si, ap, bd, ix, pa, co, G, D⟩ : Mn) ra' rc' da' dc') := by show TmI _ _ _ _ _ _ _ _; rw [← hx5]; exact TmI.new ok4
  have HT3 : Hid (TmI x1.heap.size x5 x2.heap.size (⟨k, bo, fi, su, si, ap, bd, ix, pa, co, G, D⟩ : Mn) ra rc da dc) := HT2.out.old bb4
  have HC5 : Hid (BOk x5 a1 (n + 4) e1 Z ∧ Below w.heap.size w x5) := ⟨HC3.out.1.old bb4, HC3.out.2.trans (bb4.mono HC3.out.2.size)⟩
  try rw [hx5]
  clear hx5 b4 ok4 bb4 HC3 HT2 Q1 Q2
  have C9 : Hid _ := rsame_mn (⟨k, bo, fi, su, si, ap, bd, ix, pa, co, G, D⟩ : Mn) ra rc da dc ra' rc' da' dc' x1.heap.size x3.heap.size x5 HT3.out.ms HT4.out.ms HGl.out
  unfold Mn.ms Ms.V Ms.c12 at C9
  simp only at C9
  obtain ⟨p0, p1, p2, p3, p4, p5, p6, p7, p8, p9, p10, p11⟩ := twelve_cells HT3.out.tk
  obtain ⟨q0, q1, q2, q3, q4, q5, q6, q7, q8, q9, q10, q11⟩ := twelve_cells HT4.out.tk
  go_upto_region 10 with (go_at_call 12; refine Calls.mono C9.out ?_; rintro e x9 ⟨rfl, b9⟩; have HT9 : Hid (TmI x1.heap.size x9 x2.heap.size (⟨k, bo, fi, su, si, ap, bd, ix, pa, co, G, D⟩ : Mn) ra rc da dc ∧ BOk x9 a1 (n + 4) e1 Z ∧ Below w.heap.size w x9) := ⟨HT3.out.old b9, HC5.out.1.old b9, HC5.out.2.trans (b9.mono HC5.out.2.size)⟩; clear b9)
  clear C9 HT3 HT4 HC5 p0 p1 p2 p3 p4 p5 p6 p7 p8 p9 p10 p11 q0 q1 q2 q3 q4 q5 q6 q7 q8 q9 q10 q11
  by_cases hE0 : E = 0
  · have hbk := HBk2.out hE0 ra rc da dc
    subst hE0
    have hbo : 0 ≤ bo ∧ bo < 4294967296 := ⟨hbk.2.2.1, hbk.2.2.2.1⟩
    have hsu : 0 ≤ su ∧ su < 4294967296 := ⟨hbk.2.2.2.2.1, hbk.2.2.2.2.2.1⟩
    have CW := write_all ((⟨k, bo, fi, su, si, ap, bd, ix, pa, co, G, D⟩ : Mn).ms ra rc da dc) G D x9 hbk.2.2.2.2.2.2 ⟨HT9.out.1.ms.g, rfl, HT9.out.1.ms.d, hbo, hsu, by show G.length ≤ _; have := HGl.out; omega⟩
    have HW : Hid (Calls Try.prog 9 #[.agg #[.int .i64 k, .int .u32 bo, .int .i64 fi, .int .u32 su, .int .i64 si, .int .i64 ap, .int .i64 bd, .int .i64 ix, .int .i64 pa, .int .i64 co, .slice ra G.length rc, .slice da D.length dc]] x9 fun e w' => ∃ cc ccap gg, e = .returned (.tuple #[.slice cc (n + 4) ccap, .int .i64 0]) ∧ Sl w' 5 (.slice cc (n + 4) ccap) gg (vals Z) ∧ Below x9.heap.size x9 w') := CW.mono fun e w' q => by
      obtain ⟨cc, ccap, gg, e1, e2, e3, _, _, e6⟩ := q.2 hbk.1
      rw [hbk.2.1] at e2 e3
      rw [HZl.out] at e3
      rw [← e3] at e1 e2
      exact ⟨cc, ccap, gg, e1, e2, e6⟩
    clear CW hbk hbo hsu HBk2
    obtain ⟨p0, p1, p2, p3, p4, p5, p6, p7, p8, p9, p10, p11⟩ := twelve_cells HT9.out.1.tk
    go_upto_region 13 with (go_at_call 9; refine Calls.mono HW.out ?_; rintro e xa ⟨cc, ccap, gg, rfl, s1, s2⟩; have HX : Hid (Row xa cc Z ∧ BOk xa a1 (n + 4) e1 Z ∧ Below w.heap.size w xa) := ⟨s1.row rfl, HT9.out.2.1.old s2, HT9.out.2.2.trans (s2.mono HT9.out.2.2.size)⟩; clear s1 s2)
    have CS : Hid _ := same_any cc a1 (n + 4) ccap e1 Z xa HZl.out HX.out.1 HX.out.2.1.2.2.2.2.2
    go_wp2_with (go_at_call 11; refine Calls.mono CS.out ?_; rintro e x ⟨rfl, hx⟩; have hx2 := hx.symm; clear hx; subst hx2)
    go_ret
    exact ⟨by simp, HX.out.2.2⟩
  · have hE2 : (E != 0) = true := by simpa using hE0
    go_wp2
    go_ret
    exact ⟨by simp, HT9.out.2.2⟩
theorem ssealed_walk (a : Option Addr) (n c : Nat) (w : World) (h : BArg w a n c) : Calls Try.prog 5 #[.slice a n c] w fun e w' => e = .returned (.bool true) ∧ Below w.heap.size w w' := by
  obtain ⟨A, hA⟩ := h.bok
  by_cases hn : 3000 < (n : Int)
  · exact ssealed_big a n c w hn
  · exact ssealed_all a n c A w hA hn
end Go.Proofs.Ytaibojmaghmfnaa
