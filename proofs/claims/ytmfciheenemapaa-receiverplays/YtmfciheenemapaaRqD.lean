/- The receiver: a copy of bytes; what a round of release leaves. -/
import Derived.Test.YtmfciheenemapaaRqC
namespace Go.Proofs.Ytmfciheenemapaa
open Go.RowKit
theorem Try.infoBs : (Try.prog.info? 32).map (fun i => (i.zero, i.size, i.bytes)) = some (some (.slice none 0 0), 1, 24) := by kernel_rfl
theorem slB_not_nil (a : Addr) (n c : Nat) (w : World) : (binOp .eql 32 (.slice (some a) n c) (.slice none 0 0)).run Try.prog w = .ok (.bool false) w := by
  unfold binOp Op.equal
  obtain ⟨m, hm⟩ : ∃ m, Op.maxDepth = m + 1 := ⟨9999, rfl⟩
  rw [hm]
  unfold Op.equalIn
  go_simp
theorem slB_nil (n c : Nat) (w : World) : (binOp .eql 32 (.slice none n c) (.slice none 0 0)).run Try.prog w = .ok (.bool true) w := by
  unfold binOp Op.equal
  obtain ⟨m, hm⟩ : ∃ m, Op.maxDepth = m + 1 := ⟨9999, rfl⟩
  rw [hm]
  unfold Op.equalIn
  go_simp
/-- A copy of bytes. -/
def ClB (w : World) (zs : List Int) (e : Ending) (w' : World) : Prop := ∃ q : Pt, e = .returned (ptV q) ∧ q.z = zs ∧ PtOk w' q ∧ Below w.heap.size w w' ∧ ∀ x, q.a = some x → w.heap.size ≤ x.block
theorem Sl.ptok {w : World} {a : Option Addr} {n c : Nat} {g : Option Nat} {l : List Int} (h : Sl w 5 (.slice a n c) g (vals l)) (hl : l.length = n) (hb : Bytes l) (hn : n ≤ 140737488351232) : PtOk w ⟨a, c, l⟩ := by
  obtain ⟨a', c', hv, h1, h2, h3⟩ := h.shape
  simp only [Value.slice.injEq] at hv
  obtain ⟨rfl, h4, rfl⟩ := hv
  rw [vals_len] at h1
  unfold maxLen at h2
  exact ⟨hb, h1, ⟨by simp only; omega, by simp only; omega⟩, h3, h.row rfl⟩
set_option maxHeartbeats 1600000 in
theorem rclone_any {w : World} {a : Option Addr} {n c : Nat} {zs : List Int} (hn : zs.length = n) (hnil : a = none → c = 0) (hl : n ≤ 1000000) (hb : Bytes zs) (hr : Row w a zs) : Calls Try.prog 23 #[.slice a n c] w fun e w' => ClB w zs e w' := by
  cases a with
  | none =>
    have hz : zs = [] := by
      rcases hr with h | ⟨b, off, h, _⟩
      · exact h
      · cases h
    subst hz
    simp at hn
    subst hn
    have hc0 := hnil rfl
    subst hc0
    have NN := slB_nil 0 0
    have HE : Hid (ClB w [] (.returned (.slice none 0 0)) w) := ⟨⟨none, 0, []⟩, rfl, rfl, ⟨Bytes.nil, Nat.le_refl _, by simp, fun _ => rfl, .inl rfl⟩, Below.refl _ _, fun x h => by cases h⟩
    go_enter Try.func23, Try.ntmps23
    go_wp2
    go_ret
    exact HE.out
  | some x =>
    have NN := slB_not_nil x n c
    have HR : Hid (zs.length = n ∧ Row w (some x) zs ∧ Bytes zs) := ⟨hn, hr, hb⟩
    clear hr hb hn hnil
    go_enter Try.func23, Try.ntmps23
    go_wp2_with (at_builtin; go_must (refine wpList_copy rfl _ _ rfl (some x) n c zs rfl rfl (fun h => by cases h) HR.out.1 HR.out.2.1 (by omega) ?_))
    intro a' c' w' g' h1 h2 h3
    have HE : Hid (ClB w zs (.returned (.slice a' n c')) w') := by
      refine ⟨⟨a', c', zs⟩, by unfold ptV; rw [HR.out.1], rfl, h1.ptok HR.out.1 HR.out.2.2 (by omega), h3, fun y hy => ?_⟩
      have hy : a' = some y := hy
      subst hy
      rcases h1 with ⟨e, _, _⟩ | ⟨b, off, cap, cur, e, eg, _⟩
      · cases e
      · simp only [Value.slice.injEq, Option.some.injEq] at e
        rw [e.1]
        exact h2 b eg
    clear h1 h2 h3
    go_wp2
    go_ret
    exact HE.out
/-- What a call on the receiver changes: its own two blocks. -/
structure F2 (b m : Nat) (w w' : World) : Prop where
  os : w'.os = w.os
  tape : w'.tape = w.tape
  output : w'.output = w.output
  size : w.heap.size ≤ w'.heap.size
  block : ∀ j, j < w.heap.size → j ≠ b → j ≠ m → w'.heap[j]? = w.heap[j]?
theorem F2.refl (b m : Nat) (w : World) : F2 b m w w := ⟨rfl, rfl, rfl, Nat.le_refl _, fun _ _ _ _ => rfl⟩
theorem F2.trans {b m : Nat} {a c d : World} (h : F2 b m a c) (g : F2 b m c d) : F2 b m a d :=
  ⟨g.os.trans h.os, g.tape.trans h.tape, g.output.trans h.output, Nat.le_trans h.size g.size, fun j hj h1 h2 => (g.block j (Nat.lt_of_lt_of_le hj h.size) h1 h2).trans (h.block j hj h1 h2)⟩
theorem F2.of_below {b m : Nat} {w w' : World} (h : Below w.heap.size w w') : F2 b m w w' := ⟨h.os, h.tape, h.output, h.size, fun j hj _ _ => h.block j hj⟩
theorem F2.set {b m : Nat} (w : World) (i : Nat) (v : Value) : F2 b m w (w.setCell ⟨b, i, none⟩ v) :=
  ⟨rfl, rfl, rfl, by simp [World.setCell], fun j _ h1 _ => Below.heap_setCell w _ v j (fun e => h1 e)⟩
theorem F2.map {b m : Nat} {w w' : World} (h : w.grownBy w' (some m)) : F2 b m w w' := ⟨h.os, h.tape, h.output, h.size, fun j hj _ h2 => h.block j hj (by simpa using h2)⟩
/-- Growth of a row that is new since w0. -/
theorem F2.row {b m : Nat} {w0 w w' : World} {g : Option Nat} (h : F2 b m w0 w) (hg : w.grownBy w' g) (hn : ∀ k, g = some k → w0.heap.size ≤ k) : F2 b m w0 w' :=
  ⟨hg.os.trans h.os, hg.tape.trans h.tape, hg.output.trans h.output, Nat.le_trans h.size hg.size, fun j hj h1 h2 => (hg.block j (Nat.lt_of_lt_of_le hj h.size) (fun e => by have := hn j e.symm; omega)).trans (h.block j hj h1 h2)⟩
theorem F2.below {b m B : Nat} {a w w' : World} (h : Below B a w) (g : F2 b m w w') (hb : B ≤ b) (hm : B ≤ m) (ha : B ≤ w.heap.size) : Below B a w' :=
  ⟨g.os.trans h.os, g.tape.trans h.tape, g.output.trans h.output, Nat.le_trans h.size g.size, fun j hj => (g.block j (by omega) (by omega) (by omega)).trans (h.block j hj)⟩
/-- Bytes in memory lie in no block of the receiver. -/
theorem Rc.apart {w : World} {b m : Nat} {n W nx : Int} {H : List (Int × Pt)} (h : Rc w b m n W nx H) {a : Option Addr} {zs : List Int} (hr : Row w a zs) (hz : zs ≠ []) : ∀ x, a = some x → x.block ≠ b ∧ x.block ≠ m := by
  intro x hx
  subst hx
  rcases hr with e | ⟨b', off, e, hc⟩
  · exact absurd e hz
  · simp only [Option.some.injEq] at e
    subst e
    have h0 := hc 0 (by cases zs with | nil => exact absurd rfl hz | cons _ _ => simp)
    obtain ⟨es, cl, hm⟩ := h.m.tag
    constructor
    · rintro rfl
      have hcell := h.c
      simp only [World.cell?, hcell] at h0
      revert h0
      match off + 0 with
      | 0 => simp
      | 1 => simp
      | 2 => simp
      | 3 => simp
      | k + 4 => simp
    · rintro rfl
      simp [World.cell?, hm] at h0
theorem F2.row_keep {b m : Nat} {w w' : World} (f : F2 b m w w') {n W nx : Int} {H : List (Int × Pt)} (h : Rc w b m n W nx H) {a : Option Addr} {zs : List Int} (hr : Row w a zs) : Row w' a zs :=
  hr.same fun x hx hz => by
    obtain ⟨h1, h2⟩ := h.apart hr hz x hx
    exact f.block x.block (hr.lt x hx hz) h1 h2
theorem F2.pt {b m : Nat} {w w' : World} (f : F2 b m w w') {n W nx : Int} {H : List (Int × Pt)} (h : Rc w b m n W nx H) {q : Pt} (hq : PtOk w q) : PtOk w' q := ⟨hq.1, hq.2.1, hq.2.2.1, hq.2.2.2.1, f.row_keep h hq.2.2.2.2⟩
/-- What is let go from nx on: the parts; the first that hasn't come; what is left. -/
def relN : Int → List (Int × Pt) → List Pt × Int × List (Int × Pt)
  | nx, [] => ([], nx, [])
  | nx, (k, q) :: r => if k = nx then (q :: (relN (nx + 1) r).1, (relN (nx + 1) r).2) else ([], nx, (k, q) :: r)
def pvl (P : List Pt) : List Value := P.map ptV
structure RlI (w1 : World) (b m : Nat) (n W nx : Int) (H : List (Int × Pt)) (j : Nat) (P : List Pt) (v : Value) (g : Option Nat) (wr : World) : Prop where
  r0 : Rc w1 b m n W nx H
  jl : j ≤ H.length
  rc : Rc wr b m n W (nx + j) (H.drop j)
  pl : P.length = j
  sl : Sl wr 32 v g (pvl P)
  gf : ∀ k, g = some k → w1.heap.size ≤ k
  fr : F2 b m w1 wr
  eq : relN nx H = (P ++ (relN (nx + j) (H.drop j)).1, (relN (nx + j) (H.drop j)).2)
theorem rc_set2 {w : World} {b : Nat} {v0 v1 v2 v3 u : Value} {t : TypeId} (h : w.heap[b]? = some (.cells #[v0, v1, v2, v3] t (0, 0))) : (w.setCell ⟨b, 2, none⟩ u).heap[b]? = some (.cells #[v0, v1, u, v3] t (0, 0)) := by
  simp [World.setCell, Array.getElem?_modify, h]
theorem Sl.tagR {w : World} {e : TypeId} {v : Value} {g : Option Nat} {xs : List Value} (h : Sl w e v g xs) {k : Nat} (hk : g = some k) : ∃ c, w.heap[k]? = some (.cells c e (0, 0)) := by
  rcases h with ⟨_, h, _⟩ | ⟨b, off, cp, cur, _, h, hb, _⟩
  · rw [h] at hk; cases hk
  · rw [h] at hk; cases hk; exact ⟨cur, hb⟩
theorem RlI.step {w1 : World} {b m : Nat} {n W nx : Int} {H : List (Int × Pt)} {j : Nat} {P : List Pt} {v v' : Value} {g g' : Option Nat} {wr w3 w4 : World} {q : Pt} (h : RlI w1 b m n W nx H j P v g wr) (hj : j < H.length) (hd : H.drop j = (nx + j, q) :: H.drop (j + 1)) (hb : b < w1.heap.size) (hm : m < w1.heap.size)
    (hs : Sl w3 32 v' g' (pvl P ++ [ptV q])) (hg : g' = g ∨ ∃ k, g' = some k ∧ wr.heap.size ≤ k) (hgr : wr.grownBy w3 g) (hm4 : HM w4 m (H.drop (j + 1))) (ht : w3.grownBy w4 (some m)) :
    RlI w1 b m n W nx H (j + 1) (P ++ [q]) v' g' (w4.setCell ⟨b, 2, none⟩ (.int .i64 (nx + (j + 1 : Nat)))) := by
  have hrc := h.rc
  have hup := hrc.up
  rw [hd] at hup
  obtain ⟨es, cl, hmt⟩ := hrc.m.tag
  have hbm : b ≠ m := by rintro rfl; rw [hrc.c] at hmt; cases hmt
  have hg1 : ∀ k, g' = some k → w1.heap.size ≤ k := by
    rcases hg with e | ⟨k', e, hk'⟩
    · rw [e]; exact h.gf
    · intro k hk
      rw [e] at hk
      cases hk
      exact Nat.le_trans h.fr.size hk'
  have f3 : F2 b m w1 w3 := h.fr.row hgr h.gf
  have f4 : F2 b m w1 w4 := f3.trans (F2.map ht)
  have f5 : F2 b m w1 (w4.setCell ⟨b, 2, none⟩ (.int .i64 (nx + (j + 1 : Nat)))) := f4.trans (F2.set w4 2 _)
  have hbw : b < wr.heap.size := Nat.lt_of_lt_of_le hb h.fr.size
  have hmw : m < wr.heap.size := Nat.lt_of_lt_of_le hm h.fr.size
  have cb : w4.heap[b]? = wr.heap[b]? := (ht.block b (Nat.lt_of_lt_of_le hbw hgr.size) (by simpa using hbm)).trans (hgr.block b hbw (fun e => by have := h.gf b e.symm; omega))
  have hc5 : (w4.setCell ⟨b, 2, none⟩ (.int .i64 (nx + (j + 1 : Nat)))).heap[b]? = some (.cells #[.int .i64 n, .int .i64 W, .int .i64 (nx + (j + 1 : Nat)), .map (some m)] 51 (0, 0)) := by
    exact rc_set2 (cb.trans hrc.c)
  have hcm : (w4.setCell ⟨b, 2, none⟩ (.int .i64 (nx + (j + 1 : Nat)))).heap[m]? = w4.heap[m]? := Below.heap_setCell w4 _ _ m (fun e => hbm e.symm)
  have e1 : nx + (j : Int) + 1 = nx + (j + 1 : Nat) := by omega
  obtain ⟨n0, n1, n2, n3, n4, n5⟩ := hrc.nb
  have ht1 := (hrc.top (nx + j, q) (by rw [hd]; simp)).2
  simp only at ht1
  refine ⟨h.r0, hj, ⟨hc5, hm4.same hcm, ?_, fun p hp => ?_, fun p hp => f5.pt h.r0 (h.r0.ok p (List.mem_of_mem_drop hp)), ⟨n0, n1, n2, n3, by omega, by omega⟩⟩, by rw [List.length_append, h.pl]; rfl, ?_, hg1, f5, ?_⟩
  · rw [← e1]; exact hup.2
  · have := hrc.top p (by rw [hd]; exact List.mem_cons_of_mem _ hp)
    omega
  · unfold pvl at hs ⊢
    rw [List.map_append]
    refine hs.same fun k hk => ?_
    have := hg1 k hk
    exact (Below.heap_setCell w4 _ _ k (fun e => by simp only at e; omega)).trans (ht.block k (hs.lt hk) (by simp; omega))
  · rw [h.eq, hd]
    have : relN (nx + j) ((nx + j, q) :: H.drop (j + 1)) = (q :: (relN (nx + j + 1) (H.drop (j + 1))).1, (relN (nx + j + 1) (H.drop (j + 1))).2) := by
      show (if nx + (j : Int) = nx + j then _ else _) = _
      rw [if_pos rfl]
    rw [this, e1]
    simp
end Go.Proofs.Ytmfciheenemapaa
