/- The reader's loop: what holds between two parts. -/
import Derived.Test.YtpjcdfinlclhoaaGreatDoorCn12
namespace Go.Proofs.YtpjcdfinlclhoaaGreatDoor
open Go.RowKit
structure Lv (w0 : World) (p : Nat) (pre : List Int) (G0 : List Sn) (bs : List Int) (t : Nat) (T : List Pm) (L : List Sn) (now : Nat) (cur : List Int) (bg : Bool) (D D0 : List Int) (vd : Value) (g : Option Nat) (a' : Option Addr) (c' : Nat) (vt : Value) (wr : World) : Prop where
  tle : t ≤ bs.length
  ok : Ok now cur
  pr : Pre (pre ++ bs.take t) L now cur
  mem : CR wr p now cur bg D vd g
  dv : Dv now cur bg D D0
  ga : gath G0 (T.map Pm.q) = some (L ++ gx now cur bg D0)
  rst : Rst w0.heap.size wr p (bs.drop t) a' c'
  fr : Fr w0 wr p none
  gn : ∀ k, g = some k → w0.heap.size ≤ k
  row : PmRow wr w0.heap.size vt T
  tok : PmOk w0.heap.size wr g T
  tl : T.length ≤ t
  nl : D = [] → vd = .slice none 0 0
  pl : p < w0.heap.size
  by' : Bytes bs
  dl : D.length ≤ 1048576
  en : ∀ x ∈ T, x.q.en = true
/-- Where the loop is left. -/
structure Xs (w0 : World) (p : Nat) (pre : List Int) (G0 : List Sn) (bs : List Int) (T : List Pm) (L : List Sn) (now : Nat) (cur : List Int) (bg : Bool) (D D0 : List Int) (vd : Value) (g : Option Nat) (vt : Value) (er : Int) (no se : Int) (X : List Int) (sum : Int) (wr : World) : Prop where
  ok : Ok now cur
  cc : CC wr p no 0 se X (strOfNums (kdV now cur)) (szV now cur : Nat) vd bg false sum
  sl : Sl wr 5 vd g (vals D)
  mem : (er = 0 ∧ CR wr p now cur bg D vd g ∧ no = now ∧ Pre (pre ++ bs) L now cur) ∨ ((er = 3 ∨ er = 4 ∨ er = 9) ∧ ofAll (pre ++ bs) = (L ++ here now cur, er))
  dv : Dv now cur bg D D0
  lo : now < 3 → D = [] ∧ bg = false
  ga : gath G0 (T.map Pm.q) = some (L ++ gx now cur bg D0)
  fr : Fr w0 wr p none
  gn : ∀ k, g = some k → w0.heap.size ≤ k
  row : PmRow wr w0.heap.size vt T
  tok : PmOk w0.heap.size wr g T
  tl : T.length ≤ bs.length
  nl : D = [] → vd = .slice none 0 0
  pl : p < w0.heap.size
  en : ∀ x ∈ T, x.q.en = true
/-- What the loop leaves. -/
def RdPost (w0 : World) (p : Nat) (pre : List Int) (G0 : List Sn) (bs : List Int) (e : Ending) (w' : World) : Prop :=
  ∃ vt T er, e = .returned (.tuple #[vt, .int .i64 er]) ∧ PmRow w' w0.heap.size vt T ∧ PmOk w0.heap.size w' none T ∧ Fr w0 w' p none ∧ T.length ≤ bs.length + 1 ∧ (∀ x ∈ T.dropLast, x.q.en = true) ∧ (∃ no se X kd sz vd bg sum, CC w' p no 0 se X kd sz vd bg false sum) ∧
   ((er = 0 ∧ ∃ L now cur, Ok now cur ∧ Pre (pre ++ bs) L now cur ∧ CR w' p now cur false [] (.slice none 0 0) none ∧ gath G0 (T.map Pm.q) = some (L ++ here now cur)) ∨
    ((er = 3 ∨ er = 4 ∨ er = 9) ∧ ∃ W, ofAll (pre ++ bs) = (W, er) ∧ gath G0 (T.map Pm.q) = some W))
section
variable {w0 : World} {p : Nat} {pre : List Int} {G0 : List Sn} {bs : List Int} {t : Nat} {T : List Pm} {L : List Sn} {now : Nat} {cur : List Int} {bg : Bool} {D D0 : List Int} {vd : Value} {g : Option Nat} {a' : Option Addr} {c' : Nat} {vt : Value} {wr : World}
theorem PmRow.after {w w' : World} {B p : Nat} {v : Value} {T : List Pm} {g : Option Nat} (h : PmRow w B v T) (hf : Fr w w' p g) (hp : p < B) (hg : ∀ k, g = some k → ∃ c, w.heap[k]? = some (.cells c 5 (0, 0))) : PmRow w' B v T := by
  refine h.same fun k hk => ?_
  obtain ⟨h1, h2, c, h3⟩ := h.blk k hk
  refine hf.block k h2 (by omega) fun e => ?_
  obtain ⟨c2, h4⟩ := hg k e.symm
  rw [h3] at h4
  simp at h4
theorem PmOk.after {w w' : World} {B p : Nat} {T : List Pm} {g g' : Option Nat} (h : PmOk B w g T) (hf : Fr w w' p g) (hp : p < B) (hg' : g' = g ∨ ∃ k, g' = some k ∧ w.heap.size ≤ k) : PmOk B w' g' T := by
  refine h.same fun k h1 h2 h3 _ => ⟨hf.block k h2 (by omega) (fun e => h3 e.symm), ?_⟩
  rcases hg' with rfl | ⟨j, rfl, hj⟩
  · exact h3
  · simp; omega
theorem Ok.small {now : Nat} {cur : List Int} {bg : Bool} {D D0 : List Int} (h : Ok now cur) (hd : Dv now cur bg D D0) (h3 : 3 ≤ now) : D.length ≤ 1048576 := by
  have e := congrArg List.length (hd h3).1
  rw [List.length_append] at e
  have : (cD cur).length ≤ cN cur := by unfold cD; rw [List.length_take]; omega
  obtain ⟨_, ⟨h1, _⟩ | ⟨h1, _⟩ | ⟨h1, _⟩ | ⟨_, _, h2, _⟩ | ⟨_, _, _, h2, _⟩⟩ := h <;> omega
theorem Lv.go (h : Lv w0 p pre G0 bs t T L now cur bg D D0 vd g a' c' vt wr) {N : Nat} {w' : World} {a2 : Option Addr} {c2 : Nat} (hf : Fr wr w' p g) (hN : N ≤ (bs.drop t).length) (hr : Rst w0.heap.size w' p ((bs.drop t).drop N) a2 c2) (hgo : Go1 p (pre ++ bs.take t) L now cur bg D0 g (bs.drop t) wr N w') :
    ∃ now' cur' bg' D' D0' vd' g', Lv w0 p pre G0 bs (t + N) T L now' cur' bg' D' D0' vd' g' a2 c2 vt w' ∧ 2 * (bs.length - (t + N)) + tk now' < 2 * (bs.length - t) + tk now := by
  obtain ⟨now', cur', bg', D', D0', vd', g', h1, h2, h3, h4, h5, h6, h7, h8⟩ := hgo
  rw [List.length_drop] at hN h7
  have hgt : ∀ k, g = some k → ∃ c, wr.heap[k]? = some (.cells c 5 (0, 0)) := by
    obtain ⟨X, sum, _, _, _, _, _, _, hs, _⟩ := h.mem
    exact hs.tagB
  refine ⟨now', cur', bg', D', D0', vd', g', ⟨by have := h.tle; omega, h2, ?_, h1, h4, by rw [h5]; exact h.ga, by rw [← List.drop_drop]; exact hr, h.fr.trans hf ?_, ?_, h.row.after hf h.pl hgt, h.tok.after hf h.pl h6, by have := h.tl; omega, h8, h.pl, h.by', ?_, h.en⟩, by omega⟩
  · rw [List.append_assoc] at h3
    rw [show bs.take (t + N) = bs.take t ++ (bs.drop t).take N by rw [List.take_add]]
    exact h3
  · cases hg0 : g with
    | none => exact .inl rfl
    | some k => exact .inr ⟨k, rfl, h.gn k hg0⟩
  · intro k hk
    rcases h6 with e | ⟨j, e, hj⟩
    · exact h.gn k (e ▸ hk)
    · rw [e] at hk; cases hk; have := h.fr.size; omega
  · by_cases h33 : 3 ≤ now'
    · exact h2.small h4 h33
    · obtain ⟨X, sum, _, _, _, _, _, _, _, h9⟩ := h1
      rw [(h9 (by omega)).2.1]; simp
theorem told_row {B : Nat} {w w2 : World} {v : Value} {T : List Pm} {q : Pq} {a : Option Addr} {c : Nat} {arr : Array Value} {g : Option Nat} (h1 : PmRow w B v T) (hok : PmOk B w g T) (hs : Sl w 5 (.slice a q.data.length c) g (vals q.data)) (gn : ∀ k, g = some k → B ≤ k) (hB : B ≤ w.heap.size)
    (hg2 : (w.alloc (.cells arr 68)).grownBy w2 v.ownBlock) : PmOk B w2 none (T ++ [⟨q, a, c⟩]) ∧ Below B w w2 := by
  have hal : ∀ k, k < w.heap.size → (w.alloc (.cells arr 68)).heap[k]? = w.heap[k]? := fun k hk => ((Below.refl w.heap.size w).alloc (Nat.le_refl _) (.cells arr 68)).block k hk
  have hsz : (w.alloc (.cells arr 68)).heap.size = w.heap.size + 1 := by simp
  have key : ∀ k, k < w.heap.size → v.ownBlock ≠ some k → w2.heap[k]? = w.heap[k]? := fun k hk hn => (hg2.block k (by omega) (fun e => hn e.symm)).trans (hal k hk)
  have tag : ∀ k, (∃ c, w.heap[k]? = some (.cells c 5 (0, 0))) → v.ownBlock ≠ some k := by
    rintro k ⟨c, hc⟩ e
    obtain ⟨_, _, c2, hc2⟩ := h1.blk k e
    rw [hc] at hc2
    simp at hc2
  refine ⟨?_, ⟨hg2.os, hg2.tape, hg2.output, by have := hg2.size; omega, fun k hk => key k (by omega) (fun e => by have := (h1.blk k e).1; omega)⟩⟩
  · intro x hx
    rcases List.mem_append.1 hx with hx | hx
    · obtain ⟨k0, h3, h4⟩ := hok x hx
      exact ⟨k0, h3.same fun k hk => key k (h3.lt hk) (tag k (h3.tagB k hk)), fun k hk => ⟨(h4 k hk).1, by simp⟩⟩
    · obtain rfl := List.mem_singleton.1 hx
      exact ⟨g, hs.same fun k hk => key k (hs.lt hk) (tag k (hs.tagB k hk)), fun k hk => ⟨gn k hk, by simp⟩⟩
theorem Fr.below0 {w0 w w2 : World} {p : Nat} (h : Fr w0 w p none) (hb : Below w0.heap.size w w2) : Fr w0 w2 p none :=
  ⟨hb.os.trans h.os, hb.tape.trans h.tape, hb.output.trans h.output, Nat.le_trans h.size hb.size, fun k hk h1 h2 => (hb.block k hk).trans (h.block k hk h1 h2)⟩
theorem Rst.below {B : Nat} {w w2 : World} {p : Nat} {bs : List Int} {a : Option Addr} {c : Nat} (h : Rst B w p bs a c) (hb : Below B w w2) : Rst B w2 p bs a c := by
  obtain ⟨h1, h2, h3, h4, h5⟩ := h
  exact ⟨h1, h2, h3, h4.same fun x hx hz => hb.block _ (h5 x hx hz).2, h5⟩
theorem gx_told (L : List Sn) (now : Nat) (cur : List Int) (bg : Bool) (D D0 : List Int) (hd : Dv now cur bg D D0) (h3 : 3 ≤ now) (e : Bool) (he : e = true ∨ bg = true ∨ D ≠ []) : gath1 (L ++ gx now cur bg D0) ⟨cK cur, cN cur, D, bg, e⟩ = some (L ++ [⟨cK cur, cN cur, cD cur, e⟩]) := by
  obtain ⟨h1, h2⟩ := hd h3
  rw [h1]
  cases bg with
  | true =>
    rw [h2 rfl]
    simp only [gx, List.nil_append]
    simp only [Bool.true_eq_false, and_false, if_false, List.append_nil]
    exact gath1_new _ _ _ _ _
  | false =>
    simp only [gx, h3, and_self, if_true]
    refine gath1_old _ _ _ _ _ _ ?_
    rcases he with h | h | h
    · exact .inl h
    · cases h
    · exact .inr h
theorem gx_quiet (now : Nat) (cur : List Int) (D0 : List Int) (hd : Dv now cur false [] D0) : gx now cur false D0 = here now cur := by
  unfold gx here
  by_cases h3 : 3 ≤ now
  · rw [if_pos ⟨h3, rfl⟩, if_pos h3, (hd h3).1, List.append_nil]
  · rw [if_neg (fun h => h3 h.1), if_neg h3]
/-- A chunk ends, and is told. -/
theorem Lv.ended (h : Lv w0 p pre G0 bs t T L now cur bg D D0 vd g a' c' vt wr) {N : Nat} {w' w2 w3 : World} {a2 a : Option Addr} {c2 c : Nat} {v2 : Value} {arr : Array Value} {X : List Int} {sum : Int} (hf : Fr wr w' p g) (hN : N ≤ (bs.drop t).length) (hr : Rst w0.heap.size w' p ((bs.drop t).drop N) a2 c2) (hen : En1 p (pre ++ bs.take t) L now cur bg D vd g (bs.drop t) N w')
    (hvd : vd = .slice a D.length c) (hp2 : PmRow w2 w0.heap.size v2 (T ++ [⟨⟨cK cur, cN cur, D, bg, true⟩, a, c⟩])) (hg2 : (w'.alloc (.cells arr 68)).grownBy w2 vt.ownBlock) (hX : X.length = 4) (hXb : Bytes X) (h3 : CC w3 p 1 0 0 X (strOfNums []) 0 (.slice none 0 0) false false sum) (f3 : Fr w2 w3 p none) :
    ∃ T L, Lv w0 p pre G0 bs (t + N) T L 1 [] false [] [] (.slice none 0 0) none a2 c2 v2 w3 ∧ 2 * (bs.length - (t + N)) + tk 1 < 2 * (bs.length - t) + tk now := by
  obtain ⟨rfl, hN0, _, hsl, hpre⟩ := hen
  rw [List.length_drop] at hN
  have hgt : ∀ k, g = some k → ∃ c, wr.heap[k]? = some (.cells c 5 (0, 0)) := by
    obtain ⟨X, sum, _, _, _, _, _, _, hs, _⟩ := h.mem
    exact hs.tagB
  have hfw : Fr w0 w' p none := h.fr.trans hf (by
    cases hg0 : g with
    | none => exact .inl rfl
    | some k => exact .inr ⟨k, rfl, h.gn k hg0⟩)
  have hrow' := h.row.after hf h.pl hgt
  have hok' := h.tok.after hf h.pl (.inl rfl)
  subst hvd
  obtain ⟨k1, k2⟩ := told_row (q := ⟨cK cur, cN cur, D, bg, true⟩) hrow' hok' hsl h.gn (by have := h.fr.size; have := hf.size; omega) hg2
  refine ⟨_, L ++ [⟨cK cur, cN cur, cD cur, true⟩], ⟨by have := h.tle; omega, ⟨Bytes.nil, .inr (.inl ⟨rfl, by simp⟩)⟩, ?_, ⟨X, sum, hX, hXb, h3, fun _ => by simp [seV, wdV], (by intro hh; cases hh), (by intro hh; cases hh), Sl.nil _ _, fun _ => ⟨rfl, rfl, rfl⟩⟩, (by intro hh; omega), ?_, by rw [← List.drop_drop]; exact (hr.below k2).frame f3 (by intro k hk; cases hk), (hfw.below0 k2).trans f3 (.inl rfl), (by intro k hk; cases hk), hp2.after f3 h.pl (by intro k hk; cases hk), k1.after f3 h.pl (.inl rfl), ?_, fun _ => rfl, h.pl, h.by', by simp, ?_⟩, by simp only [tk]; simp; omega⟩
  · rw [List.append_assoc] at hpre
    rw [show bs.take (t + N) = bs.take t ++ (bs.drop t).take N by rw [List.take_add]]
    exact hpre
  · rw [List.map_append]
    simp only [List.map_cons, List.map_nil]
    rw [gath_snoc _ _ _ _ h.ga, gx_told L 4 cur bg D D0 h.dv (by omega) true (.inl rfl)]
    simp [gx]
  · rw [List.length_append]; have := h.tl; simp; omega
  · intro x hx
    rcases List.mem_append.1 hx with hx | hx
    · exact h.en x hx
    · obtain rfl := List.mem_singleton.1 hx
      rfl
theorem Lv.out (h : Lv w0 p pre G0 bs t T L now cur bg D D0 vd g a' c' vt wr) (ht : bs.length - t = 0) : ∃ se X sum, Xs w0 p pre G0 bs T L now cur bg D D0 vd g vt 0 now se X sum wr := by
  obtain ⟨X, sum, h1, h2, h3, h4, h5, h6, h7, h8⟩ := id h.mem
  refine ⟨_, X, sum, h.ok, h3, h7, .inl ⟨rfl, h.mem, rfl, ?_⟩, h.dv, fun hh => (h8 hh).2, h.ga, h.fr, h.gn, h.row, h.tok, by have := h.tl; have := h.tle; omega, h.nl, h.pl, h.en⟩
  have := h.pr
  rw [List.take_of_length_le (by omega)] at this
  exact this
theorem Lv.bad (h : Lv w0 p pre G0 bs t T L now cur bg D D0 vd g a' c' vt wr) {w' : World} {er : Int} (hf : Fr wr w' p g) (he : Er1 p (pre ++ bs.take t) L now cur bg D vd g (bs.drop t) er w') : ∃ no se X sum, Xs w0 p pre G0 bs T L now cur bg D D0 vd g vt er no se X sum w' := by
  obtain ⟨e1, e2, ⟨no, se, X, sum, e3⟩, e4⟩ := he
  have hgt : ∀ k, g = some k → ∃ c, wr.heap[k]? = some (.cells c 5 (0, 0)) := by
    obtain ⟨X, sum, _, _, _, _, _, _, hs, _⟩ := h.mem
    exact hs.tagB
  have hfw : Fr w0 w' p none := h.fr.trans hf (by
    cases hg0 : g with
    | none => exact .inl rfl
    | some k => exact .inr ⟨k, rfl, h.gn k hg0⟩)
  have hlo : now < 3 → D = [] ∧ bg = false := by
    obtain ⟨X, sum, _, _, _, _, _, _, _, h8⟩ := h.mem
    exact fun hh => (h8 hh).2
  rw [List.append_assoc, List.take_append_drop] at e1
  exact ⟨no, se, X, sum, h.ok, e3, e4, .inr ⟨e2, e1⟩, h.dv, hlo, h.ga, hfw, h.gn, h.row.after hf h.pl hgt, h.tok.after hf h.pl (.inl rfl), by have := h.tl; have := h.tle; omega, h.nl, h.pl, h.en⟩
variable {er no se sum : Int} {X : List Int}
/-- Nothing is left to tell. -/
theorem Xs.quiet (h : Xs w0 p pre G0 bs T L now cur bg D D0 vd g vt er no se X sum wr) (hb : bg = false) (hD : D = []) : RdPost w0 p pre G0 bs (.returned (.tuple #[vt, .int .i64 er])) wr := by
  subst hb hD
  have hga := h.ga
  rw [gx_quiet now cur D0 h.dv] at hga
  have hvd := h.nl rfl
  have hg0 : g = none := by
    rcases h.sl with ⟨_, h1, _⟩ | ⟨b, off, cap, cur, h1, _⟩
    · exact h1
    · rw [hvd] at h1; cases h1
  refine ⟨vt, T, er, rfl, h.row, hg0 ▸ h.tok, h.fr, by have := h.tl; omega, fun x hx => h.en x (List.dropLast_subset T hx), ⟨_, _, _, _, _, _, _, _, h.cc⟩, ?_⟩
  rcases h.mem with ⟨rfl, h1, _, h2⟩ | ⟨h1, h2⟩
  · subst hvd hg0
    exact .inl ⟨rfl, L, now, cur, h.ok, h2, h1, hga⟩
  · exact .inr ⟨h1, _, h2, hga⟩
/-- The last piece is told. -/
theorem Xs.told (h : Xs w0 p pre G0 bs T L now cur bg D D0 vd g vt er no se X sum wr) (hb : bg = true ∨ D ≠ []) {w2 w3 : World} {a : Option Addr} {c : Nat} {v2 : Value} {arr : Array Value}
    (hvd : vd = .slice a D.length c) (hp2 : PmRow w2 w0.heap.size v2 (T ++ [⟨⟨cK cur, cN cur, D, bg, false⟩, a, c⟩])) (hg2 : (wr.alloc (.cells arr 68)).grownBy w2 vt.ownBlock) (h3 : CC w3 p no 0 se X (strOfNums (kdV now cur)) (szV now cur : Nat) (.slice none 0 0) false false sum) (f3 : Fr w2 w3 p none) :
    RdPost w0 p pre G0 bs (.returned (.tuple #[v2, .int .i64 er])) w3 := by
  have hn3 : 3 ≤ now := by
    by_cases hh : 3 ≤ now
    · exact hh
    · obtain ⟨h1, h2⟩ := h.lo (by omega)
      rcases hb with h | h
      · rw [h2] at h; cases h
      · exact absurd h1 h
  subst hvd
  obtain ⟨k1, k2⟩ := told_row (q := ⟨cK cur, cN cur, D, bg, false⟩) h.row h.tok h.sl h.gn (by have := h.fr.size; omega) hg2
  have hga : gath G0 ((T ++ [(⟨⟨cK cur, cN cur, D, bg, false⟩, a, c⟩ : Pm)]).map Pm.q) = some (L ++ here now cur) := by
    rw [List.map_append]
    simp only [List.map_cons, List.map_nil]
    rw [gath_snoc _ _ _ _ h.ga, gx_told L now cur bg D D0 h.dv hn3 false (.inr hb)]
    simp only [here, hn3, if_true]
  refine ⟨v2, _, er, rfl, hp2.after f3 h.pl (by intro k hk; cases hk), k1.after f3 h.pl (.inl rfl), (h.fr.below0 k2).trans f3 (.inl rfl), by rw [List.length_append]; have := h.tl; simp; omega, by rw [List.dropLast_concat]; exact h.en, ⟨_, _, _, _, _, _, _, _, h3⟩, ?_⟩
  rcases h.mem with ⟨rfl, h1, hno, h2⟩ | ⟨h1, h2⟩
  · refine .inl ⟨rfl, L, now, cur, h.ok, h2, ?_, hga⟩
    obtain ⟨X', sum', g1, g2, g3, g4, g5, g6, g7, g8⟩ := h1
    have e := h.cc
    unfold CC at e g3 h3
    rw [e] at g3
    simp only [Option.some.injEq, Obj.cells.injEq] at g3
    refine ⟨X', sum', g1, g2, ?_, g4, g5, g6, Sl.nil _ _, (by intro hh; omega)⟩
    unfold CC
    rw [h3]
    have q := g3.1
    simp at q
    obtain ⟨q0, q2, q3, q4, q5, q6, q12⟩ := q
    rw [q0, q2, q3, q4, q5, q6, q12]
  · exact .inr ⟨h1, _, h2, hga⟩
theorem piece_new (w : World) (n : Pm) (arr : Array Value) (harr : arr = n.enc.toArray) : ∀ j u, n.enc[j]? = some u → (w.alloc (.cells arr 68)).cell? ((⟨w.heap.size, 0, none⟩ : Addr).add j) = some u := by
  intro j u hj
  subst harr
  rw [Addr.add_lit, World.cell?_alloc_mark, Nat.zero_add]
  simpa using hj
/-- What the piece that is told last is, in memory. -/
theorem Xs.cell (h : Xs w0 p pre G0 bs T L now cur bg D D0 vd g vt er no se X sum wr) {w2 : World} {v2 : Value} {arr : Array Value} {T2 : List Pm} (_hp2 : PmRow w2 w0.heap.size v2 T2) (hg2 : (wr.alloc (.cells arr 68)).grownBy w2 vt.ownBlock) : CC w2 p no 0 se X (strOfNums (kdV now cur)) (szV now cur : Nat) vd bg false sum := by
  obtain ⟨a, c, hv, _⟩ := h.sl.shape
  rw [vals_len] at hv
  subst hv
  have := (told_row (q := ⟨cK cur, cN cur, D, bg, false⟩) h.row h.tok h.sl h.gn (by have := h.fr.size; omega) hg2).2
  exact h.cc.same (this.block p h.pl)
theorem CC.reset {w : World} {p : Nat} {now er seen sz sum : Int} {X : List Int} {kd : ByteArray} {vd : Value} {bg en : Bool} (h : CC w p now er seen X kd sz vd bg en sum) (kd' : ByteArray) (sz' : Int) :
    CC (((((w.setCell ⟨p, 7, none⟩ (.string kd')).setCell ⟨p, 8, none⟩ (.int .i64 sz')).setCell ⟨p, 9, none⟩ (.slice none 0 0)).setCell ⟨p, 10, none⟩ (.bool false)).setCell ⟨p, 11, none⟩ (.bool false)) p now er seen X kd' sz' (.slice none 0 0) false false sum ∧
    Fr w (((((w.setCell ⟨p, 7, none⟩ (.string kd')).setCell ⟨p, 8, none⟩ (.int .i64 sz')).setCell ⟨p, 9, none⟩ (.slice none 0 0)).setCell ⟨p, 10, none⟩ (.bool false)).setCell ⟨p, 11, none⟩ (.bool false)) p none :=
  ⟨((((h.set7 kd').set8 sz').set9 _).set10 _).set11 _, (((((Fr.refl _ _ _).snoc _ _).snoc _ _).snoc _ _).snoc _ _).snoc _ _⟩
theorem Fr.drew {w w' : World} {p : Nat} {g : Option Nat} (h : Fr w w' p g) : Fr w w'.drew p g := ⟨h.os, h.tape, h.output, h.size, h.block⟩
end
end Go.Proofs.YtpjcdfinlclhoaaGreatDoor
