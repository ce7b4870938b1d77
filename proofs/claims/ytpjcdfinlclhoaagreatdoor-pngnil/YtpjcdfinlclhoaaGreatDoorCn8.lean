/- What a row of chunks says, as the document reads it; a reader's state between two bytes. -/
import Derived.Test.YtpjcdfinlclhoaaGreatDoorCn7
namespace Go.Proofs.YtpjcdfinlclhoaaGreatDoor
open Go.RowKit
structure Sn where
  kind : List Int
  size : Nat
  data : List Int
  fin : Bool
def cN (c : List Int) : Nat := (bigN (c.take 4)).toNat
def cK (c : List Int) : List Int := (c.drop 4).take 4
def cD (c : List Int) : List Int := (c.drop 8).take (cN c)
/-- The sum that stands behind, and the sum that it should be. -/
def cS (c : List Int) : Int := bigN ((c.drop (8 + cN c)).take 4)
def cW (c : List Int) : BitVec 32 := crcM (BitVec.ofNat 32 0) ((c.drop 4).take (4 + cN c))
theorem cN_append {c : List Int} (x : List Int) (h : 4 ≤ c.length) : cN (c ++ x) = cN c := by unfold cN; rw [List.take_append_of_le_length h]
theorem cK_append {c : List Int} (x : List Int) (h : 8 ≤ c.length) : cK (c ++ x) = cK c := by
  unfold cK; rw [List.drop_append_of_le_length (by omega), List.take_append_of_le_length (by rw [List.length_drop]; omega)]
theorem cD_append {c : List Int} (x : List Int) (h : 8 + cN c ≤ c.length) : cD (c ++ x) = cD c := by
  unfold cD; rw [cN_append x (by omega), List.drop_append_of_le_length (by omega), List.take_append_of_le_length (by rw [List.length_drop]; omega)]
theorem cW_append {c : List Int} (x : List Int) (h : 8 + cN c ≤ c.length) : cW (c ++ x) = cW c := by
  unfold cW; rw [cN_append x (by omega), List.drop_append_of_le_length (by omega), List.take_append_of_le_length (by rw [List.length_drop]; omega)]
theorem cS_append {c : List Int} (x : List Int) (h : 12 + cN c ≤ c.length) : cS (c ++ x) = cS c := by
  unfold cS; rw [cN_append x (by omega), List.drop_append_of_le_length (by omega), List.take_append_of_le_length (by rw [List.length_drop]; omega)]
/-- The chunks, and 0, or what is wrong: 2: more is to come. -/
def psF : Nat → List Int → List Sn × Int
  | 0, _ => ([], 0)
  | k + 1, b => if b = [] then ([], 0)
    else if b.length < 4 then ([], 2)
    else if 1048576 < cN b then ([], 9)
    else if b.length < 8 then ([], 2)
    else if isK (cK b) = false then ([], 3)
    else if b.length < 12 + cN b then ([⟨cK b, cN b, cD b, false⟩], 2)
    else if cS b ≠ ((cW b).toNat : Int) then ([⟨cK b, cN b, cD b, false⟩], 4)
    else (⟨cK b, cN b, cD b, true⟩ :: (psF k (b.drop (12 + cN b))).1, (psF k (b.drop (12 + cN b))).2)
theorem psF_any : ∀ (k j : Nat) (b : List Int), b.length < k → b.length < j → psF k b = psF j b := by
  intro k
  induction k with
  | zero => intro j b h _; omega
  | succ k ih =>
    intro j b h1 h2
    obtain ⟨j, rfl⟩ : ∃ i, j = i + 1 := ⟨j - 1, by omega⟩
    unfold psF
    by_cases hb : b = []
    · rw [if_pos hb, if_pos hb]
    · by_cases h4 : b.length < 4
      · rw [if_neg hb, if_neg hb, if_pos h4, if_pos h4]
      · rw [ih j (b.drop (12 + cN b)) (by rw [List.length_drop]; omega) (by rw [List.length_drop]; omega)]
def ps (b : List Int) : List Sn × Int := psF (b.length + 1) b
theorem ps_eq (b : List Int) : ps b = (
  if b = [] then ([], 0)
  else if b.length < 4 then ([], 2)
  else if 1048576 < cN b then ([], 9)
  else if b.length < 8 then ([], 2)
  else if isK (cK b) = false then ([], 3)
  else if b.length < 12 + cN b then ([⟨cK b, cN b, cD b, false⟩], 2)
  else if cS b ≠ ((cW b).toNat : Int) then ([⟨cK b, cN b, cD b, false⟩], 4)
  else (⟨cK b, cN b, cD b, true⟩ :: (ps (b.drop (12 + cN b))).1, (ps (b.drop (12 + cN b))).2)) := by
  unfold ps
  show (if _ then _ else _) = _
  by_cases hb : b = []
  · rw [if_pos hb, if_pos hb]
  · by_cases h4 : b.length < 4
    · rw [if_neg hb, if_neg hb, if_pos h4, if_pos h4]
    · rw [psF_any b.length ((b.drop (12 + cN b)).length + 1) (b.drop (12 + cN b)) (by rw [List.length_drop]; omega) (Nat.lt_succ_self _)]
theorem ps_nil : ps [] = ([], 0) := by rw [ps_eq, if_pos rfl]
theorem ps_few {b : List Int} (h0 : b ≠ []) (h : b.length < 4) : ps b = ([], 2) := by rw [ps_eq, if_neg h0, if_pos h]
theorem ps_long {b : List Int} (h : 4 ≤ b.length) (hn : 1048576 < cN b) : ps b = ([], 9) := by
  rw [ps_eq, if_neg (by rintro rfl; simp at h), if_neg (by omega), if_pos hn]
theorem ps_few8 {b : List Int} (h : 4 ≤ b.length) (h8 : b.length < 8) (hn : cN b ≤ 1048576) : ps b = ([], 2) := by
  rw [ps_eq, if_neg (by rintro rfl; simp at h), if_neg (by omega), if_neg (by omega), if_pos h8]
theorem ps_kind {b : List Int} (h : 8 ≤ b.length) (hn : cN b ≤ 1048576) (hk : isK (cK b) = false) : ps b = ([], 3) := by
  rw [ps_eq, if_neg (by rintro rfl; simp at h), if_neg (by omega), if_neg (by omega), if_neg (by omega), if_pos hk]
theorem ps_part {b : List Int} (h : 8 ≤ b.length) (hn : cN b ≤ 1048576) (hk : isK (cK b) = true) (hl : b.length < 12 + cN b) : ps b = ([⟨cK b, cN b, cD b, false⟩], 2) := by
  rw [ps_eq, if_neg (by rintro rfl; simp at h), if_neg (by omega), if_neg (by omega), if_neg (by omega), if_neg (by simp [hk]), if_pos hl]
theorem ps_sum {b : List Int} (hn : cN b ≤ 1048576) (hk : isK (cK b) = true) (hl : 12 + cN b ≤ b.length) (hs : cS b ≠ ((cW b).toNat : Int)) : ps b = ([⟨cK b, cN b, cD b, false⟩], 4) := by
  rw [ps_eq, if_neg (by rintro rfl; simp at hl), if_neg (by omega), if_neg (by omega), if_neg (by omega), if_neg (by simp [hk]), if_neg (by omega), if_pos hs]
theorem ps_whole {c : List Int} (hn : cN c ≤ 1048576) (hk : isK (cK c) = true) (hl : c.length = 12 + cN c) (hs : cS c = ((cW c).toNat : Int)) (x : List Int) : ps (c ++ x) = (⟨cK c, cN c, cD c, true⟩ :: (ps x).1, (ps x).2) := by
  have e1 := cN_append (c := c) x (by omega)
  have e2 := cK_append (c := c) x (by omega)
  have e3 := cD_append (c := c) x (by omega)
  have e4 := cW_append (c := c) x (by omega)
  have e5 := cS_append (c := c) x (by omega)
  have e6 : (c ++ x).drop (12 + cN c) = x := by rw [← hl, List.drop_left]
  rw [ps_eq, e1, e2, e3, e4, e5, e6, if_neg (by intro h; have := congrArg List.length h; rw [List.length_append] at this; simp only [List.length_nil] at this; omega), if_neg (by rw [List.length_append]; omega), if_neg (by omega), if_neg (by rw [List.length_append]; omega), if_neg (by simp [hk]), if_neg (by rw [List.length_append]; omega), if_neg (by simp [hs])]
/-- All bytes, the first eight too. -/
def ofAll (b : List Int) : List Sn × Int :=
  if b.take 8 = first8 then ps (b.drop 8) else if b = first8.take b.length then ([], 2) else ([], 3)
/-- What a reader knows of the bytes cur since the chunk's beginning (now 0: since the first byte). -/
def Ok (now : Nat) (cur : List Int) : Prop :=
  Bytes cur ∧
  ((now = 0 ∧ cur.length < 8 ∧ cur = first8.take cur.length) ∨
   (now = 1 ∧ cur.length < 4) ∨
   (now = 2 ∧ 4 ≤ cur.length ∧ cur.length < 8 ∧ cN cur ≤ 1048576) ∨
   (now = 3 ∧ 8 ≤ cur.length ∧ cN cur ≤ 1048576 ∧ isK (cK cur) = true ∧ cur.length ≤ 8 + cN cur ∧ (cur.length < 8 + cN cur ∨ cN cur = 0)) ∨
   (now = 4 ∧ 8 + cN cur ≤ cur.length ∧ cur.length < 12 + cN cur ∧ cN cur ≤ 1048576 ∧ isK (cK cur) = true))
/-- The chunks that have been read whole, and the bytes since. -/
def Pre (pre : List Int) (L : List Sn) (now : Nat) (cur : List Int) : Prop :=
  (now = 0 → L = [] ∧ pre = cur) ∧ (now ≠ 0 → ∃ C, pre = first8 ++ (C ++ cur) ∧ ∀ x, ps (C ++ x) = (L ++ (ps x).1, (ps x).2))
def here (now : Nat) (cur : List Int) : List Sn := if 3 ≤ now then [⟨cK cur, cN cur, cD cur, false⟩] else []
theorem ofAll_first (x : List Int) : ofAll (first8 ++ x) = ps x := by
  unfold ofAll
  rw [if_pos (List.take_left' (show first8.length = 8 from rfl)), List.drop_left' (show first8.length = 8 from rfl)]
theorem Ok.say {now : Nat} {cur : List Int} (h : Ok now cur) (h0 : now ≠ 0) : ps cur = (here now cur, if now = 1 ∧ cur = [] then 0 else 2) := by
  obtain ⟨_, ⟨h1, _⟩ | ⟨rfl, h2⟩ | ⟨rfl, h2, h3, h4⟩ | ⟨rfl, h2, h3, h4, h5, h6⟩ | ⟨rfl, h2, h3, h4, h5⟩⟩ := h
  · exact absurd h1 h0
  · by_cases hc : cur = []
    · subst hc; rw [ps_nil]; rfl
    · rw [ps_few hc h2, if_neg (by simp [hc])]; rfl
  · rw [ps_few8 h2 h3 h4]; rfl
  · rw [ps_part h2 h3 h4 (by omega)]; rfl
  · rw [ps_part (by omega) h4 h5 h3]; rfl
theorem Pre.say {pre : List Int} {L : List Sn} {now : Nat} {cur : List Int} (h : Pre pre L now cur) (hk : Ok now cur) : ofAll pre = (L ++ here now cur, if now = 1 ∧ cur = [] then 0 else 2) := by
  by_cases h0 : now = 0
  · subst h0
    obtain ⟨rfl, rfl⟩ := h.1 rfl
    obtain ⟨_, ⟨_, h1, h2⟩ | ⟨h1, _⟩ | ⟨h1, _⟩ | ⟨h1, _⟩ | ⟨h1, _⟩⟩ := hk
    · unfold ofAll
      rw [if_neg (by intro e; have := congrArg List.length e; rw [List.length_take] at this; simp [first8] at this; omega), if_pos h2]
      rfl
    all_goals cases h1
  · obtain ⟨C, rfl, hC⟩ := h.2 h0
    rw [ofAll_first, hC, hk.say h0]
/-- An error in the bytes behind. -/
theorem Pre.bad {pre : List Int} {L : List Sn} {now : Nat} {cur : List Int} (h : Pre pre L now cur) (h0 : now ≠ 0) {y : List Int} {W : List Sn} {e : Int} (hp : ps (cur ++ y) = (W, e)) : ofAll (pre ++ y) = (L ++ W, e) := by
  obtain ⟨C, rfl, hC⟩ := h.2 h0
  rw [List.append_assoc, List.append_assoc, ofAll_first, hC, hp]
theorem Pre.more {pre : List Int} {L : List Sn} {now now' : Nat} {cur y : List Int} (h : Pre pre L now cur) (h0 : now ≠ 0) (h1 : now' ≠ 0) : Pre (pre ++ y) L now' (cur ++ y) := by
  obtain ⟨C, rfl, hC⟩ := h.2 h0
  exact ⟨fun h => absurd h h1, fun _ => ⟨C, by simp, hC⟩⟩
theorem Pre.whole {pre : List Int} {L : List Sn} {now : Nat} {cur y : List Int} (h : Pre pre L now cur) (h0 : now ≠ 0) {S : Sn} (hw : ∀ x, ps (cur ++ y ++ x) = (S :: (ps x).1, (ps x).2)) : Pre (pre ++ y) (L ++ [S]) 1 [] := by
  obtain ⟨C, rfl, hC⟩ := h.2 h0
  refine ⟨(by intro h; cases h), fun _ => ⟨C ++ (cur ++ y), by simp, fun x => ?_⟩⟩
  rw [List.append_assoc, hC, hw]
  simp
/-- A piece that is told. -/
structure Pq where
  kind : List Int
  size : Nat
  data : List Int
  bg : Bool
  en : Bool
def gath1 (l : List Sn) (q : Pq) : Option (List Sn) :=
  match (if q.bg = true then l ++ [⟨q.kind, q.size, [], false⟩] else l).getLast? with
  | none => none
  | some x => if x.fin = true ∨ x.kind ≠ q.kind ∨ x.size ≠ q.size ∨ (q.bg = false ∧ q.en = false ∧ q.data = []) then none
    else some ((if q.bg = true then l ++ [⟨q.kind, q.size, [], false⟩] else l).dropLast ++ [⟨x.kind, x.size, x.data ++ q.data, q.en⟩])
theorem gath1_new (l : List Sn) (k : List Int) (n : Nat) (d : List Int) (e : Bool) : gath1 l ⟨k, n, d, true, e⟩ = some (l ++ [⟨k, n, d, e⟩]) := by
  simp [gath1]
theorem gath1_old (l : List Sn) (k : List Int) (n : Nat) (d0 d : List Int) (e : Bool) (h : e = true ∨ d ≠ []) : gath1 (l ++ [⟨k, n, d0, false⟩]) ⟨k, n, d, false, e⟩ = some (l ++ [⟨k, n, d0 ++ d, e⟩]) := by
  unfold gath1
  simp only [Bool.false_eq_true, if_false, List.getLast?_append, List.getLast?_singleton, Option.some_or, List.dropLast_concat]
  rw [if_neg]
  simp
  intro he hd
  rcases h with h | h
  · rw [he] at h; cases h
  · exact h hd
def gath : List Sn → List Pq → Option (List Sn)
  | l, [] => some l
  | l, q :: r => match gath1 l q with
    | none => none
    | some l' => gath l' r
theorem gath_snoc : ∀ (T : List Pq) (l l' : List Sn) (q : Pq), gath l T = some l' → gath l (T ++ [q]) = gath1 l' q
  | [], l, l', q, h => by
    simp only [gath, Option.some.injEq] at h
    subst h
    simp only [List.nil_append, gath]
    cases gath1 l q <;> rfl
  | t :: r, l, l', q, h => by
    simp only [gath, List.cons_append] at h ⊢
    cases hg : gath1 l t with
    | none => rw [hg] at h; cases h
    | some m => rw [hg] at h; exact gath_snoc r m l' q h
end Go.Proofs.YtpjcdfinlclhoaaGreatDoor
