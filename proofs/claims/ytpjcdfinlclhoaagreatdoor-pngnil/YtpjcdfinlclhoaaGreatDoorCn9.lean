/- A chunk reader between two bytes, and what one part more leaves of it. -/
import Derived.Test.YtpjcdfinlclhoaaGreatDoorCn8
namespace Go.Proofs.YtpjcdfinlclhoaaGreatDoor
open Go.RowKit
def kdV (now : Nat) (cur : List Int) : List Int := if 3 ≤ now then cK cur else []
def szV (now : Nat) (cur : List Int) : Nat := if 2 ≤ now then cN cur else 0
def seV (now : Nat) (cur : List Int) : Nat := if now = 2 then cur.length - 4 else if now = 3 then cur.length - 8 else if now = 4 then cur.length - (8 + cN cur) else cur.length
def wdV (now : Nat) (cur : List Int) : List Int := if now = 2 then cur.drop 4 else if now = 4 then cur.drop (8 + cN cur) else cur
/-- The reader in memory. -/
def CR (w : World) (p now : Nat) (cur : List Int) (bg : Bool) (D : List Int) (vd : Value) (g : Option Nat) : Prop :=
  ∃ X sum, X.length = 4 ∧ Bytes X ∧ CC w p now 0 (seV now cur : Nat) X (strOfNums (kdV now cur)) (szV now cur : Nat) vd bg false sum ∧
    (now = 1 ∨ now = 2 ∨ now = 4 → X.take (seV now cur) = wdV now cur) ∧ (now = 3 → sum = ((crcM (BitVec.ofNat 32 0) (cur.drop 4)).toNat : Int)) ∧ (now = 4 → sum = ((cW cur).toNat : Int)) ∧
    Sl w 5 vd g (vals D) ∧ (now < 3 → vd = .slice none 0 0 ∧ D = [] ∧ bg = false)
theorem CR.lt {w : World} {p now : Nat} {cur : List Int} {bg : Bool} {D : List Int} {vd : Value} {g : Option Nat} (h : CR w p now cur bg D vd g) : p < w.heap.size := by obtain ⟨X, sum, _, _, h, _⟩ := h; exact h.lt
theorem CR.sep {w : World} {p now : Nat} {cur : List Int} {bg : Bool} {D : List Int} {vd : Value} {g : Option Nat} (h : CR w p now cur bg D vd g) : g ≠ some p := by obtain ⟨X, sum, _, _, h, _, _, _, hs, _⟩ := h; exact h.ne hs (by decide)
theorem CR.same {w w' : World} {p now : Nat} {cur : List Int} {bg : Bool} {D : List Int} {vd : Value} {g : Option Nat} (h : CR w p now cur bg D vd g) (hp : w'.heap[p]? = w.heap[p]?) (hg : ∀ k, g = some k → w'.heap[k]? = w.heap[k]?) : CR w' p now cur bg D vd g := by
  obtain ⟨X, sum, h1, h2, h3, h4, h5, h6, h7, h8⟩ := h
  exact ⟨X, sum, h1, h2, h3.same hp, h4, h5, h6, h7.same hg, h8⟩
/-- What was told of the chunk's data ahead of D. -/
def Dv (now : Nat) (cur : List Int) (bg : Bool) (D D0 : List Int) : Prop := 3 ≤ now → cD cur = D0 ++ D ∧ (bg = true → D0 = [])
def gx (now : Nat) (cur : List Int) (bg : Bool) (D0 : List Int) : List Sn := if 3 ≤ now ∧ bg = false then [⟨cK cur, cN cur, D0, false⟩] else []
def tk (now : Nat) : Nat := if now = 3 then 1 else 0
/-- It goes on. -/
def Go1 (p : Nat) (pre : List Int) (L : List Sn) (now : Nat) (cur : List Int) (bg : Bool) (D0 : List Int) (g : Option Nat) (bs : List Int) (w : World) (N : Nat) (w' : World) : Prop :=
  ∃ now' cur' bg' D' D0' vd' g', CR w' p now' cur' bg' D' vd' g' ∧ Ok now' cur' ∧ Pre (pre ++ bs.take N) L now' cur' ∧ Dv now' cur' bg' D' D0' ∧ gx now' cur' bg' D0' = gx now cur bg D0 ∧ (g' = g ∨ ∃ k, g' = some k ∧ w.heap.size ≤ k) ∧ 2 * (bs.length - N) + tk now' < 2 * bs.length + tk now ∧ (D' = [] → vd' = .slice none 0 0)
/-- A chunk ends. -/
def En1 (p : Nat) (pre : List Int) (L : List Sn) (now : Nat) (cur : List Int) (bg : Bool) (D : List Int) (vd : Value) (g : Option Nat) (bs : List Int) (N : Nat) (w' : World) : Prop :=
  now = 4 ∧ 0 < N ∧ (∃ X sum, X.length = 4 ∧ Bytes X ∧ CC w' p 1 0 0 X (strOfNums (cK cur)) (cN cur) vd bg true sum) ∧ Sl w' 5 vd g (vals D) ∧ Pre (pre ++ bs.take N) (L ++ [⟨cK cur, cN cur, cD cur, true⟩]) 1 []
/-- An error. -/
def Er1 (p : Nat) (pre : List Int) (L : List Sn) (now : Nat) (cur : List Int) (bg : Bool) (D : List Int) (vd : Value) (g : Option Nat) (bs : List Int) (er : Int) (w' : World) : Prop :=
  ofAll (pre ++ bs) = (L ++ here now cur, er) ∧ (er = 3 ∨ er = 4 ∨ er = 9) ∧ (∃ no se X sum, CC w' p no 0 se X (strOfNums (kdV now cur)) (szV now cur : Nat) vd bg false sum) ∧ Sl w' 5 vd g (vals D)
def StPost (B : Nat) (w : World) (p : Nat) (pre : List Int) (L : List Sn) (now : Nat) (cur : List Int) (bg : Bool) (D D0 : List Int) (vd : Value) (g : Option Nat) (bs : List Int) (val : Value) (er : Int) (w' : World) : Prop :=
  Fr w w' p g ∧ ((∃ N a' c', val = .slice a' (bs.length - N) c' ∧ er = 0 ∧ N ≤ bs.length ∧ Rst B w' p (bs.drop N) a' c' ∧ (Go1 p pre L now cur bg D0 g bs w N w' ∨ En1 p pre L now cur bg D vd g bs N w')) ∨
    (val = .slice none 0 0 ∧ Er1 p pre L now cur bg D vd g bs er w'))
theorem Bytes.app {l m : List Int} (h : Bytes l) (k : Bytes m) : Bytes (l ++ m) := fun z hz => (List.mem_append.1 hz).elim (h z) (k z)
theorem Bytes.dropC {l : List Int} (h : Bytes l) (k : Nat) : Bytes (l.drop k) := fun z hz => h z (List.mem_of_mem_drop hz)
theorem cN_le {c : List Int} (h : Bytes c) : ((cN c : Nat) : Int) = bigN (c.take 4) := by
  have := (bigN_le (h.takeC 4) (by rw [List.length_take]; omega)).1
  unfold cN; omega
section
variable {B : Nat} {w : World} {p : Nat} {pre : List Int} {L : List Sn} {cur : List Int} {bg : Bool} {D D0 : List Int} {vd : Value} {g : Option Nat} {bs : List Int} {av : Option Addr} {m c : Nat}
theorem Fr.weak {w w' : World} {p : Nat} (g : Option Nat) (h : Fr w w' p none) : Fr w w' p g := ⟨h.os, h.tape, h.output, h.size, fun k hk h1 _ => h.block k hk h1 (by simp)⟩
theorem Sl.keep {w w' : World} {p : Nat} {v : Value} {g : Option Nat} {xs : List Value} (h : Sl w 5 v g xs) (hf : Fr w w' p none) (hp : g ≠ some p) : Sl w' 5 v g xs := h.same fun k hk => hf.block k (h.lt hk) (fun e => hp (by rw [hk, e])) (by simp)
theorem st0 (hm : bs.length = m) (hm0 : 0 < m) (hbb : Bytes bs) (hrs : Rst B w p bs av c) (hok : Ok 0 cur) (hpre : Pre pre L 0 cur) (h : CR w p 0 cur bg D vd g) :
    Calls Tryz.prog 33 #[.pointer (some ⟨p, 0, none⟩), .slice av m c] w fun e w' => ∃ val er, e = .returned (.tuple #[val, .int .i64 er]) ∧ StPost B w p pre L 0 cur bg D D0 vd g bs val er w' := by
  have hsep := h.sep
  obtain ⟨X, sum, h1, h2, h3, h4, h5, h6, h7, h8⟩ := h
  obtain ⟨rfl, rfl, rfl⟩ := h8 (by omega)
  obtain ⟨hb, ⟨_, hl, hc⟩ | ⟨hh, _⟩ | ⟨hh, _⟩ | ⟨hh, _⟩ | ⟨hh, _⟩⟩ := hok
  rotate_left
  · cases hh
  · cases hh
  · cases hh
  · cases hh
  obtain ⟨rfl, hpe⟩ := hpre.1 rfl
  rw [hpe]
  refine (first_any B cur.length hl bs av m c hm hm0 hrs h3).mono ?_
  rintro e w' ⟨hf, hA, hB⟩
  obtain ⟨x, xs, rfl⟩ : ∃ x xs, bs = x :: xs := by
    cases bs with
    | nil => simp at hm; omega
    | cons x xs => exact ⟨x, xs, rfl⟩
  have hx0 := hbb x (by simp)
  by_cases hx : (x :: xs)[0]? = first8[cur.length]?
  · obtain ⟨a', c', rfl, hr, hcc⟩ := hA hx
    refine ⟨_, _, rfl, hf.weak g, .inl ⟨1, a', c', rfl, rfl, by simp, hr, .inl ?_⟩⟩
    have hcx : cur ++ [x] = first8.take (cur.length + 1) := by
      have hx' : first8[cur.length]? = some x := by rw [← hx]; rfl
      rw [List.take_add_one, hx', ← hc]; rfl
    have hbx : Bytes (cur ++ [x]) := hb.app fun z hz => by simp at hz; omega
    by_cases h8 : cur.length + 1 = 8
    · rw [if_pos h8, if_pos h8] at hcc
      refine ⟨1, [], false, [], [], _, g, ⟨X, sum, h1, h2, hcc, fun _ => by simp [seV, wdV], (by intro hh; cases hh), (by intro hh; cases hh), h7.keep hf hsep, fun _ => ⟨rfl, rfl, rfl⟩⟩, ⟨Bytes.nil, .inr (.inl ⟨rfl, by simp⟩)⟩, ⟨(by intro hh; cases hh), fun _ => ⟨[], ?_, fun x => by simp⟩⟩, (by intro hh; omega), rfl, .inl rfl, ?_, fun _ => rfl⟩
      · rw [show (x :: xs).take 1 = [x] from rfl, hcx, h8]; rfl
      · simp [tk]
    · rw [if_neg h8, if_neg h8] at hcc
      refine ⟨0, cur ++ [x], false, [], [], _, g, ⟨X, sum, h1, h2, ?_, (by intro hh; omega), (by intro hh; cases hh), (by intro hh; cases hh), h7.keep hf hsep, fun _ => ⟨rfl, rfl, rfl⟩⟩, ⟨hbx, .inl ⟨rfl, by simp; omega, by simpa using hcx⟩⟩, ⟨fun _ => ⟨rfl, rfl⟩, fun hh => absurd rfl hh⟩, (by intro hh; omega), rfl, .inl rfl, ?_, fun _ => rfl⟩
      · have e : ((seV 0 (cur ++ [x]) : Nat) : Int) = (cur.length : Int) + 1 := by simp [seV]
        rw [e]; exact hcc
      · simp [tk]
  · obtain ⟨rfl, hcc⟩ := hB hx
    refine ⟨_, _, rfl, hf.weak g, .inr ⟨rfl, ?_, .inl rfl, ⟨_, _, X, sum, hcc⟩, h7.keep hf hsep⟩⟩
    unfold ofAll
    have hne : ¬ (cur ++ x :: xs).take 8 = first8 := by
      intro e
      apply hx
      rw [← e, List.getElem?_take, if_pos hl, List.getElem?_append_right (Nat.le_refl _), Nat.sub_self]
    rw [if_neg hne, if_neg]
    · rfl
    · intro e
      apply hx
      have := congrArg (fun l => l[cur.length]?) e
      simp only [List.getElem?_append_right (Nat.le_refl _), Nat.sub_self] at this
      rw [this, List.getElem?_take, if_pos (by simp)]
end
end Go.Proofs.YtpjcdfinlclhoaaGreatDoor
