import Derived.Test.YtaibojmaghmfnaaCrE
import Derived.Lib.SmallJoins
namespace Go.Proofs.Ytaibojmaghmfnaa
open Go.RowKit
theorem row_arr {w : World} {s : Nat} (hs : s = w.heap.size) (l : List Int) (cs : Array Value) (fr : Nat × Nat) (hc : cs = (vals l).toArray) : Row (w.alloc (.cells cs 5 fr)) (some ⟨s, 0, none⟩) l := by
  subst hs hc
  refine .inr ⟨_, 0, rfl, fun i hi => ?_⟩
  rw [World.cell?_alloc_mark, Nat.zero_add, ← vals_at l i hi]
  simp
theorem bytes_of_all {l : List Int} (h : (l.all fun z => decide (0 ≤ z) && decide (z < 256)) = true) : Bytes l := by
  intro z hz
  simp at h
  exact h z hz
theorem ret_bool {a b : Bool} (h : a = b) : Ending.returned (.bool a) = .returned (.bool b) := by rw [h]
/-- What is known of bytes that are handed on. -/
def BOk (w : World) (a : Option Addr) (n c : Nat) (A : List Int) : Prop := A.length = n ∧ Bytes A ∧ n ≤ c ∧ (n ≤ 140737488351232 ∧ c ≤ 9223372036854775807) ∧ (a = none → c = 0) ∧ Row w a A
theorem BOk.old {w w' : World} {a : Option Addr} {n c : Nat} {A : List Int} (h : BOk w a n c A) (hb : Below w.heap.size w w') : BOk w' a n c A := ⟨h.1, h.2.1, h.2.2.1, h.2.2.2.1, h.2.2.2.2.1, h.2.2.2.2.2.old hb⟩
theorem BOk.alloc {w : World} {a : Option Addr} {n c : Nat} {A : List Int} (h : BOk w a n c A) (o : Obj) : BOk (w.alloc o) a n c A := h.old ((Below.refl _ _).alloc (Nat.le_refl _) _)
theorem BOk.pt {w : World} {a : Option Addr} {n c : Nat} {A : List Int} (h : BOk w a n c A) : PtOk w ⟨a, c, A⟩ := ⟨h.2.1, by show A.length ≤ c; rw [h.1]; exact h.2.2.1, by show A.length ≤ _ ∧ _; rw [h.1]; exact h.2.2.2.1, h.2.2.2.2.1, h.2.2.2.2.2⟩
/-- 'Of(p)': the one part is laid into a slice first. -/
theorem of_one (w : World) (s : Nat) (hs : s = w.heap.size) (a : Option Addr) (n c : Nat) (A : List Int) (h : BOk w a n c A) :
    Calls Try.prog 22 #[.slice (some ⟨s, 0, none⟩) 1 1] (w.alloc (.cells #[.slice a n c] 24)) fun e w' => e = .returned (.int .u32 ((crcM (BitVec.ofNat 32 0) A).toNat : Int)) ∧ w' = w.alloc (.cells #[.slice a n c] 24) := by
  subst hs
  refine of_any _ 1 1 (fun _ => ⟨a, c, A⟩) _ ⟨Nat.le_refl _, by unfold maxLen; omega, fun _ => ⟨_, 0, rfl, fun i hi => ⟨?_, (h.alloc _).pt⟩⟩⟩
  obtain rfl : i = 0 := by omega
  rw [World.cell?_alloc_mark]
  show some (Value.slice a n c) = some (.slice a A.length c)
  rw [h.1]
/-- 'Of(p, q)'. -/
theorem of_two (w : World) (s : Nat) (hs : s = w.heap.size) (a b : Option Addr) (n c m d : Nat) (A B : List Int) (h : BOk w a n c A) (k : BOk w b m d B) :
    Calls Try.prog 22 #[.slice (some ⟨s, 0, none⟩) 2 2] (w.alloc (.cells #[.slice a n c, .slice b m d] 24)) fun e w' => e = .returned (.int .u32 ((crcM (BitVec.ofNat 32 0) (A ++ B)).toNat : Int)) ∧ w' = w.alloc (.cells #[.slice a n c, .slice b m d] 24) := by
  subst hs
  refine of_any _ 2 2 (fun i => if i = 0 then ⟨a, c, A⟩ else ⟨b, d, B⟩) _ ⟨Nat.le_refl _, by unfold maxLen; omega, fun _ => ⟨_, 0, rfl, fun i hi => ?_⟩⟩
  rw [World.cell?_alloc_mark]
  match i, hi with
  | 0, _ => exact ⟨by show some (Value.slice a n c) = some (.slice a A.length c); rw [h.1], (h.alloc _).pt⟩
  | 1, _ => exact ⟨by show some (Value.slice b m d) = some (.slice b B.length d); rw [k.1], (k.alloc _).pt⟩
theorem of_none (w : World) : Calls Try.prog 22 #[.slice none 0 0] w fun e w' => e = .returned (.int .u32 0) ∧ w' = w := by
  have := of_any none 0 0 (fun _ => ⟨none, 0, []⟩) w ⟨Nat.le_refl _, by unfold maxLen; omega, fun h => absurd h (by omega)⟩
  rw [show (crcM (BitVec.ofNat 32 0) (catF (fun _ => (⟨none, 0, []⟩ : Pt)) 0)).toNat = 0 from crcM_nil] at this
  exact this
def t1234 : List Int := [49, 50, 51, 52]
def t56789 : List Int := [53, 54, 55, 56, 57]
theorem fix_all : (crcM (BitVec.ofNat 32 0) (t1234 ++ t56789)).toNat = 3421780262 := by decide +kernel
theorem fix_a : crcM (BitVec.ofNat 32 0) t1234 = (BitVec.ofNat 32 2615402659) := by decide +kernel
theorem fix_b : crcM (BitVec.ofNat 32 0) t56789 = (BitVec.ofNat 32 320708720) := by decide +kernel
theorem fix_j : (joinW (BitVec.ofNat 32 2615402659) (BitVec.ofNat 32 320708720) 5).toNat = 3421780262 := by decide +kernel
theorem bok_a {w : World} {s : Nat} (h : Row w (some ⟨s, 0, none⟩) t1234) : BOk w (some ⟨s, 0, none⟩) 4 4 t1234 := ⟨rfl, bytes_of_all (by decide), Nat.le_refl _, by omega, by (intro h; cases h), h⟩
theorem bok_b {w : World} {s : Nat} (h : Row w (some ⟨s, 0, none⟩) t56789) : BOk w (some ⟨s, 0, none⟩) 5 5 t56789 := ⟨rfl, bytes_of_all (by decide), Nat.le_refl _, by omega, by (intro h; cases h), h⟩
theorem fix_of2 (w : World) (s : Nat) (hs : s = w.heap.size) (p q : Nat) (hp : Row w (some ⟨p, 0, none⟩) t1234) (hq : Row w (some ⟨q, 0, none⟩) t56789) :
    Calls Try.prog 22 #[.slice (some ⟨s, 0, none⟩) 2 2] (w.alloc (.cells #[.slice (some ⟨p, 0, none⟩) 4 4, .slice (some ⟨q, 0, none⟩) 5 5] 24)) fun e w' => e = .returned (.int .u32 3421780262) ∧ w' = w.alloc (.cells #[.slice (some ⟨p, 0, none⟩) 4 4, .slice (some ⟨q, 0, none⟩) 5 5] 24) := by
  have := of_two w s hs _ _ _ _ _ _ _ _ (bok_a hp) (bok_b hq)
  rw [fix_all] at this
  exact this
theorem fix_ofa (w : World) (s : Nat) (hs : s = w.heap.size) (p : Nat) (hp : Row w (some ⟨p, 0, none⟩) t1234) :
    Calls Try.prog 22 #[.slice (some ⟨s, 0, none⟩) 1 1] (w.alloc (.cells #[.slice (some ⟨p, 0, none⟩) 4 4] 24)) fun e w' => e = .returned (.int .u32 2615402659) ∧ w' = w.alloc (.cells #[.slice (some ⟨p, 0, none⟩) 4 4] 24) := by
  have := of_one w s hs _ _ _ _ (bok_a hp)
  rw [fix_a] at this
  exact this
theorem fix_ofb (w : World) (s : Nat) (hs : s = w.heap.size) (p : Nat) (hp : Row w (some ⟨p, 0, none⟩) t56789) :
    Calls Try.prog 22 #[.slice (some ⟨s, 0, none⟩) 1 1] (w.alloc (.cells #[.slice (some ⟨p, 0, none⟩) 5 5] 24)) fun e w' => e = .returned (.int .u32 320708720) ∧ w' = w.alloc (.cells #[.slice (some ⟨p, 0, none⟩) 5 5] 24) := by
  have := of_one w s hs _ _ _ _ (bok_b hp)
  rw [fix_b] at this
  exact this
end Go.Proofs.Ytaibojmaghmfnaa
