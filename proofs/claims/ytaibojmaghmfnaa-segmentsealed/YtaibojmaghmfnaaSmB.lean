/- Whether bytes are the same; a byte of a slice is another one. -/
import Derived.Test.YtaibojmaghmfnaaCpy
namespace Go.Proofs.Ytaibojmaghmfnaa
open Go.RowKit

theorem conv_row {w : World} {a : Option Addr} {n c : Nat} {l : List Int} (hl : l.length = n) (hr : Row w a l) : (convert 24 9 (.slice a n c)).run Try.prog w = .ok (.string (strOfNums l)) w := by
  rcases hr with rfl | ⟨b, off, rfl, hc⟩
  · simp at hl
    subst hl
    cases a with
    | none => exact run_convert_bytes_nil w 24 5 Try.underlying24 Try.underlying5 0 c 9 Try.underlying9
    | some x =>
      rw [run_convert_bytes_string w 24 9 5 _ 0 c Try.underlying24 Try.underlying5 Try.underlying9, run_bytesToString w x 0 c [] (by simpa using run_loadCells_list (P := Try.prog) w x [] (fun j v hj => by simp at hj))]
      rfl
  · exact run_convert_bytes_arg w 24 5 Try.underlying24 Try.underlying5 b off n c l hl (fun i hi => by rw [hc i (by omega)]; simp) 9 Try.underlying9
set_option maxHeartbeats 800000 in
theorem same_any (a b : Option Addr) (n ca cb : Nat) (l : List Int) (w : World) (hl : l.length = n) (ra : Row w a l) (rb : Row w b l) :
    Calls Try.prog 11 #[.slice a n ca, .slice b n cb] w fun e w' => e = .returned (.bool true) ∧ w' = w := by
  have h1 := conv_row (c := ca) hl ra
  have h2 := conv_row (c := cb) hl rb
  clear ra rb hl
  generalize strOfNums l = s at *
  go_enter Try.func11, Try.ntmps11
  go_wp2
  go_ret
  exact ⟨rfl, rfl⟩

theorem str_inj {l m : List Int} (hl : Bytes l) (hm : Bytes m) (h : (strOfNums l).toList = (strOfNums m).toList) : l = m := by
  have e := h
  rw [ByteArray.toList_eq, ByteArray.toList_eq, strOfNums_data, strOfNums_data] at e
  clear h
  induction l generalizing m with
  | nil => cases m with
    | nil => rfl
    | cons y r => simp at e
  | cons x q ih =>
    cases m with
    | nil => simp at e
    | cons y r =>
      simp only [List.map_cons, List.cons.injEq] at e
      have hx := hl x (by simp)
      have hy := hm y (by simp)
      have e1 := congrArg UInt8.toNat e.1
      simp at e1
      have := ih (m := r) (fun z hz => hl z (by simp [hz])) (fun z hz => hm z (by simp [hz])) e.2
      rw [this]
      congr 1
      omega
set_option maxHeartbeats 800000 in
theorem unlike_any (a b : Option Addr) (n ca cb : Nat) (l m : List Int) (w : World) (hl : l.length = n) (hm : m.length = n) (bl : Bytes l) (bm : Bytes m) (ra : Row w a l) (rb : Row w b m) (hne : l ≠ m) :
    Calls Try.prog 11 #[.slice a n ca, .slice b n cb] w fun e w' => e = .returned (.bool false) ∧ w' = w := by
  have h1 := conv_row (c := ca) hl ra
  have h2 := conv_row (c := cb) hm rb
  have h3 : ((strOfNums l).toList == (strOfNums m).toList) = false := by
    rw [Bool.eq_false_iff]
    intro h
    exact hne (str_inj bl bm (by simpa using h))
  clear ra rb hl hm bl bm hne
  generalize strOfNums l = s at *
  generalize strOfNums m = t at *
  go_enter Try.func11, Try.ntmps11
  go_wp2
  go_ret
  exact ⟨rfl, rfl⟩
theorem Sl.setAt {w : World} {e : TypeId} {g : Option Nat} {xs : List Value} {b off n cap : Nat} (h : Sl w e (.slice (some ⟨b, off, none⟩) n cap) g xs) (k : Nat) (u : Value) : Sl (w.setCell ⟨b, off + k, none⟩ u) e (.slice (some ⟨b, off, none⟩) n cap) g (xs.set k u) := by
  rcases h with ⟨h, _⟩ | ⟨b', off', cap', cur, h, hg, hh, h1, h2, h3, hc⟩
  · cases h
  · simp at h
    obtain ⟨⟨rfl, rfl⟩, rfl, rfl⟩ := h
    refine .inr ⟨b, off, cap, cur.setIfInBounds (off + k) u, by simp, hg, heap_setCell_same w b (off + k) cur e u hh, by simpa using h1, by simpa using h2, h3, fun i hi => ?_⟩
    simp at hi
    by_cases hik : i = k
    · subst hik
      rw [Array.getElem?_setIfInBounds_self_of_lt (by omega), List.getElem?_set_self (by omega)]
    · rw [Array.getElem?_setIfInBounds_ne (by omega), List.getElem?_set_ne (by omega), hc i hi]
theorem vals_set (l : List Int) (k : Nat) (v : Int) : vals (l.set k v) = (vals l).set k (.int .u8 v) := by simp [vals]
end Go.Proofs.Ytaibojmaghmfnaa
