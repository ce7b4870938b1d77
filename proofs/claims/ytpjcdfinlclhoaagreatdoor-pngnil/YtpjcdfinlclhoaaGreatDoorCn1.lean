/- A chunk reader in memory: its cells; the bytes of a word, gathered. -/
import Derived.Test.YtpjcdfinlclhoaaGreatDoorCrF
import Derived.Test.YtpjcdfinlclhoaaGreatDoorOpC
import Derived.Test.YtpjcdfinlclhoaaGreatDoorRwC

import Derived.Laws.CopyRow
import Derived.Laws.CopyOwn
import Derived.Deep.RegionHeld3
import Derived.Lib.SlBuf
namespace Go.Proofs.YtpjcdfinlclhoaaGreatDoor
open Go.RowKit
/-- The reader at block p. -/
def CC (w : World) (p : Nat) (now er seen : Int) (X : List Int) (kd : ByteArray) (sz : Int) (vd : Value) (bg en : Bool) (sum : Int) : Prop :=
  w.heap[p]? = some (.cells #[.int .i64 now, .int .i64 er, .int .i64 seen, .int .u8 (X[0]?.getD 0), .int .u8 (X[1]?.getD 0), .int .u8 (X[2]?.getD 0), .int .u8 (X[3]?.getD 0), .string kd, .int .i64 sz, vd, .bool bg, .bool en, .int .u32 sum] 71 (0, 0))
section
variable {w : World} {p : Nat} {now er seen sz sum : Int} {X : List Int} {kd : ByteArray} {vd : Value} {bg en : Bool}
theorem CC.cells (h : CC w p now er seen X kd sz vd bg en sum) : w.cell? ⟨p, 0, none⟩ = some (.int .i64 now) ∧ w.cell? ⟨p, 1, none⟩ = some (.int .i64 er) ∧ w.cell? ⟨p, 2, none⟩ = some (.int .i64 seen) ∧ w.cell? ⟨p, 7, none⟩ = some (.string kd) ∧ w.cell? ⟨p, 8, none⟩ = some (.int .i64 sz) ∧ w.cell? ⟨p, 9, none⟩ = some vd ∧ w.cell? ⟨p, 10, none⟩ = some (.bool bg) ∧ w.cell? ⟨p, 11, none⟩ = some (.bool en) ∧ w.cell? ⟨p, 12, none⟩ = some (.int .u32 sum) ∧ ∀ j, w.frozen? ⟨p, j, none⟩ = false := by
  unfold CC at h
  refine ⟨?_, ?_, ?_, ?_, ?_, ?_, ?_, ?_, ?_, fun j => ?_⟩ <;> simp [World.cell?, World.frozen?, h]
theorem CC.cellsX (h : CC w p now er seen X kd sz vd bg en sum) : w.cell? ⟨p, 3, none⟩ = some (.int .u8 (X[0]?.getD 0)) ∧ w.cell? ⟨p, 4, none⟩ = some (.int .u8 (X[1]?.getD 0)) ∧ w.cell? ⟨p, 5, none⟩ = some (.int .u8 (X[2]?.getD 0)) ∧ w.cell? ⟨p, 6, none⟩ = some (.int .u8 (X[3]?.getD 0)) := by
  unfold CC at h
  refine ⟨?_, ?_, ?_, ?_⟩ <;> simp [World.cell?, h]
theorem CC.row (h : CC w p now er seen X kd sz vd bg en sum) (hX : X.length = 4) : Row w (some ⟨p, 3, none⟩) X := by
  obtain ⟨h0, h1, h2, h3⟩ := h.cellsX
  refine .inr ⟨p, 3, rfl, fun i hi => ?_⟩
  match i, (by omega : i < 4) with
  | 0, _ => exact h0
  | 1, _ => exact h1
  | 2, _ => exact h2
  | 3, _ => exact h3
theorem CC.set0 (h : CC w p now er seen X kd sz vd bg en sum) (x : Int) : CC (w.setCell ⟨p, 0, none⟩ (.int .i64 x)) p x er seen X kd sz vd bg en sum := by
  unfold CC at h ⊢; rw [heap_setCell_same w p 0 _ _ _ h]; rfl
theorem CC.set2 (h : CC w p now er seen X kd sz vd bg en sum) (x : Int) : CC (w.setCell ⟨p, 2, none⟩ (.int .i64 x)) p now er x X kd sz vd bg en sum := by
  unfold CC at h ⊢; rw [heap_setCell_same w p 2 _ _ _ h]; rfl
theorem CC.set7 (h : CC w p now er seen X kd sz vd bg en sum) (x : ByteArray) : CC (w.setCell ⟨p, 7, none⟩ (.string x)) p now er seen X x sz vd bg en sum := by
  unfold CC at h ⊢; rw [heap_setCell_same w p 7 _ _ _ h]; rfl
theorem CC.set8 (h : CC w p now er seen X kd sz vd bg en sum) (x : Int) : CC (w.setCell ⟨p, 8, none⟩ (.int .i64 x)) p now er seen X kd x vd bg en sum := by
  unfold CC at h ⊢; rw [heap_setCell_same w p 8 _ _ _ h]; rfl
theorem CC.set9 (h : CC w p now er seen X kd sz vd bg en sum) (x : Value) : CC (w.setCell ⟨p, 9, none⟩ x) p now er seen X kd sz x bg en sum := by
  unfold CC at h ⊢; rw [heap_setCell_same w p 9 _ _ _ h]; rfl
theorem CC.set10 (h : CC w p now er seen X kd sz vd bg en sum) (x : Bool) : CC (w.setCell ⟨p, 10, none⟩ (.bool x)) p now er seen X kd sz vd x en sum := by
  unfold CC at h ⊢; rw [heap_setCell_same w p 10 _ _ _ h]; rfl
theorem CC.set11 (h : CC w p now er seen X kd sz vd bg en sum) (x : Bool) : CC (w.setCell ⟨p, 11, none⟩ (.bool x)) p now er seen X kd sz vd bg x sum := by
  unfold CC at h ⊢; rw [heap_setCell_same w p 11 _ _ _ h]; rfl
theorem CC.set12 (h : CC w p now er seen X kd sz vd bg en sum) (x : Int) : CC (w.setCell ⟨p, 12, none⟩ (.int .u32 x)) p now er seen X kd sz vd bg en x := by
  unfold CC at h ⊢; rw [heap_setCell_same w p 12 _ _ _ h]; rfl
theorem CC.same {w' : World} (h : CC w p now er seen X kd sz vd bg en sum) (hs : w'.heap[p]? = w.heap[p]?) : CC w' p now er seen X kd sz vd bg en sum := hs.trans h
theorem CC.lt (h : CC w p now er seen X kd sz vd bg en sum) : p < w.heap.size := lt_of_block h
theorem Sl.tagB {w : World} {e : TypeId} {v : Value} {g : Option Nat} {xs : List Value} (h : Sl w e v g xs) : ∀ k, g = some k → ∃ c, w.heap[k]? = some (.cells c e (0, 0)) := by
  intro k hk
  rcases h with ⟨_, rfl, _⟩ | ⟨b, off, cap, cur, _, rfl, hh, _⟩
  · cases hk
  · cases hk; exact ⟨_, hh⟩
theorem CC.ne {e : TypeId} {v : Value} {g : Option Nat} {xs : List Value} (h : CC w p now er seen X kd sz vd bg en sum) (hs : Sl w e v g xs) (he : e ≠ 71) : g ≠ some p := by
  intro hk
  obtain ⟨c, e2⟩ := hs.tagB p hk
  unfold CC at h
  rw [h] at e2
  simp only [Option.some.injEq, Obj.cells.injEq] at e2
  exact he e2.2.1.symm
theorem Fr.snoc {a w : World} {r : Nat} {g : Option Nat} (h : Fr a w r g) (i : Nat) (u : Value) : Fr a (w.setCell ⟨r, i, none⟩ u) r g := h.trans (Fr.set r i u g) (.inl rfl)
set_option maxHeartbeats 400000 in
theorem enter_any (x : Int) (h : CC w p now er seen X kd sz vd bg en sum) : Calls Tryz.prog 50 #[.pointer (some ⟨p, 0, none⟩), .int .i64 x] w fun e w' => e = .returned (.tuple #[]) ∧ CC w' p x er 0 X kd sz vd bg en sum ∧ Fr w w' p none := by
  obtain ⟨k0, k1, k2, k7, k8, k9, k10, k11, k12, fz⟩ := h.cells
  have HP : Hid (CC ((w.setCell ⟨p, 0, none⟩ (.int .i64 x)).setCell ⟨p, 2, none⟩ (.int .i64 0)) p x er 0 X kd sz vd bg en sum ∧ Fr w ((w.setCell ⟨p, 0, none⟩ (.int .i64 x)).setCell ⟨p, 2, none⟩ (.int .i64 0)) p none) :=
    ⟨(h.set0 x).set2 0, ((Fr.refl _ _ _).snoc _ _).snoc _ _⟩
  clear h
  go_enter Tryz.func50, Tryz.ntmps50
  go_wp2
  go_end0
  exact ⟨rfl, HP.out⟩
/-- Bytes put over a part of the word. -/
def wover (X : List Int) (s : Nat) (ys : List Int) : List Int := X.take s ++ (ys ++ X.drop (s + ys.length))
theorem wover_len (X : List Int) (s : Nat) (ys : List Int) (hX : X.length = 4) (h : s + ys.length ≤ 4) : (wover X s ys).length = 4 := by
  unfold wover; simp; omega
theorem wover_take (X : List Int) (s : Nat) (ys : List Int) (hX : X.length = 4) (h : s + ys.length ≤ 4) : (wover X s ys).take (s + ys.length) = X.take s ++ ys := by
  unfold wover
  rw [← List.append_assoc, List.take_left' (by simp; omega)]
theorem CC.over (h : CC w p now er seen X kd sz vd bg en sum) (hX : X.length = 4) (s : Nat) (ys : List Int) (hs : s + ys.length ≤ 4) {w' : World}
    (hw : w' = w.setRow p ((#[.int .i64 now, .int .i64 er, .int .i64 seen, .int .u8 (X[0]?.getD 0), .int .u8 (X[1]?.getD 0), .int .u8 (X[2]?.getD 0), .int .u8 (X[3]?.getD 0), .string kd, .int .i64 sz, vd, .bool bg, .bool en, .int .u32 sum] : Array Value).toList.take (3 + s) ++ vals ys ++ (#[.int .i64 now, .int .i64 er, .int .i64 seen, .int .u8 (X[0]?.getD 0), .int .u8 (X[1]?.getD 0), .int .u8 (X[2]?.getD 0), .int .u8 (X[3]?.getD 0), .string kd, .int .i64 sz, vd, .bool bg, .bool en, .int .u32 sum] : Array Value).toList.drop (3 + s + (vals ys).length)).toArray) :
    CC w' p now er seen (wover X s ys) kd sz vd bg en sum ∧ Fr w w' p none := by
  subst hw
  refine ⟨?_, ⟨rfl, rfl, rfl, by simp [World.setRow], fun k hk h1 _ => setRow_other w p k _ h1⟩⟩
  unfold CC at h ⊢
  rw [setRow_heap w p _ _ _ _ h]
  congr 2
  obtain ⟨a, b, c, d, rfl⟩ : ∃ a b c d, X = [a, b, c, d] := by
    match X, hX with
    | [a, b, c, d], _ => exact ⟨a, b, c, d, rfl⟩
  match s, ys, hs with
  | 0, [], _ => rfl
  | 0, [_], _ => rfl
  | 0, [_, _], _ => rfl
  | 0, [_, _, _], _ => rfl
  | 0, [_, _, _, _], _ => rfl
  | 1, [], _ => rfl
  | 1, [_], _ => rfl
  | 1, [_, _], _ => rfl
  | 1, [_, _, _], _ => rfl
  | 2, [], _ => rfl
  | 2, [_], _ => rfl
  | 2, [_, _], _ => rfl
  | 3, [], _ => rfl
  | 3, [_], _ => rfl
  | 4, [], _ => rfl
  | 0, _ :: _ :: _ :: _ :: _ :: _, hs => exact absurd hs (by simp only [List.length_cons]; omega)
  | 1, _ :: _ :: _ :: _ :: _, hs => exact absurd hs (by simp only [List.length_cons]; omega)
  | 2, _ :: _ :: _ :: _, hs => exact absurd hs (by simp only [List.length_cons]; omega)
  | 3, _ :: _ :: _, hs => exact absurd hs (by simp only [List.length_cons]; omega)
  | 4, _ :: _, hs => exact absurd hs (by simp only [List.length_cons]; omega)
  | _ + 5, _, hs => exact absurd hs (by omega)
theorem Tryz.size5 : (Tryz.prog.info? 5).map (·.size) = some 1 := by
  obtain ⟨i0, hi, hz0, hz1, hz2⟩ := info_parts Tryz.info5
  rw [hi]; simp [hz1]
/-- Bytes in memory below block B, not the reader's own. -/
def Rst (B : Nat) (w : World) (p : Nat) (bs : List Int) (a : Option Addr) (c : Nat) : Prop :=
  bs.length ≤ c ∧ c ≤ 9223372036854775807 ∧ (a = none → c = 0) ∧ Row w a bs ∧ ∀ x, a = some x → bs ≠ [] → x.block ≠ p ∧ x.block < B
theorem Rst.cut {B : Nat} {bs : List Int} {a : Option Addr} {c : Nat} (h : Rst B w p bs a c) (k : Nat) (hk : k ≤ bs.length) : Rst B w p (bs.drop k) (if c = k then a else Option.map (fun x => x.add k) a) (c - k) := by
  obtain ⟨h1, h2, h3, h4, h5⟩ := h
  refine ⟨by rw [List.length_drop]; omega, by omega, ?_, h4.cut k c hk h1, ?_⟩
  · intro hh
    split at hh
    · omega
    · cases a with
      | none => have := h3 rfl; omega
      | some y => simp at hh
  · intro x hx hd
    have hb : bs ≠ [] := by rintro rfl; simp at hd
    split at hx
    · exact h5 x hx hb
    · cases a with
      | none => cases hx
      | some y =>
        simp at hx
        subst hx
        have := h5 y rfl hb
        simp only [Addr.add]
        split <;> exact this
theorem Rst.frame {B : Nat} {w' : World} {bs : List Int} {a : Option Addr} {c : Nat} {g : Option Nat} (h : Rst B w p bs a c) (hf : Fr w w' p g) (hg : ∀ k, g = some k → B ≤ k) : Rst B w' p bs a c := by
  obtain ⟨h1, h2, h3, h4, h5⟩ := h
  refine ⟨h1, h2, h3, h4.same fun x hx hb => hf.block _ (h4.lt x hx hb) (h5 x hx hb).1 fun e => ?_, h5⟩
  have := hg _ e.symm
  have := (h5 x hx hb).2
  omega
/-- What gather leaves. -/
def GtPost (B : Nat) (w : World) (p : Nat) (now er : Int) (s : Nat) (X : List Int) (kd : ByteArray) (sz : Int) (vd : Value) (bg en : Bool) (sum : Int) (bs : List Int) (e : Ending) (w' : World) : Prop :=
  ∃ a' c', e = .returned (.tuple #[.bool (decide (s + min (4 - s) bs.length = 4)), .slice a' (bs.length - min (4 - s) bs.length) c']) ∧ Rst B w' p (bs.drop (min (4 - s) bs.length)) a' c' ∧
  CC w' p now er ((s + min (4 - s) bs.length : Nat) : Int) (wover X s (bs.take (min (4 - s) bs.length))) kd sz vd bg en sum ∧ Fr w w' p none
/-- 'copy' into the word, as one step of a region that draws its order. -/
theorem step_word {w : World} {p : Nat} {now er seen sz sum : Int} {X : List Int} {kd : ByteArray} {vd : Value} {bg en : Bool} {ops : Array Oper} {o : Oper} {a : Act} {K : Act → World → Prop} {Q : Exit → Act → World → Prop} {E : Prop} (hgd : o.guard = none) (d s : Operand)
    (ho : o.op = .call { callee := .builtin .copy, args := #[d, s], argTypes := #[22, 22] }) (h : CC w p now er seen X kd sz vd bg en sum) (hX : X.length = 4) (off : Nat) (hoff : off ≤ 4) (ad : Option Addr) (dcap m c : Nat) (bs : List Int)
    (hd : a.eval d = .slice (some ⟨p, 3 + off, none⟩) (4 - off) dcap) (hs : a.eval s = .slice ad m c) (hm : bs.length = m) (hr : Row w ad bs)
    (hK : ∀ w', CC w' p now er seen (wover X off (bs.take (min (4 - off) m))) kd sz vd bg en sum → Fr w w' p none → K (a.put o.dst (goInt (min (4 - off) m : Nat))) w') :
    if Region.wanted o (yielded ops a.tmps) = true then Oper.wp Tryz.prog o a w K Q else E := by
  have hw : Region.wanted o (yielded ops a.tmps) = true := by simp [Region.wanted, hgd]
  rw [if_pos hw]
  have hl : (bs.take (min (4 - off) m)).length = min (4 - off) m := by rw [List.length_take]; omega
  by_cases h0 : min (4 - off) m = 0
  · refine Lib.wp_copy_run w d s 22 22 ho _ _ hd hs (run_copy_none w 22 22 o.type 5 _ ad _ _ m c Tryz.underlying22 Tryz.size5 (by rw [Nat.min_comm] at h0; exact h0)) ?_
    rw [h0] at hK
    have := hK w (by simp only [List.take_zero]; unfold wover; simp only [List.length_nil, Nat.add_zero, List.nil_append, List.take_append_drop]; exact h) (Fr.refl _ _ _)
    exact this
  · obtain ⟨x, rfl⟩ : ∃ x, ad = some x := by
      rcases hr with hr | ⟨b, o, e, _⟩
      · rw [hr] at hm; simp at hm; omega
      · exact ⟨_, e⟩
    refine Lib.wp_copy_run w d s 22 22 ho _ _ hd hs (run_copy_row Tryz.prog w 22 22 o.type 5 p (3 + off) (4 - off) dcap x m c _ _ (vals (bs.take (min (4 - off) m))) Tryz.underlying22 Tryz.size5 h ?_ (news_row (hr.take _)) ?_ (vals_one _)) ?_
    · rw [vals_len, hl, Nat.min_comm]
    · rw [vals_len, hl]; simp; omega
    · have h2 := h.over hX off (bs.take (min (4 - off) m)) (by rw [hl]; omega) rfl
      rw [vals_len, hl]
      rw [vals_len, hl] at h2
      exact hK _ h2.1 h2.2
end
end Go.Proofs.YtpjcdfinlclhoaaGreatDoor
