/- Blocks: what the law holds between two pushes. -/
import Derived.Test.YtkfokfjmdkondaaBk12
namespace Go.Proofs.Ytkfokfjmdkondaa
open Go.RowKit
def ApO (a b : Option Nat) : Prop := ∀ k, a = some k → b ≠ some k
theorem ApO.symm {a b : Option Nat} (h : ApO a b) : ApO b a := fun k hb ha => h k ha hb
theorem ApO.none (b : Option Nat) : ApO none b := fun k hk => by cases hk
/-- Blocks but one stay as they are. -/
structure OnlyB (g : Option Nat) (w w' : World) : Prop where
  os : w'.os = w.os
  tape : w'.tape = w.tape
  output : w'.output = w.output
  size : w.heap.size ≤ w'.heap.size
  block : ∀ k, k < w.heap.size → some k ≠ g → w'.heap[k]? = w.heap[k]?
theorem OnlyB.refl (g : Option Nat) (w : World) : OnlyB g w w := ⟨rfl, rfl, rfl, Nat.le_refl _, fun _ _ _ => rfl⟩
theorem OnlyB.set {g : Nat} {w w' : World} (h : OnlyB (some g) w w') (i : Nat) (v : Value) : OnlyB (some g) w (w'.setCell ⟨g, i, none⟩ v) :=
  ⟨h.os, h.tape, h.output, by simp [World.setCell]; exact h.size, fun k hk hg => (Below.heap_setCell _ _ _ _ (fun e => hg (by rw [e]))).trans (h.block k hk hg)⟩
theorem OnlyB.grown {g : Option Nat} {w w' : World} (h : w.grownBy w' g) : OnlyB g w w' := ⟨h.os, h.tape, h.output, h.size, h.block⟩
theorem OnlyB.of_below {w w' : World} (h : Below w.heap.size w w') (g : Option Nat) : OnlyB g w w' := ⟨h.os, h.tape, h.output, h.size, fun k hk _ => h.block k hk⟩
theorem OnlyB.below {g : Option Nat} {B : Nat} {w0 w w' : World} (h : Below B w0 w) (k : OnlyB g w w') (hg : ∀ j, g = some j → B ≤ j) (hB : B ≤ w.heap.size) : Below B w0 w' :=
  ⟨k.os.trans h.os, k.tape.trans h.tape, k.output.trans h.output, Nat.le_trans h.size k.size, fun j hj => (k.block j (by omega) (fun e => by have := hg j e.symm; omega)).trans (h.block j hj)⟩
/-- The reader at r, all bytes so far, what was told, and a part's copy. -/
structure BlR (w : World) (r : Nat) (s : Bs) (A T O : List Int) (v4 v5 v8 : Value) (ga gt gr go : Option Nat) (wr : World) : Prop where
  rd : BR wr r s gr
  rn : w.heap.size ≤ r
  sa : Sl wr 5 v4 ga (vals A)
  st : Sl wr 5 v5 gt (vals T)
  so : Sl wr 5 v8 go (vals O)
  na : ∀ k, ga = some k → w.heap.size ≤ k
  nt : ∀ k, gt = some k → w.heap.size ≤ k
  nr : ∀ k, gr = some k → w.heap.size ≤ k
  no : ∀ k, go = some k → w.heap.size ≤ k
  at' : ApO ga gt
  ar : ApO ga gr
  ao : ApO ga go
  tr : ApO gt gr
  tow : ApO gt go
  ro : ApO gr go
  be : Below w.heap.size w wr
section
variable {w : World} {r : Nat} {s : Bs} {A T O : List Int} {v4 v5 v8 : Value} {ga gt gr go : Option Nat} {wr w' : World}
theorem Sl.only {e : TypeId} {v : Value} {g g' : Option Nat} {xs : List Value} (h : Sl wr e v g xs) (hf : OnlyB g' wr w') (ha : ApO g g') : Sl w' e v g xs :=
  h.same fun k hk => hf.block k (h.lt hk) (fun e => ha k hk e.symm)
theorem BR.only {g' : Option Nat} (h : BR wr r s gr) (hf : OnlyB g' wr w') (ha : ApO gr g') (hr : g' ≠ some r) : BR w' r s gr :=
  h.same (hf.block r h.lt (fun e => hr e.symm)) fun k hk => hf.block k (h.glt hk) (fun e => ha k hk e.symm)
theorem BlR.rne (h : BlR w r s A T O v4 v5 v8 ga gt gr go wr) {v : Value} {g : Option Nat} {xs : List Value} (hs : Sl wr 5 v g xs) : g ≠ some r := by
  obtain ⟨x, hc, _⟩ := h.rd
  exact hc.ne hs (by decide)
theorem BlR.old (h : BlR w r s A T O v4 v5 v8 ga gt gr go wr) (hb : Below wr.heap.size wr w') : BlR w r s A T O v4 v5 v8 ga gt gr go w' :=
  ⟨h.rd.old hb, h.rn, h.sa.same fun k hk => hb.block k (h.sa.lt hk), h.st.same fun k hk => hb.block k (h.st.lt hk), h.so.same fun k hk => hb.block k (h.so.lt hk), h.na, h.nt, h.nr, h.no, h.at', h.ar, h.ao, h.tr, h.tow, h.ro, h.be.trans (hb.mono h.be.size)⟩
theorem ApO.new {a b : Option Nat} {n : Nat} (ha : ∀ k, a = some k → k < n) (hb : ∀ k, b = some k → n ≤ k) : ApO a b := fun k h1 h2 => by have := ha k h1; have := hb k h2; omega
/-- A part is copied. -/
theorem BlR.copy (h : BlR w r s A T O v4 v5 v8 ga gt gr go wr) {p : List Int} {vo : Value} {g : Option Nat} (hs : Sl w' 5 vo g (vals p)) (hg : ∀ k, g = some k → wr.heap.size ≤ k) (hb : Below wr.heap.size wr w') : BlR w r s A T p v4 v5 vo ga gt gr g w' := by
  have h' := h.old hb
  exact ⟨h'.rd, h'.rn, h'.sa, h'.st, hs, h.na, h.nt, h.nr, fun k hk => by have := hg k hk; have := h.be.size; omega, h.at', h.ar, ApO.new (fun k hk => h.sa.lt hk) hg, h.tr, ApO.new (fun k hk => h.st.lt hk) hg, ApO.new (fun k hk => h.rd.glt hk) hg, h'.be⟩
theorem ApO.or {g7 g b : Option Nat} {n : Nat} (h : ApO g b) (hg7 : g7 = g ∨ ∃ k, g7 = some k ∧ n ≤ k) (hb : ∀ k, b = some k → k < n) : ApO g7 b := by
  rcases hg7 with rfl | ⟨k, rfl, hk⟩
  · exact h
  · exact fun j hj e => by cases hj; have := hb _ e; omega
theorem new_or {g7 g : Option Nat} {n m : Nat} (h : ∀ k, g = some k → m ≤ k) (hg7 : g7 = g ∨ ∃ k, g7 = some k ∧ n ≤ k) (hnm : m ≤ n) : ∀ k, g7 = some k → m ≤ k := by
  intro k hk
  rcases hg7 with e | ⟨j, e, hj⟩
  · exact h k (by rw [← e, hk])
  · rw [e] at hk; cases hk; omega
/-- More bytes behind all. -/
theorem BlR.all (h : BlR w r s A T O v4 v5 v8 ga gt gr go wr) {ys : List Int} {v7 : Value} {g7 : Option Nat} (hs : Sl w' 5 v7 g7 (vals (A ++ ys))) (hg7 : g7 = ga ∨ ∃ k, g7 = some k ∧ wr.heap.size ≤ k) (hgr : wr.grownBy w' ga) : BlR w r s (A ++ ys) T O v7 v5 v8 g7 gt gr go w' := by
  have ho := OnlyB.grown hgr
  exact ⟨h.rd.only ho h.ar.symm (h.rne h.sa), h.rn, hs, h.st.only ho h.at'.symm, h.so.only ho h.ao.symm, new_or h.na hg7 h.be.size, h.nt, h.nr, h.no, h.at'.or hg7 (fun k hk => h.st.lt hk), h.ar.or hg7 (fun k hk => h.rd.glt hk), h.ao.or hg7 (fun k hk => h.so.lt hk), h.tr, h.tow, h.ro, OnlyB.below h.be ho h.na h.be.size⟩
/-- More is told. -/
theorem BlR.tell (h : BlR w r s A T O v4 v5 v8 ga gt gr go wr) {ys : List Int} {v7 : Value} {g7 : Option Nat} (hs : Sl w' 5 v7 g7 (vals (T ++ ys))) (hg7 : g7 = gt ∨ ∃ k, g7 = some k ∧ wr.heap.size ≤ k) (hgr : wr.grownBy w' gt) : BlR w r s A (T ++ ys) O v4 v7 v8 ga g7 gr go w' := by
  have ho := OnlyB.grown hgr
  exact ⟨h.rd.only ho h.tr.symm (h.rne h.st), h.rn, h.sa.only ho h.at', hs, h.so.only ho h.tow.symm, h.na, new_or h.nt hg7 h.be.size, h.nr, h.no, (h.at'.symm.or hg7 (fun k hk => h.sa.lt hk)).symm, h.ar, h.ao, h.tr.or hg7 (fun k hk => h.rd.glt hk), h.tow.or hg7 (fun k hk => h.so.lt hk), h.ro, OnlyB.below h.be ho h.nt h.be.size⟩
/-- The copy is given to the reader. -/
theorem BlR.push (h : BlR w r s A T O v4 v5 v8 ga gt gr go wr) {s' : Bs} {g' : Option Nat} (hr : BR w' r s' g') (hg' : g' = gr ∨ ∃ k, g' = some k ∧ wr.heap.size ≤ k) (hf : Fr wr w' r gr) : BlR w r s' A T O v4 v5 v8 ga gt g' go w' := by
  have hk : ∀ {v g xs}, Sl wr 5 v g xs → ApO g gr → Sl w' 5 v g xs := fun hs ha => hs.same fun k hk => hf.block k (hs.lt hk) (fun e => h.rne hs (by rw [hk, e])) (fun e => ha k hk e.symm)
  exact ⟨hr, h.rn, hk h.sa h.ar, hk h.st h.tr, hk h.so h.ro.symm, h.na, h.nt, new_or h.nr hg' h.be.size, h.no, h.at', (h.ar.symm.or hg' (fun k hk => h.sa.lt hk)).symm, h.ao, (h.tr.symm.or hg' (fun k hk => h.st.lt hk)).symm, h.tow, h.ro.or hg' (fun k hk => h.so.lt hk), Fr.below h.be hf h.rn h.nr h.be.size⟩
/-- The copy is written over. -/
theorem BlR.over (h : BlR w r s A T O v4 v5 v8 ga gt gr go wr) {O' : List Int} (hs : Sl w' 5 v8 go (vals O')) (ho : OnlyB go wr w') : BlR w r s A T O' v4 v5 v8 ga gt gr go w' :=
  ⟨h.rd.only ho h.ro (h.rne h.so), h.rn, h.sa.only ho h.ao, h.st.only ho h.tow, hs, h.na, h.nt, h.nr, h.no, h.at', h.ar, h.ao, h.tr, h.tow, h.ro, OnlyB.below h.be ho h.no h.be.size⟩
/-- The copy is let go. -/
theorem BlR.drop (h : BlR w r s A T O v4 v5 v8 ga gt gr go wr) : BlR w r s A T [] v4 v5 (.slice none 0 0) ga gt gr none wr :=
  ⟨h.rd, h.rn, h.sa, h.st, Sl.nil _ _, h.na, h.nt, h.nr, (by intro k hk; cases hk), h.at', h.ar, (ApO.none _).symm, h.tr, (ApO.none _).symm, (ApO.none _).symm, h.be⟩
end
end Go.Proofs.Ytkfokfjmdkondaa
