/- LZW: bytes pushed in pieces: the law's own loop. -/
import Derived.Test.YtcbmlioeeoghkaaLzV
import Derived.Test.YtcbmlioeeoghkaaRwC
import Derived.Deep.DeepCutAuto
import Derived.Deep.CutBlock
import Derived.Deep.RegionLaw
namespace Go.Proofs.Ytcbmlioeeoghkaa
open Go.RowKit
theorem lzG_none {L : Nat} (hL : L ≤ 8) : ∀ (n : Nat) (s : Lz), lzB s < n → (lzG L s).k = 0 → lzS L (lzG L s) = none
  | 0, _, h, _ => by omega
  | n + 1, s, h, hk => by
    by_cases h0 : s.k = 0
    · cases hs : lzS L s with
      | none => rw [lzG_stop (.inr hs)]; exact hs
      | some t =>
        rw [lzG_step hL h0 hs] at hk ⊢
        by_cases ht : t.k = 0
        · exact lzG_none hL n t (by have := lzS_dec hL hs ht; omega) hk
        · rw [lzG_stop (.inl ht)] at hk; exact absurd hk ht
    · rw [lzG_stop (.inl h0)] at hk; exact absurd hk h0
theorem lzC_gone {L : Nat} {s : Lz} {c : Nat} (h : s.gone < 8) : (lzC L s c).gone < 8 := by
  unfold lzC
  split
  · exact h
  split
  · exact Nat.zero_lt_succ _
  split
  · exact Nat.zero_lt_succ _
  · unfold lzT
    split
    · exact h
    · exact Nat.zero_lt_succ _
theorem lzG_gone {L : Nat} (hL : L ≤ 8) (s : Lz) (h : s.gone < 8) : (lzG L s).gone < 8 :=
  lzG_ind hL (fun t => t.gone < 8) (fun a b _ _ e => by
    unfold lzS at e
    split at e
    · cases e
    · injection e with e; subst e
      exact lzC_gone (s := lzP a _) (Nat.mod_lt _ (by decide))) _ s (Nat.lt_succ_self _) h
theorem lzG_small {L : Nat} (hL : L ≤ 8) (s : Lz) (h : s.gone < 8) (hk : (lzG L s).k = 0) : (lzG L s).zs.length ≤ 2 := by
  have h1 := lzG_none hL _ s (Nat.lt_succ_self _) hk
  have h2 := lzG_gone hL s h
  unfold lzS at h1
  split at h1
  · rename_i h3
    have := (widN_le L (fcN L + (lzG L s).fs.length) hL).2
    have e : lzW L (lzG L s) = widN L (fcN L + (lzG L s).fs.length) := rfl
    omega
  · cases h1
theorem lzC_rest {L : Nat} {s : Lz} {c : Nat} (h : s.rest = []) : (lzC L s c).rest.length + (lzC L s c).zs.length ≤ s.zs.length := by
  unfold lzC
  split
  · simp [h]
  split
  · simp only [List.length_nil, Nat.add_zero]
    split
    · exact Nat.le_refl _
    · rw [List.length_drop]; omega
  split
  · simp [lzF, h]
  · unfold lzT
    split
    · simp [h]
    · simp [lzF, h]
theorem lzG_rest {L : Nat} (hL : L ≤ 8) (s : Lz) (h : s.rest = [] ∨ s.k ≠ 0) (n : Nat) (hn : s.rest.length + s.zs.length ≤ n) : (lzG L s).rest.length + (lzG L s).zs.length ≤ n := by
  refine (lzG_ind hL (fun t => t.rest.length + t.zs.length ≤ n ∧ (t.rest = [] ∨ t.k ≠ 0)) (fun a b ha hk e => ?_) _ s (Nat.lt_succ_self _) ⟨hn, h⟩).1
  have hr : a.rest = [] := by rcases ha.2 with h | h; exact h; exact absurd hk h
  unfold lzS at e
  split at e
  · cases e
  · injection e with e; subst e
    have h1 := lzC_rest (L := L) (s := lzP a (lzW L a)) (c := lzV a (lzW L a)) hr
    have h2 : (lzP a (lzW L a)).zs.length ≤ a.zs.length := by show (a.zs.drop _).length ≤ _; rw [List.length_drop]; omega
    refine ⟨by have := ha.1; omega, ?_⟩
    unfold lzC
    split
    · exact .inl hr
    split
    · exact .inr (by show (1 : Nat) ≠ 0; decide)
    split
    · exact .inl hr
    · unfold lzT
      split
      · exact .inl hr
      · exact .inl hr
theorem lzC_room {L : Nat} {s : Lz} {c : Nat} : (lzC L s c).out.length + (lzC L s c).left = s.out.length + s.left := by
  unfold lzC
  split
  · rfl
  split
  · rfl
  split
  · rfl
  · unfold lzT
    split
    · simp only [List.length_append]; omega
    · simp only [lzF, List.length_append, List.length_take]; omega
theorem lzG_room {L : Nat} (hL : L ≤ 8) (s : Lz) : (lzG L s).out.length + (lzG L s).left = s.out.length + s.left :=
  lzG_ind hL (fun t => t.out.length + t.left = s.out.length + s.left) (fun a b h _ e => by
    unfold lzS at e
    split at e
    · cases e
    · injection e with e; subst e
      exact (lzC_room (s := lzP a _)).trans h) _ s (Nat.lt_succ_self _) rfl
/-- What bytes tell. -/
def lzO (L n : Nat) (bs : List Int) : Lz := lzG L ((lz0 n).fed bs)
theorem lzO_nil {L : Nat} (hL : L ≤ 8) (n : Nat) : lzO L n [] = lz0 n := by
  have h0 : lzS L (lz0 n) = none := by
    unfold lzS
    rw [if_pos]
    have := (widN_le L (fcN L + 0) hL).1
    show 8 * 0 < 0 + widN L (fcN L + 0)
    omega
  unfold lzO
  rw [fed_nil, lzG_stop (.inr h0)]
theorem lzO_more {L : Nat} (hL : L ≤ 8) (n : Nat) (bs m : List Int) : lzG L ((lzO L n bs).fed m) = lzO L n (bs ++ m) := by
  unfold lzO
  rw [lzG_fed hL, fed_fed]
theorem lzO_zs {L : Nat} (hL : L ≤ 8) (n : Nat) (bs : List Int) (hk : (lzO L n bs).k = 0) : (lzO L n bs).zs.length ≤ 2 := by
  refine lzG_small hL _ ?_ hk
  show 0 < 8
  decide
theorem lzO_rest {L : Nat} (hL : L ≤ 8) (n : Nat) (bs : List Int) : (lzO L n bs).rest.length ≤ bs.length := by
  have := lzG_rest hL ((lz0 n).fed bs) (.inl rfl) bs.length (by show 0 + ([] ++ bs).length ≤ _; simp)
  unfold lzO; omega
theorem lzO_out {L : Nat} (hL : L ≤ 8) (n : Nat) (bs : List Int) : (lzO L n bs).out.length ≤ n := by
  have := lzG_room hL ((lz0 n).fed bs)
  have e : ((lz0 n).fed bs).out.length + ((lz0 n).fed bs).left = n := by show 0 + n = n; omega
  unfold lzO; omega
theorem lzO_rests {L : Nat} (hL : L ≤ 8) (n : Nat) (bs : List Int) (h : bs.length ≤ 140737488351232) : ∀ t, t ≤ bs.length → (lzO L n (bs.take t)).k = 1 → (lzO L n (bs.take t)).rest.length + (bs.length - t) ≤ 140737488351232 := by
  intro t ht _
  have := lzO_rest hL n (bs.take t)
  rw [List.length_take] at this
  omega
/-- Behind an error nothing changes. -/
theorem lzO_err {L : Nat} (hL : L ≤ 8) (n : Nat) (bs m : List Int) (hk : (lzO L n bs).k = 2) : lzO L n (bs ++ m) = lzO L n bs := by
  rw [← lzO_more hL]
  have : (lzO L n bs).fed m = lzO L n bs := by unfold Lz.fed; rw [if_neg (by omega), if_neg (by omega)]
  rw [this, lzG_stop (.inl (by omega))]
/-- Between two rounds: t bytes are pushed. -/
structure LaR (w : World) (bs : List Int) (L n D t : Nat) (S : Nat → Prop) (ar : Option Addr) (cr : Nat) (out : Value) (g : Option Nat) (wr : World) : Prop where
  tle : t ≤ bs.length
  cle : bs.length - t ≤ cr
  cm : cr ≤ 9223372036854775807
  c0 : ar = none → cr = 0
  row : Row w ar (bs.drop t)
  mem : LMem w.heap.size wr D L (lzO L n (bs.take t)) S
  sl : Sl wr 5 out g (vals (lzO L n (bs.take t)).out)
  new : ∀ k, g = some k → w.heap.size ≤ k ∧ ¬ S k
  be : Below w.heap.size w wr
def LaPost (w : World) (bs : List Int) (L n : Nat) (e : Ending) (w' : World) : Prop :=
  ∃ S d v g, e = .returned (.tuple #[v, .int .i64 (lzO L n bs).er, .pointer (some ⟨d, 0, none⟩)]) ∧ LMem w.heap.size w' d L (lzO L n bs) S ∧ Sl w' 5 v g (vals (lzO L n bs).out) ∧ (∀ k, g = some k → w.heap.size ≤ k) ∧ Below w.heap.size w w'
section
variable {w : World} {bs : List Int} {L n D t : Nat} {S : Nat → Prop} {ar : Option Addr} {cr : Nat} {out : Value} {g : Option Nat} {wr : World}
theorem LaR.push (h : LaR w bs L n D t S ar cr out g wr) (hL : 2 ≤ L ∧ L ≤ 8) (hby : Bytes bs) (hrs : ∀ t, t ≤ bs.length → (lzO L n (bs.take t)).k = 1 → (lzO L n (bs.take t)).rest.length + (bs.length - t) ≤ 140737488351232) (k : Nat) (hk : t + k ≤ bs.length) (hk2 : k ≤ 900000) :
    Calls Try.prog 11 #[.pointer (some ⟨D, 0, none⟩), .slice ar k cr] wr fun e w' => LuPost w.heap.size wr D L (lzO L n (bs.take t)) ((bs.drop t).take k) S e w' := by
  have hrw := h.row.take k
  refine lpush_any hL h.mem ((bs.drop t).take k) ar k cr (by rw [List.length_take, List.length_drop]; omega) h.c0 (hrw.old h.be) (fun x hx => hby x (List.mem_of_mem_drop (List.mem_of_mem_take hx))) (fun h0 => ?_) (fun h1 => ?_)
  · have := lzO_zs hL.2 n (bs.take t) h0; omega
  · have := hrs t h.tle h1; omega
/-- A round. -/
theorem LaR.step (h : LaR w bs L n D t S ar cr out g wr) {k : Nat} (hk : t + k ≤ bs.length) {S' : Nat → Prop} {T : List Int} {w2 w3 : World} {v' : Value} {g' : Option Nat} (hm : LMem w.heap.size w2 D L (lzO L n (bs.take (t + k))) S') (hT : (lzO L n (bs.take (t + k))).out = (lzO L n (bs.take t)).out ++ T) (hS : ∀ k, S' k → S k ∨ wr.heap.size ≤ k) (hf : LFr S wr w2)
    (hs3 : Sl w3 5 v' g' (vals ((lzO L n (bs.take t)).out ++ T))) (hg3 : g' = g ∨ ∃ k, g' = some k ∧ w2.heap.size ≤ k) (hgr : w2.grownBy w3 g) :
    LaR w bs L n D (t + k) S' (if cr = k then ar else Option.map (fun x => x.add k) ar) (cr - k) v' g' w3 := by
  have hgl : ∀ j, g = some j → j < wr.heap.size := fun j hj => h.sl.lt hj
  have hgS : ∀ j, g = some j → ¬ S' j := by
    intro j hj hS'
    rcases hS j hS' with e | e
    · exact (h.new j hj).2 e
    · have := hgl j hj; omega
  have hb2 : Below w.heap.size w w2 := ⟨hf.os.trans h.be.os, hf.tape.trans h.be.tape, hf.output.trans h.be.output, Nat.le_trans h.be.size hf.size, fun j hj => (hf.block j (by have := h.be.size; omega) (fun e => by have := (h.mem.sb j e).1; omega)).trans (h.be.block j hj)⟩
  refine ⟨hk, by have := h.cle; omega, by have := h.cm; omega, ?_, ?_, hm.grow hgr hgS, by rw [hT]; exact hs3, ?_, hb2.grown hgr hb2.size (fun j hj => (h.new j hj).1)⟩
  · intro e
    by_cases hc : cr = k
    · omega
    · rw [if_neg hc] at e
      cases ar with
      | none => have := h.c0 rfl; omega
      | some y => simp at e
  · have := h.row.cut k cr (by rw [List.length_drop]; omega) (by rw [List.length_drop]; exact h.cle)
    rwa [List.drop_drop] at this
  · intro j hj
    rcases hg3 with e | ⟨j', e, hj'⟩
    · exact ⟨(h.new j (by rw [← e, hj])).1, hgS j (by rw [← e, hj])⟩
    · rw [e] at hj; cases hj
      exact ⟨by have := hb2.size; omega, fun e2 => by have := (hm.sb _ e2).2; omega⟩
theorem LaR.fin (h : LaR w bs L n D t S ar cr out g wr) (hL : 2 ≤ L ∧ L ≤ 8) (he : (lzO L n (bs.take t)).er ≠ 0 ∨ t = bs.length) : LaPost w bs L n (.returned (.tuple #[out, .int .i64 (lzO L n (bs.take t)).er, .pointer (some ⟨D, 0, none⟩)])) wr := by
  have e : lzO L n bs = lzO L n (bs.take t) := by
    rcases he with he | he
    · obtain ⟨B, r, g, hle⟩ := h.mem.le
      have := lzO_err hL.2 n (bs.take t) (bs.drop t) (hle.cells.2.2.2.2 he)
      rwa [List.take_append_drop] at this
    · rw [he, List.take_length]
  refine ⟨S, D, out, g, by rw [e], by rw [e]; exact h.mem, by rw [e]; exact h.sl, fun k hk => (h.new k hk).1, h.be⟩
end
end Go.Proofs.Ytcbmlioeeoghkaa
