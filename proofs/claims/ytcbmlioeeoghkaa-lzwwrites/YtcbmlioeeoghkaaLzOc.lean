/- LZW, the document's: what holds between two codes. -/
import Derived.Test.YtcbmlioeeoghkaaLzOb
import Derived.Test.YtcbmlioeeoghkaaStepL
namespace Go.Proofs.Ytcbmlioeeoghkaa
open Go.RowKit
theorem Try.info22 : (Try.prog.info? 22).map (fun i => (i.zero, i.size, i.bytes)) = some (some (.slice none 0 0), 1, 24) := by kernel_rfl
/-- 'append(table, text)'. -/
theorem wpList_push_row {w : World} {ops : Array Oper} {rest : List Oper} {o : Oper} {a : Act} {Q : Exit → Act → World → Prop} (hgd : o.guard = none) (s x : Operand)
    (ho : o.op = .call { callee := .builtin .append, args := #[s, x], argTypes := #[59, 59] })
    (v : Value) (g : Option Nat) (vs : List Value) (hs : a.eval s = v) (hsl : Sl w 22 v g vs) (b c : Nat) (u : Value) (hx : a.eval x = .slice (some ⟨b, 0, none⟩) 1 c) (hcell : w.cell? ⟨b, 0, none⟩ = some u) (hone : u.oneCell' = true) (hlen : vs.length ≤ 1000000)
    (h : ∀ v' w' g', Sl w' 22 v' g' (vs ++ [u]) → (g' = g ∨ ∃ k, g' = some k ∧ w.heap.size ≤ k) → w.grownBy w' g → wpList Try.prog ops Q rest (a.put o.dst v') w') : wpList Try.prog ops Q (o :: rest) a w := by
  obtain ⟨i0, hi, hz0, hz1, hz2⟩ := info_parts Try.info22
  refine wpList_append_sl hgd s x 59 ho 22 i0 (.slice none 0 0) 24 Try.underlying59 hi hz0 hz1 hz2 rfl v g vs hs hsl ⟨b, 0, none⟩ 1 c [u] hx rfl ?_ (fun y hy => by simp at hy; subst hy; exact hone) (by omega) (by unfold maxLen; omega) h
  intro j y hj
  match j, hj with
  | 0, hj => simp at hj; subst hj; rw [Addr.add_lit]; simpa using hcell
theorem Sl.tagB9 {w : World} {e : TypeId} {v : Value} {g : Option Nat} {xs : List Value} (h : Sl w e v g xs) {k : Nat} (hk : g = some k) : ∃ c, w.heap[k]? = some (.cells c e (0, 0)) := by
  rcases h with ⟨_, h, _⟩ | ⟨b, off, cp, cur, _, h, hb, _⟩
  · rw [h] at hk; cases hk
  · rw [h] at hk; cases hk; exact ⟨cur, hb⟩
/-- What codes tell, in memory. -/
def OfP (w : World) (s : Lz) (e : Ending) (w' : World) : Prop :=
  ∃ ao co ar cr, e = .returned (.agg #[.slice ao s.out.length co, .slice ar s.rest.length cr, .int .i64 (if s.k = 0 then 2 else s.er), .bool (s.k == 1)]) ∧ Row w' ao s.out ∧ Row w' ar s.rest ∧ s.out.length ≤ co ∧ co ≤ 9223372036854775807 ∧ (ao = none → co = 0) ∧ Below w.heap.size w w'
structure OfR (w : World) (L P6 P11 : Nat) (lim : Nat) (zs : List Int) (P : Nat) (fs : List Tx) (ah : Int) (out : List Int) (lv tv ov : Value) (lg tg og : Option Nat) (wr : World) : Prop where
  r6 : wr.heap[P6]? = some (.cells #[.slice none 0 0, .slice none 0 0, .int .i64 0, .bool false] 30 (0, 0))
  r11 : wr.heap[P11]? = some (.cells #[ov, .slice none 0 0, .int .i64 0, .bool false] 30 (0, 0))
  osl : Sl wr 5 ov og (vals out)
  lsl : Sl wr 3 lv lg (ivals ((bitsL zs).drop P))
  tb : TbM w.heap.size wr tv tg og (fcN L + fs.length) (txC L fs)
  be : Below w.heap.size w wr
  pb : w.heap.size ≤ P6 ∧ w.heap.size ≤ P11 ∧ P6 ≠ P11
  on : ∀ k, og = some k → w.heap.size ≤ k
  pn : P ≤ 8 * zs.length
  wf : WfT L fs
  ct : fcN L + fs.length ≤ 4096
  ahd : ah = -1 ∨ ∃ A : Nat, ah = (A : Int) ∧ A < fcN L + fs.length
  ol : out.length ≤ lim
  go : lzO L lim zs = lzG L (lzAt zs P (lim - out.length) fs ah out)
theorem chunk_bitsL {zs : List Int} (h : Bytes zs) : chunkL (bitsL zs) zs.length = zs := by
  refine litN_inj (chunkL_bytes (bitsL_bit zs) _) h (chunkL_len _ _) ?_
  rw [litN_chunk _ _ (by rw [bitsL_len]; omega), List.take_of_length_le (by rw [bitsL_len]; omega), binN_bitsL h]
theorem bits_num {zs : List Int} (h : Bytes zs) (P W : Nat) (hp : P + W ≤ 8 * zs.length) : binN (((bitsL zs).drop P).take W) = litN zs / 2 ^ P % 2 ^ W := by
  rw [binN_taken ((bitsL_bit zs).drop P) W (by rw [List.length_drop, bitsL_len]; omega), binN_dropn (bitsL_bit zs) P (by rw [bitsL_len]; omega), binN_bitsL h]
end Go.Proofs.Ytcbmlioeeoghkaa
