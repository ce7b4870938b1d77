/- Chunks that came in; whether their kinds and their lengths may be. -/
import Derived.Test.YtoofpkcgiodfcaaCn15
import Derived.Lib.AppendStr
import Derived.Lib.ConvBytes
import Derived.Lib.SmallJoins
namespace Go.Proofs.Ytoofpkcgiodfcaa
open Go.RowKit
structure Ck where
  kind : ByteArray
  a : Option Addr
  c : Nat
  z : List Int
def Ck.pt (q : Ck) : Pt := ⟨q.a, q.c, q.z⟩
def CkArg (W : World) (a : Option Addr) (len cap : Nat) (F : Nat → Ck) : Prop :=
  len ≤ cap ∧ cap ≤ maxLen ∧ (0 < len → ∃ b off, a = some ⟨b, off, none⟩ ∧ ∀ i, i < len → W.cell? ⟨b, off + i * 2, none⟩ = some (.string (F i).kind) ∧ W.cell? ⟨b, off + i * 2 + 1, none⟩ = some (.slice (F i).a (F i).z.length (F i).c) ∧ PtOk W (F i).pt)
theorem PtOk.old {w w' : World} {q : Pt} (h : PtOk w q) (hb : Below w.heap.size w w') : PtOk w' q := ⟨h.1, h.2.1, h.2.2.1, h.2.2.2.1, h.2.2.2.2.old hb⟩
theorem CkArg.old {W W' : World} {a : Option Addr} {len cap : Nat} {F : Nat → Ck} (h : CkArg W a len cap F) (hb : Below W.heap.size W W') : CkArg W' a len cap F := by
  refine ⟨h.1, h.2.1, fun hl => ?_⟩
  obtain ⟨b, off, e, hc⟩ := h.2.2 hl
  refine ⟨b, off, e, fun i hi => ?_⟩
  obtain ⟨h1, h2, h3⟩ := hc i hi
  have hlt : b < W.heap.size := cell_lt h1
  exact ⟨(World.cell?_of_block (a := ⟨b, off + i * 2, none⟩) (hb.block b hlt)).trans h1, (World.cell?_of_block (a := ⟨b, off + i * 2 + 1, none⟩) (hb.block b hlt)).trans h2, h3.old hb⟩
def sumL (F : Nat → Ck) : Nat → Nat
  | 0 => 0
  | k + 1 => sumL F k + (F k).z.length
theorem sumL_le (F : Nat → Ck) : ∀ {j k : Nat}, j ≤ k → sumL F j ≤ sumL F k
  | j, 0, h => by obtain rfl : j = 0 := by omega
                  exact Nat.le_refl _
  | j, k + 1, h => by
    by_cases hj : j = k + 1
    · rw [hj]; exact Nat.le_refl _
    · have := sumL_le F (show j ≤ k by omega)
      rw [sumL]; omega
theorem sumL_at (F : Nat → Ck) {j k : Nat} (h : j < k) : (F j).z.length ≤ sumL F k := by
  have := sumL_le F (show j + 1 ≤ k by omega)
  rw [sumL] at this
  omega
def okK (F : Nat → Ck) (k : Nat) : Prop := ∀ i, i < k → isK (kb (F i).kind) = true
set_option maxHeartbeats 3200000 in
set_option maxRecDepth 20000 in
theorem fits_any (a : Option Addr) (len cap : Nat) (F : Nat → Ck) (w : World) (hl : len ≤ 101) (hs : sumL F len ≤ 5000) (h : CkArg w a len cap F) :
    Calls Try.prog 25 #[.slice a len cap] w fun e w' => e = .returned (.bool true) ∧ Below w.heap.size w w' := by
  have HA : Hid (CkArg w a len cap F) := h
  have HS : Hid (sumL F len ≤ 5000 ∧ len ≤ 101) := ⟨hs, hl⟩
  clear h hs
  go_enter Try.func25, Try.ntmps25
  go_wp2
  go_loopw [3, 5, 8] (fun r _ t wr => ∃ k : Nat, k ≤ len ∧ t = .int .i64 k ∧ Hid (r = .int .i64 (1048568 - (12 * (k : Int) + (sumL F k : Int))) ∧ Below w.heap.size w wr)) (fun _ _ t _ => len - (intOf t).toNat)
  case atStart => exact ⟨0, Nat.zero_le _, rfl, rfl, Below.refl _ _⟩
  case round =>
    obtain ⟨k, hk, rfl, H⟩ := hrel
    obtain ⟨rfl, hb⟩ := H.out
    by_cases hlt : k < len
    · obtain ⟨b, off, rfl, hc⟩ := HA.out.2.2 (by omega)
      obtain ⟨h1, h2, h3⟩ := hc k hlt
      have hbl : b < w.heap.size := cell_lt h1
      have k1 : wr.cell? ⟨b, off + k * 2, none⟩ = some (.string (F k).kind) := (World.cell?_of_block (a := ⟨b, off + k * 2, none⟩) (hb.block b hbl)).trans h1
      have k2 : wr.cell? ⟨b, off + k * 2 + 1, none⟩ = some (.slice (F k).a (F k).z.length (F k).c) := (World.cell?_of_block (a := ⟨b, off + k * 2 + 1, none⟩) (hb.block b hbl)).trans h2
      have hsl : (sumL F (k + 1) : Nat) = sumL F k + (F k).z.length := rfl
      have hs2 := sumL_le F (show k + 1 ≤ len by omega)
      have hs1 := HS.out
      obtain ⟨S, hS⟩ : ∃ S, sumL F k = S := ⟨_, rfl⟩
      obtain ⟨Z, hZ⟩ : ∃ Z, (F k).z.length = Z := ⟨_, rfl⟩
      have HB : Hid (Below w.heap.size w wr ∧ sumL F (k + 1) = S + Z) := ⟨hb, by rw [hsl, hS, hZ]⟩
      have hSZ : S + Z ≤ 5000 := by omega
      rw [hS]
      rw [hZ] at k2
      clear h1 h2 h3 hc hb hsl hs2 hs1 hS hZ
      generalize (F k).kind = kd at *
      generalize (F k).a = fa at *
      generalize (F k).c = fc at *
      go_wp2
      go_roundw
      case rel => exact ⟨k + 1, by omega, by go_num, by rw [HB.out.2]; congr 1; omega, HB.out.1.alloc (by have := HB.out.1.size; omega) _⟩
      case measure => simp [intOf]; omega
    · have HB : Hid (Below w.heap.size w wr) := hb
      clear hb
      go_wp2
      go_ret
      exact ⟨rfl, HB.out⟩
def chB (kind : List Int) (z : List Int) : List Int := (octs z.length 4).reverse ++ (kind ++ (z ++ (octs ((crcM (BitVec.ofNat 32 0) (kind ++ z)).toNat : Int) 4).reverse))
def packB (F : Nat → Ck) : Nat → List Int
  | 0 => first8
  | k + 1 => packB F k ++ chB (kb (F k).kind) (F k).z
theorem octs_len (v : Int) (n : Nat) : (octs v n).length = n := by simp [octs]
theorem octs_bytes (v : Int) (n : Nat) : Bytes (octs v n) := by
  intro z hz
  simp only [octs, List.mem_map] at hz
  obtain ⟨i, _, rfl⟩ := hz
  have := oct_byte v i
  omega
theorem bytes_rev {l : List Int} (h : Bytes l) : Bytes l.reverse := fun z hz => h z (List.mem_reverse.1 hz)
theorem chB_len (k z : List Int) : (chB k z).length = 8 + k.length + z.length := by unfold chB; simp [octs_len]; omega
theorem chB_bytes {k z : List Int} (hk : Bytes k) (hz : Bytes z) : Bytes (chB k z) := (bytes_rev (octs_bytes _ _)).app (hk.app (hz.app (bytes_rev (octs_bytes _ _))))
theorem packB_len (F : Nat → Ck) (k : Nat) (h : okK F k) : (packB F k).length = 8 + 12 * k + sumL F k := by
  induction k with
  | zero => rfl
  | succ k ih =>
    have hk := h k (by omega)
    have h4 : (kb (F k).kind).length = 4 := by simp only [isK, Bool.and_eq_true, decide_eq_true_eq] at hk; exact hk.1
    rw [packB, List.length_append, ih (fun i hi => h i (by omega)), chB_len, h4, sumL]
    omega
/-- Bytes put behind a row of the call's own. -/
theorem own_more {w : World} {ops : Array Oper} {rest : List Oper} {o : Oper} {a : Act} {Q : Exit → Act → World → Prop} (hgd : o.guard = none) (s x : Operand)
    (ho : o.op = .call { callee := .builtin .append, args := #[s, x], argTypes := #[26, 26] })
    (B : Nat) (v : Value) (zs : List Int) (hs : a.eval s = v) (hown : w.ownsRow B 5 1 v zs.length (vals zs))
    (ad : Option Addr) (m c : Nat) (ys : List Int) (hx : a.eval x = .slice ad m c) (hc : ad = none → c = 0) (hm : ys.length = m) (hr : Row w ad ys) (hlen : zs.length + m ≤ 140737488351232) (hB : B ≤ w.heap.size)
    (h : ∀ v' w', w'.ownsRow B 5 1 v' (zs ++ ys).length (vals (zs ++ ys)) → w.grownBy w' v.ownBlock → wpList Try.prog ops Q rest (a.put o.dst v') w') : wpList Try.prog ops Q (o :: rest) a w := by
  obtain ⟨i0, hi, hz0, hz1, hz2⟩ := info_parts Try.info5
  cases ad with
  | none =>
    have hb : ys = [] := by
      rcases hr with h | ⟨b, off, h, _⟩
      · exact h
      · cases h
    have hc0 := hc rfl
    subst hb hc0
    simp at hm
    subst hm
    obtain ⟨g, hsl, _⟩ := Sl.of_owns hown
    obtain ⟨a', c', hv, hle, _⟩ := hsl.shape
    rw [hv] at hs
    refine wpList_append_sl_none hgd s x 26 ho 5 i0 Try.underlying26 hi _ _ _ hs hle hx ?_
    rw [← hv]
    exact h v w (by simpa using hown) ⟨rfl, rfl, rfl, Nat.le_refl _, fun _ _ _ => rfl⟩
  | some y =>
    refine wpList_append_own w hgd s x 26 ho B 5 i0 (.int .u8 0) 1 1 Try.underlying26 hi hz0 hz1 hz2 rfl (by decide) v zs.length (vals zs) hs hown y m c (vals ys) hx (by rw [vals_len]; omega) (news_row hr) (vals_one ys) (by unfold maxLen; omega) (by omega) hB ?_
    intro v' w' h1 h2 _
    refine h v' w' ?_ h2
    rw [List.length_append, vals_append, hm]
    exact h1
/-- Some bytes put behind a full row. -/
theorem own_full {w : World} {ops : Array Oper} {rest : List Oper} {o : Oper} {a : Act} {Q : Exit → Act → World → Prop} (hgd : o.guard = none) (s x : Operand)
    (ho : o.op = .call { callee := .builtin .append, args := #[s, x], argTypes := #[26, 26] })
    (B b n : Nat) (zs : List Int) (hs : a.eval s = .slice (some ⟨b, 0, none⟩) n n) (hn : zs.length = n) (hz : Row w (some ⟨b, 0, none⟩) zs)
    (ad : Option Addr) (m c : Nat) (ys : List Int) (hx : a.eval x = .slice ad m c) (hm : ys.length = m) (h0 : 0 < m) (hr : Row w ad ys) (hlen : zs.length + m ≤ 140737488351232) (hB : B ≤ w.heap.size)
    (h : ∀ v' w', w'.ownsRow B 5 1 v' (zs ++ ys).length (vals (zs ++ ys)) → w.grownBy w' none → wpList Try.prog ops Q rest (a.put o.dst v') w') : wpList Try.prog ops Q (o :: rest) a w := by
  obtain ⟨i0, hi, hz0, hz1, hz2⟩ := info_parts Try.info5
  obtain ⟨y, rfl⟩ : ∃ y, ad = some y := by
    rcases hr with hr | ⟨b, o, e, _⟩
    · rw [hr] at hm; simp at hm; omega
    · exact ⟨_, e⟩
  refine wpList_append_arg w hgd s x 26 ho 5 i0 (.int .u8 0) 1 1 Try.underlying26 hi hz0 hz1 hz2 rfl (by decide) b 0 n n (vals zs) hs (by rw [vals_len]; omega) ?_ y m c (vals ys) hx (by rw [vals_len]; omega) (news_row hr) (vals_one ys) (by intro hh; omega) (by unfold maxLen; omega) (by omega) (by intro hh; omega) ?_
  · intro j u hj
    have := news_row hz j u hj
    rw [Addr.add_lit] at this
    exact this
  · intro _ v' w' h1 h2
    refine h v' w' ?_ h2
    rw [List.length_append, vals_append, hn, hm]
    exact ⟨h1.1, h1.2.elim .inl (fun ⟨g, cap, cur, hv, hg, r⟩ => .inr ⟨g, cap, cur, hv, Nat.le_trans hB hg, r⟩)⟩
theorem strCells_kb (s : ByteArray) : Lib.strCells s = vals (kb s) := by unfold Lib.strCells vals kb; rw [List.map_map]; rfl
/-- A text's bytes put behind a row of the call's own. -/
theorem own_text {w : World} {ops : Array Oper} {rest : List Oper} {o : Oper} {a : Act} {Q : Exit → Act → World → Prop} (hgd : o.guard = none) (s x : Operand)
    (ho : o.op = .call { callee := .builtin .append, args := #[s, x], argTypes := #[26, 9] })
    (B : Nat) (v : Value) (zs : List Int) (hs : a.eval s = v) (hown : w.ownsRow B 5 1 v zs.length (vals zs))
    (t : ByteArray) (hx : a.eval x = .string t) (hlen : zs.length + t.size ≤ 140737488351232) (hB : B ≤ w.heap.size)
    (h : ∀ v' w', w'.ownsRow B 5 1 v' (zs ++ kb t).length (vals (zs ++ kb t)) → w.grownBy w' v.ownBlock → wpList Try.prog ops Q rest (a.put o.dst v') w') : wpList Try.prog ops Q (o :: rest) a w := by
  obtain ⟨i0, hi, hz0, hz1, hz2⟩ := info_parts Try.info5
  refine Lib.wpList_append_own_string w hgd s x 26 9 ho B 5 i0 Try.underlying26 Try.underlying9 hi hz0 hz1 hz2 v zs.length (vals zs) hs hown t hx (by unfold maxLen; omega) (by omega) hB ?_
  intro v' w' h1 h2 _
  refine h v' w' ?_ h2
  rw [List.length_append, vals_append, kb_len, ← strCells_kb]
  exact h1
theorem own_blk {w : World} {B e : Nat} {v : Value} {n : Nat} {xs : List Value} (h : w.ownsRow B e 1 v n xs) : ∀ k, v.ownBlock = some k → B ≤ k := fun k hk => (h.lt k hk).1
end Go.Proofs.Ytoofpkcgiodfcaa
