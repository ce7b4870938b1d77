/- Words one behind the other: plain lists; a word put. -/
import Derived.Test.YtjellgkojmgmjaaHkA
import Derived.Test.YtjellgkojmgmjaaPut
namespace Go.Proofs.Ytjellgkojmgmjaa
open Go.RowKit

theorem binN_inj : ∀ {l m : List Int}, Bit l → Bit m → l.length = m.length → binN l = binN m → l = m
  | [], [], _, _, _, _ => rfl
  | [], _ :: _, _, _, h, _ => by simp at h
  | _ :: _, [], _, _, h, _ => by simp at h
  | x :: r, y :: q, h1, h2, hl, he => by
    have a1 := h1 x (by simp)
    have a2 := h2 y (by simp)
    simp only [binN] at he
    have e1 : x = y := by omega
    have e2 : r = q := binN_inj (fun z hz => h1 z (by simp [hz])) (fun z hz => h2 z (by simp [hz])) (by simpa using hl) (by omega)
    rw [e1, e2]
/-- The words of symbols, one behind the other. -/
def cat (ns : List Nat) (ss : List Nat) : List Int := ss.flatMap fun s => mb (hv ns s) (hn ns s)
theorem cat_snoc (ns ss : List Nat) (s : Nat) : cat ns (ss ++ [s]) = cat ns ss ++ mb (hv ns s) (hn ns s) := by simp [cat]
theorem cat_bit (ns ss : List Nat) : Bit (cat ns ss) := by
  intro z hz
  simp only [cat, List.mem_flatMap] at hz
  obtain ⟨s, _, h⟩ := hz
  exact mb_bit _ _ z h
theorem cat_len {ns : List Nat} (hc : Cd ns) : ∀ ss, (cat ns ss).length ≤ 15 * ss.length
  | [] => by simp [cat]
  | s :: r => by
    have h1 : cat ns (s :: r) = mb (hv ns s) (hn ns s) ++ cat ns r := by simp [cat]
    have := cat_len hc r
    have := hc.le s
    rw [h1, List.length_append, mb_len, List.length_cons]; omega
theorem cat_split (ns ss : List Nat) (k : Nat) (hk : k < ss.length) : cat ns ss = cat ns (ss.take k) ++ (mb (hv ns (ss[k]?.getD 0)) (hn ns (ss[k]?.getD 0)) ++ cat ns (ss.drop (k + 1))) := by
  have e : ss = ss.take k ++ (ss[k]?.getD 0 :: ss.drop (k + 1)) := by
    rw [List.getElem?_eq_getElem hk]
    show ss = ss.take k ++ (ss[k] :: ss.drop (k + 1))
    rw [← List.drop_eq_getElem_cons hk, List.take_append_drop]
  have h1 : ∀ x y, cat ns (x ++ y) = cat ns x ++ cat ns y := fun x y => by simp [cat]
  have h2 : ∀ x y, cat ns (x :: y) = mb (hv ns x) (hn ns x) ++ cat ns y := fun x y => by simp [cat]
  generalize ss[k]?.getD 0 = x at e ⊢
  generalize ss.drop (k + 1) = q at e ⊢
  generalize ss.take k = p at e ⊢
  rw [e, h1, h2]
/-- The k-th word begins what is left behind the k first. -/
theorem cat_begins {ns ss : List Nat} {LB : List Int} (hLB : LB.take (cat ns ss).length = cat ns ss) (k : Nat) (hk : k < ss.length) : bgB (mb (hv ns (ss[k]?.getD 0)) (hn ns (ss[k]?.getD 0))) (LB.drop (cat ns (ss.take k)).length) = true := by
  have e := cat_split ns ss k hk
  rw [bgB_iff, mb_len]
  generalize hw : mb (hv ns (ss[k]?.getD 0)) (hn ns (ss[k]?.getD 0)) = wd at *
  have hwl : wd.length = hn ns (ss[k]?.getD 0) := by rw [← hw, mb_len]
  rw [← hwl]
  have hl : (cat ns (ss.take k)).length + wd.length ≤ (cat ns ss).length := by rw [e]; simp only [List.length_append]; omega
  have e2 : (LB.drop (cat ns (ss.take k)).length).take wd.length = ((LB.take (cat ns ss).length).drop (cat ns (ss.take k)).length).take wd.length := by
    rw [List.drop_take, List.take_take, Nat.min_eq_left (by omega)]
  rw [e2, hLB, e, List.drop_left, List.take_left]
theorem cat_take (ns ss : List Nat) (k : Nat) (hk : k < ss.length) : cat ns (ss.take (k + 1)) = cat ns (ss.take k) ++ mb (hv ns (ss[k]?.getD 0)) (hn ns (ss[k]?.getD 0)) := by
  rw [List.take_succ_eq_append_getElem hk, cat_snoc, List.getElem?_eq_getElem hk]; rfl
/-- The bytes' bits are the words', and less than 8 more. -/
theorem bitz_bits {zs : List Int} {T : List Int} (hT : Bit T) (h : Bitz zs (binN T) T.length) : (bitsL zs).take T.length = T ∧ T.length ≤ 8 * zs.length ∧ 8 * zs.length < T.length + 8 := by
  obtain ⟨h1, h2, h3, h4⟩ := h
  have hl : T.length ≤ 8 * zs.length := by omega
  refine ⟨?_, hl, by omega⟩
  have hb := binN_bound hT
  refine binN_inj ((bitsL_bit zs).take _) hT (by rw [List.length_take, bitsL_len]; omega) ?_
  rw [binN_taken (bitsL_bit zs) _ (by rw [bitsL_len]; exact hl), binN_bitsL h1, h3, Int.emod_eq_of_lt hb.1 hb.2]
/-- The document's next symbol is the one whose word comes. -/
theorem refN_word {ns : List Nat} (hc : Cd ns) {L : List Int} {s : Nat} (hs : hn ns s ≠ 0) (hb : bgB (mb (hv ns s) (hn ns s)) L = true) : refN (wds ns) L = ((s : Int), hn ns s, 0) := by
  have hw : isW ns ((s : Int), mb (hv ns s) (hn ns s)) s := ⟨hs, rfl⟩
  unfold refN
  cases hf : (wds ns).find? (fun p => bgB p.2 L) with
  | none =>
    have := List.find?_eq_none.1 hf _ (hc.wds.2 ⟨s, hw⟩)
    exact absurd hb this
  | some p =>
    have hp := List.find?_some hf
    obtain ⟨t, ht⟩ := hc.wds.1 (List.mem_of_find?_eq_some hf)
    have key : ∀ {u v : Nat}, hn ns u ≠ 0 → hn ns v ≠ 0 → hn ns u ≤ hn ns v → bgB (mb (hv ns u) (hn ns u)) L = true → bgB (mb (hv ns v) (hn ns v)) L = true → u = v := by
      intro u v hu hv' hle b1 b2
      by_cases e : u = v
      · exact e
      · refine absurd ?_ (hc.apart hu hv' e hle)
        rw [bgB_iff, mb_len] at b1 b2
        have e1 : (mb (hv ns v) (hn ns v)).take (hn ns u) = mb (hv ns u) (hn ns u) := by rw [b2, List.take_take, Nat.min_eq_left hle]; exact b1.symm
        rw [mb_take _ _ _ hle] at e1
        refine mb_inj ?_ (hc.lt u) e1
        rw [Nat.div_lt_iff_lt_mul (Nat.two_pow_pos _), ← Nat.pow_add, show hn ns u + (hn ns v - hn ns u) = hn ns v by omega]
        exact hc.lt v
    have e : t = s := by
      rw [ht.2] at hp
      rcases Nat.le_total (hn ns t) (hn ns s) with h | h
      · exact key ht.1 hs h hp hb
      · exact (key hs ht.1 h hb hp).symm
    simp only
    rw [ht.2, e]
    simp only [mb_len]
theorem wrap_small {v : Nat} {m : Nat} (hv : v < 2 ^ m) (hm : m ≤ 15) : IntKind.u64.wrap (v : Int) % 2 ^ m = (v : Int) := by
  have h1 : 2 ^ m ≤ 2 ^ 15 := Nat.pow_le_pow_right (by omega) hm
  have e : IntKind.u64.wrap (v : Int) = (v : Int) := by rw [IntKind.wrap_u64]; omega
  rw [e, Int.emod_eq_of_lt (by omega) (by exact_mod_cast hv)]
/-- A word put behind others. -/
theorem put_word (r : Nat) (g : Option Nat) (zs : List Int) (ns ss : List Nat) (s : Nat) (w : World) (hc : Cd ns) (hs : hn ns s ≠ 0) (h : WrZ w r g zs (cat ns ss).length) (hz : Bitz zs (binN (cat ns ss)) (cat ns ss).length) (hcb : (cat ns ss).length ≤ 1000000) :
    Calls Try.prog 21 #[.pointer (some ⟨r, 0, none⟩), .int .i64 (turn (hv ns s) (hn ns s)), .int .i64 (hn ns s)] w fun e w' => ∃ zs', Bitz zs' (binN (cat ns (ss ++ [s]))) (cat ns (ss ++ [s])).length ∧ WrPost w r g zs' (cat ns (ss ++ [s])).length e w' := by
  have h15 := hc.le s
  have C := put_yes r g zs (binN (cat ns ss)) (cat ns ss).length (hn ns s) (turn (hv ns s) (hn ns s)) (hn ns s) w h hz hcb (by omega) (by omega)
  rw [wrap_small (turn_lt _ _) h15] at C
  rw [cat_snoc, binN_append, List.length_append, mb_len, binN_mb, Int.mul_comm (2 ^ _)]
  exact C
end Go.Proofs.Ytjellgkojmgmjaa
