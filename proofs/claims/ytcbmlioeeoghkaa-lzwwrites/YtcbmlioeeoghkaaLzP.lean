/- LZW's packer: a map by texts: what it holds, as a table. -/
import Derived.Test.YtcbmlioeeoghkaaLzN
import Derived.Test.YtcbmlioeeoghkaaArgB
import Derived.Maps.OwnSet
import Derived.DeepKeys4
import Derived.StillTail
namespace Go.Proofs.Ytcbmlioeeoghkaa
open Go.RowKit
theorem tkrow : (74 : TypeId) < Try.prog.types.size := of_decide_eq_true (by kernel_rfl)
theorem tkwide : (match Try.prog.underlying 74 with | some (.array _ _) | some (.struct _) => true | _ => false) = true := by rw [Try.underlying74]
set_option maxRecDepth 100000 in
theorem tklaw : Maps.Keyed Try.prog 74 := Maps.Keyed.of_law (deep_law_laid Try.laidOut (m := 2) (by omega) tkrow (by kernel_rfl) tkwide)
theorem tkcells : Try.prog.cellsOf 74 = 2 := by kernel_rfl
theorem tkone : Try.prog.cellsOf 5 = 1 := by kernel_rfl
theorem tkone3 : Try.prog.cellsOf 3 = 1 := by kernel_rfl
theorem tkkey : Try.prog.keyType 74 = true := by kernel_rfl
theorem tkformed {c0 c1 : Value} : (Value.agg #[c0, c1]).formed Try.prog 74 = true := by simp [Value.formed, Try.underlying74, tkcells]
theorem tkzero (w : World) : (zeroValue 3).run Try.prog w = .ok (.int .i64 0) w := by kernel_rfl
def tk (a : Nat) (b : Int) : Lit := .string (keyBytes [.int .i64 a, .int .u8 b])
theorem tkwf8 {l : Int} (h : 0 ≤ l ∧ l < 256) : (Lit.int .u8 l).wf = true := by
  simp [Lit.wf, IntKind.min, IntKind.max, IntKind.bits, IntKind.signed]; omega
theorem tkwf64 {v : Int} (h1 : -9223372036854775808 ≤ v) (h2 : v ≤ 9223372036854775807) : (Lit.int .i64 v).wf = true := WalkArith.wf_i64 ⟨h1, h2⟩
set_option maxRecDepth 100000 in
theorem keyOf_tk {a : Nat} {b : Int} (ha : a < 1000000) (hb : 0 ≤ b ∧ b < 256) : keyOf Try.prog 74 (.agg #[.int .i64 a, .int .u8 b]) = some (tk a b) := by
  unfold keyOf
  rw [Try.underlying74]
  simp only [tkkey, tkformed, Bool.and_self, if_true]
  have e : Try.prog.keyLits (Try.prog.types.size + 1) 74 (Value.agg #[.int .i64 a, .int .u8 b]).cells.toList = some [.int .i64 a, .int .u8 b] := by
    obtain ⟨n, hn⟩ : ∃ n, Try.prog.types.size = n + 1 := ⟨Try.prog.types.size - 1, (Nat.succ_pred_eq_of_pos (Nat.lt_of_le_of_lt (Nat.zero_le _) tkrow)).symm⟩
    rw [hn]
    simp [Program.keyLits, Try.underlying74, Try.underlying3, Try.underlying5, tkcells, tkone, tkone3, Value.cells, tkwf8 hb, tkwf64 (v := (a : Int)) (by omega) (by omega)]
  rw [e]
  rfl
theorem tk_inj {a a' : Nat} {b b' : Int} (ha : a < 1000000) (hb : 0 ≤ b ∧ b < 256) (ha' : a' < 1000000) (hb' : 0 ≤ b' ∧ b' < 256) (h : tk a b = tk a' b') : a = a' ∧ b = b' := by
  have := tklaw.inj (keyOf_tk ha hb) (by rw [h]; exact keyOf_tk ha' hb')
  simp at this
  omega
theorem tk_key {a : Nat} {b : Int} (ha : a < 1000000) (hb : 0 ≤ b ∧ b < 256) : WideAt.IsKeyLit (tk a b) := tklaw.key (keyOf_tk ha hb)
/-- Where a text stands in the table. -/
def ixT : List Tx → Nat → Int → Option Nat
  | [], _, _ => none
  | p :: r, a, b => if p.1 = a ∧ p.2 = b then some 0 else (ixT r a b).map (· + 1)
theorem ixT_push (fs : List Tx) (a : Nat) (b : Int) (a' : Nat) (b' : Int) (h : ixT fs a b = none) : ixT (fs ++ [(a, b)]) a' b' = if a' = a ∧ b' = b then some fs.length else ixT fs a' b' := by
  induction fs with
  | nil =>
    simp only [List.nil_append, ixT, List.length_nil]
    by_cases e : a' = a ∧ b' = b
    · rw [if_pos e, if_pos ⟨e.1.symm, e.2.symm⟩]
    · rw [if_neg e, if_neg (fun h => e ⟨h.1.symm, h.2.symm⟩)]; rfl
  | cons p r ih =>
    simp only [List.cons_append, ixT, List.length_cons] at h ⊢
    by_cases e1 : p.1 = a ∧ p.2 = b
    · rw [if_pos e1] at h; cases h
    · rw [if_neg e1] at h
      have h' : ixT r a b = none := by cases hx : ixT r a b with | none => rfl | some y => rw [hx] at h; cases h
      rw [ih h']
      by_cases e2 : p.1 = a' ∧ p.2 = b'
      · rw [if_pos e2, if_pos e2, if_neg (fun h => e1 ⟨e2.1.trans h.1, e2.2.trans h.2⟩)]
      · rw [if_neg e2, if_neg e2]
        by_cases e3 : a' = a ∧ b' = b
        · rw [if_pos e3, if_pos e3]; rfl
        · rw [if_neg e3, if_neg e3]
theorem ixT_lt : ∀ (fs : List Tx) (a : Nat) (b : Int) (i : Nat), ixT fs a b = some i → fs[i]? = some (a, b)
  | [], _, _, _, h => by cases h
  | p :: r, a, b, i, h => by
    unfold ixT at h
    by_cases e : p.1 = a ∧ p.2 = b
    · rw [if_pos e] at h; cases h
      simp only [List.getElem?_cons_zero]
      rw [← e.1, ← e.2]
    · rw [if_neg e] at h
      cases hx : ixT r a b with
      | none => rw [hx] at h; cases h
      | some j =>
        rw [hx] at h; cases h
        exact ixT_lt r a b j hx
/-- Block m is the map of the table's texts: their codes. -/
def MapT (w : World) (m L : Nat) (fs : List Tx) : Prop :=
  ∃ D : DataW Unit, w.ownsMap Try.prog 74 (plainElem Try.prog 3) m fs.length D ∧ Maps.size D = fs.length ∧ ∀ a b, a < 1000000 → 0 ≤ b ∧ b < 256 → Maps.has D (tk a b) = (ixT fs a b).isSome ∧ D.atKey (tk a b) (.lit (.int .i64 0)) = .lit (.int .i64 (((ixT fs a b).map fun i => ((fcN L + i : Nat) : Int)).getD 0))
section
variable {w w' : World} {m L : Nat} {fs : List Tx}
theorem MapT.lt (h : MapT w m L fs) : m < w.heap.size := by obtain ⟨D, h, _⟩ := h; exact h.lt
theorem MapT.tag (h : MapT w m L fs) : ∃ es c, w.heap[m]? = some (.map es c) := by obtain ⟨D, ⟨es, clock, hb, r⟩, h2⟩ := h; exact ⟨es, clock, hb⟩
theorem MapT.same (h : MapT w m L fs) (hs : w'.heap[m]? = w.heap[m]?) : MapT w' m L fs := by
  obtain ⟨D, ⟨es, clock, hb, r⟩, h2⟩ := h
  exact ⟨D, ⟨es, clock, hs.trans hb, r⟩, h2⟩
theorem MapT.of_made (h : w.heap[m]? = some (.map #[] 0)) : MapT w m L [] := by
  obtain ⟨es, clock, hb, r⟩ := World.ownsMap_made w Try.prog 74 (plainElem (H := Unit) Try.prog 3)
  rw [heap_alloc_new] at hb
  simp only [Option.some.injEq, Obj.map.injEq] at hb
  obtain ⟨rfl, rfl⟩ := hb
  exact ⟨.map [], ⟨#[], 0, h, r⟩, rfl, fun _ _ _ _ => ⟨rfl, rfl⟩⟩
theorem MapT.look (h : MapT w m L fs) (a : Nat) (b : Int) (ha : a < 1000000) (hb : 0 ≤ b ∧ b < 256) :
    (Instr.lookup 66 (.map (some m)) (.agg #[.int .i64 a, .int .u8 b]) true).run Try.prog w = .ok (.tuple #[.int .i64 (((ixT fs a b).map fun i => ((fcN L + i : Nat) : Int)).getD 0), .bool (ixT fs a b).isSome]) w := by
  obtain ⟨D, h1, -, h2⟩ := h
  obtain ⟨e1, e2⟩ := h2 a b ha hb
  obtain ⟨v, ps, hrun, hv⟩ := h1.look_ok tklaw Try.underlying66 (tkzero w) (plainElem_int Try.underlying3 (by decide)) (keyOf_tk ha hb)
  obtain ⟨c', rfl, hc', _⟩ := plainElem_int_inv Try.underlying3 hv
  simp only [Prod.mk.injEq] at hc'
  rw [e2] at hc'
  have h9 := hc'.1
  simp only [DataW.lit.injEq, Lit.int.injEq, true_and] at h9
  rw [hrun, e1, h9]
theorem MapT.len (h : MapT w m L fs) (ty : TypeId) : (Builtin.len_ #[66] ty #[.map (some m)]).run Try.prog w = .ok (.int .i64 fs.length) w := by
  obtain ⟨D, h1, h2, -⟩ := h
  rw [h1.len Try.underlying66 ty, h2]
theorem MapT.put (h : MapT w m L fs) (hn : fs.length < 4096) (hL : fcN L ≤ 258) (a : Nat) (b : Int) (ha : a < 1000000) (hb : 0 ≤ b ∧ b < 256) (hnew : ixT fs a b = none) :
    ∃ w', (Instr.mapUpdate 66 (.map (some m)) (.agg #[.int .i64 a, .int .u8 b]) (.int .i64 ((fcN L + fs.length : Nat) : Int))).run Try.prog w = .ok () w' ∧ MapT w' m L (fs ++ [(a, b)]) ∧ w.grownBy w' (some m) := by
  obtain ⟨D, h1, h3, h2⟩ := h
  obtain ⟨w', hrun, hown, hg⟩ := h1.update tklaw Try.underlying66 (by unfold maxLen; omega) (keyOf_tk ha hb) (plainElem_int (H := Unit) Try.underlying3 (tkwf64 (v := ((fcN L + fs.length : Nat) : Int)) (by omega) (by omega)))
  have hf : Maps.has D (tk a b) = false := by rw [(h2 a b ha hb).1, hnew]; rfl
  refine ⟨w', hrun, ⟨_, by rw [List.length_append]; exact hown, ?_, fun a' b' ha' hb' => ?_⟩, hg⟩
  · rw [Maps.size_put (h1.tidy tklaw), hf, h3]; simp
  · rw [ixT_push fs a b a' b' hnew]
    by_cases e : a' = a ∧ b' = b
    · obtain ⟨rfl, rfl⟩ := e
      simp only [and_self, if_true]
      exact ⟨Maps.has_put_same h1.isMap (tk_key ha hb) _, Maps.atKey_put_same h1.isMap (tk_key ha hb) _ _⟩
    · have hne : tk a' b' ≠ tk a b := fun h => e (tk_inj ha' hb' ha hb h)
      rw [if_neg e, Maps.has_put_other hne, Maps.atKey_put_other hne]
      exact h2 a' b' ha' hb'
theorem MapT.clear (h : MapT w m L fs) : ∃ w', (∀ ty, (Builtin.clear_ #[66] ty #[.map (some m)]).run Try.prog w = .ok (.tuple #[]) w') ∧ MapT w' m L [] ∧ w.grownBy w' (some m) := by
  obtain ⟨es, clock, hb⟩ := h.tag
  refine ⟨ChangeMaps.setBlock w m (.map #[] clock), fun ty => ?_, ⟨.map [], ⟨#[], clock, ChangeMaps.heap_setBlock_same hb _, ⟨by simp, MapKept.stamped_empty clock, by simp⟩, Nat.le_refl _, rfl⟩, rfl, fun _ _ _ _ => ⟨rfl, rfl⟩⟩, ⟨rfl, rfl, rfl, by simp [ChangeMaps.setBlock], fun i _ hi => ChangeMaps.heap_setBlock_other hb _ (fun e => hi (by rw [e]))⟩⟩
  simp [Builtin.clear_, run_underlying Try.underlying66, MapKept.run_getObj_map hb, MapKept.run_setObj_map _ hb, Result.andThen, ChangeMaps.setBlock]
end
end Go.Proofs.Ytcbmlioeeoghkaa
