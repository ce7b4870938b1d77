/- Maps whose keys are words: what they hold, as a function. -/
import Derived.Test.YtjellgkojmgmjaaHfC
import Derived.Maps.OwnSet
import Derived.DeepKeys4
import Derived.StillTail
namespace Go.Proofs.Ytjellgkojmgmjaa
open Go.RowKit

theorem Try.row67 : (68 : TypeId) < Try.prog.types.size := of_decide_eq_true (by kernel_rfl)
theorem Try.wide67 : (match Try.prog.underlying 68 with | some (.array _ _) | some (.struct _) => true | _ => false) = true := by rw [Try.underlying68]
set_option maxRecDepth 100000 in
theorem Try.law67 : Maps.Keyed Try.prog 68 := Maps.Keyed.of_law (deep_law_laid Try.laidOut (m := 2) (by omega) Try.row67 (by kernel_rfl) Try.wide67)
theorem Try.cells67 : Try.prog.cellsOf 68 = 2 := by kernel_rfl
theorem Try.cells50 : Try.prog.cellsOf 50 = 1 := by kernel_rfl
theorem Try.key67 : Try.prog.keyType 68 = true := by kernel_rfl
theorem Try.formed67 {c0 c1 : Value} : (Value.agg #[c0, c1]).formed Try.prog 68 = true := by simp [Value.formed, Try.underlying68, Try.cells67]
theorem Try.zero3 (w : World) : (zeroValue 3).run Try.prog w = .ok (.int .i64 0) w := by kernel_rfl

theorem Try.mkmap (n : Int) (w : World) : (Instr.makeMap 61 (some (.int .i64 n))).run Try.prog w = .ok (.map (some w.heap.size)) (w.alloc (.map #[] 0)) := by
  simp [Instr.makeMap, run_underlying Try.underlying61, asInt, asIntOf]
def kl (l b : Nat) : Lit := .string (keyBytes [.int .u16 l, .int .u16 b])
theorem wf16 {l : Nat} (h : l < 65536) : (Lit.int .u16 l).wf = true := by
  simp [Lit.wf, IntKind.min, IntKind.max, IntKind.bits, IntKind.signed]; omega
set_option maxRecDepth 100000 in
theorem keyOf_kl {l b : Nat} (hl : l < 65536) (hb : b < 65536) : keyOf Try.prog 68 (.agg #[.int .u16 l, .int .u16 b]) = some (kl l b) := by
  unfold keyOf
  rw [Try.underlying68]
  simp only [Try.key67, Try.formed67, Bool.and_self, if_true]
  have e : Try.prog.keyLits (Try.prog.types.size + 1) 68 (Value.agg #[.int .u16 l, .int .u16 b]).cells.toList = some [.int .u16 l, .int .u16 b] := by
    obtain ⟨n, hn⟩ : ∃ n, Try.prog.types.size = n + 1 := ⟨Try.prog.types.size - 1, (Nat.succ_pred_eq_of_pos (Nat.lt_of_le_of_lt (Nat.zero_le _) Try.row67)).symm⟩
    rw [hn]
    simp [Program.keyLits, Try.underlying68, Try.underlying50, Try.cells67, Try.cells50, Value.cells, wf16 hl, wf16 hb]
  rw [e]
  rfl
theorem kl_inj {l b l' b' : Nat} (hl : l < 65536) (hb : b < 65536) (hl' : l' < 65536) (hb' : b' < 65536) (h : kl l b = kl l' b') : l = l' ∧ b = b' := by
  have := Try.law67.inj (keyOf_kl hl hb) (by rw [h]; exact keyOf_kl hl' hb')
  simp at this
  omega
theorem kl_key {l b : Nat} (hl : l < 65536) (hb : b < 65536) : WideAt.IsKeyLit (kl l b) := Try.law67.key (keyOf_kl hl hb)

/-- Block m is a map of at most n words: what stands at a word is f's. -/
def MapF (w : World) (m n : Nat) (f : Nat → Nat → Option Int) : Prop :=
  ∃ D : DataW Unit, w.ownsMap Try.prog 68 (plainElem Try.prog 3) m n D ∧ ∀ l b, l < 65536 → b < 65536 → Maps.has D (kl l b) = (f l b).isSome ∧ D.atKey (kl l b) (.lit (.int .i64 0)) = .lit (.int .i64 ((f l b).getD 0))
theorem MapF.lt {w : World} {m n : Nat} {f : Nat → Nat → Option Int} (h : MapF w m n f) : m < w.heap.size := by obtain ⟨D, h, _⟩ := h; exact h.lt
theorem MapF.same {w w' : World} {m n : Nat} {f : Nat → Nat → Option Int} (h : MapF w m n f) (hs : w'.heap[m]? = w.heap[m]?) : MapF w' m n f := by
  obtain ⟨D, ⟨es, clock, hb, r⟩, h2⟩ := h
  exact ⟨D, ⟨es, clock, hs.trans hb, r⟩, h2⟩
theorem MapF.congr {w : World} {m n : Nat} {f g : Nat → Nat → Option Int} (h : MapF w m n f) (hfg : ∀ l b, f l b = g l b) : MapF w m n g := by
  obtain ⟨D, h1, h2⟩ := h
  exact ⟨D, h1, fun l b hl hb => by rw [← hfg]; exact h2 l b hl hb⟩
theorem MapF.mono {w : World} {m n n' : Nat} {f : Nat → Nat → Option Int} (h : MapF w m n f) (hn : n ≤ n') : MapF w m n' f := by
  obtain ⟨D, h1, h2⟩ := h
  exact ⟨D, h1.mono hn, h2⟩
theorem MapF.made (w : World) : MapF (w.alloc (.map #[] 0)) w.heap.size 0 fun _ _ => none :=
  ⟨.map [], World.ownsMap_made w _ _ _, fun _ _ _ _ => ⟨rfl, rfl⟩⟩
theorem MapF.look {w : World} {m n : Nat} {f : Nat → Nat → Option Int} (h : MapF w m n f) (l b : Nat) (hl : l < 65536) (hb : b < 65536) :
    (Instr.lookup 61 (.map (some m)) (.agg #[.int .u16 l, .int .u16 b]) true).run Try.prog w = .ok (.tuple #[.int .i64 ((f l b).getD 0), .bool (f l b).isSome]) w := by
  obtain ⟨D, h1, h2⟩ := h
  obtain ⟨e1, e2⟩ := h2 l b hl hb
  obtain ⟨v, ps, hrun, hv⟩ := h1.look_ok Try.law67 Try.underlying61 (Try.zero3 w) (plainElem_int Try.underlying3 (by decide)) (keyOf_kl hl hb)
  obtain ⟨c, rfl, hc, _⟩ := plainElem_int_inv Try.underlying3 hv
  simp only [Prod.mk.injEq] at hc
  rw [e2] at hc
  simp at hc
  rw [hrun, e1, hc.1]
theorem MapF.put {w : World} {m n : Nat} {f : Nat → Nat → Option Int} (h : MapF w m n f) (hn : n < maxLen) (l b : Nat) (hl : l < 65536) (hb : b < 65536) (v : Int) (hv : (Lit.int .i64 v).wf = true) :
    ∃ w', (Instr.mapUpdate 61 (.map (some m)) (.agg #[.int .u16 l, .int .u16 b]) (.int .i64 v)).run Try.prog w = .ok () w' ∧ MapF w' m (n + 1) (fun l' b' => if l' = l ∧ b' = b then some v else f l' b') ∧ w.grownBy w' (some m) := by
  obtain ⟨D, h1, h2⟩ := h
  obtain ⟨w', hrun, hown, hg⟩ := h1.update Try.law67 Try.underlying61 hn (keyOf_kl hl hb) (plainElem_int Try.underlying3 hv)
  refine ⟨w', hrun, ⟨_, hown, fun l' b' hl' hb' => ?_⟩, hg⟩
  by_cases e : l' = l ∧ b' = b
  · obtain ⟨rfl, rfl⟩ := e
    simp only [and_self, if_true]
    exact ⟨Maps.has_put_same h1.isMap (kl_key hl hb) _, Maps.atKey_put_same h1.isMap (kl_key hl hb) _ _⟩
  · have hne : kl l' b' ≠ kl l b := fun h => e (kl_inj hl' hb' hl hb h)
    simp only [if_neg e]
    rw [Maps.has_put_other hne, Maps.atKey_put_other hne]
    exact h2 l' b' hl' hb'
theorem wf64 {v : Int} (h1 : -9223372036854775808 ≤ v) (h2 : v ≤ 9223372036854775807) : (Lit.int .i64 v).wf = true := WalkArith.wf_i64 ⟨h1, h2⟩
end Go.Proofs.Ytjellgkojmgmjaa
