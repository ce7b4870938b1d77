/- The receiver: what it holds, as a list that rises by its numbers; the map of it in memory. -/
import Derived.Test.YtmfciheenemapaaPtB
import Derived.Maps.OwnSet
import Derived.Shelf.SlIterI.Nil
import Derived.Shelf.SortM.Plain
import Derived.Shelf.SortM.SortNone
import Derived.Ground.GgzProg
import Derived.Ground.SlgmProg
namespace Go.Proofs.Ytmfciheenemapaa
open Go.RowKit
/-- How a held value reads. -/
def hR (v : Value) : Option (DataW Value × List MemPlace) := some (.held v, [])
theorem hzero (w : World) : (zeroValue 32).run Try.prog w = .ok (.slice none 0 0) w := by kernel_rfl
theorem hkeyed : Maps.Keyed Try.prog 3 := Maps.int_keyed Try.underlying3
def ptV (q : Pt) : Value := .slice q.a q.z.length q.c
def hE (p : Int × Pt) : Lit × DataW Value := (.int .i64 p.1, .held (ptV p.2))
def hD (H : List (Int × Pt)) : DataW Value := .map (H.map hE)
def hIns (k : Int) (q : Pt) : List (Int × Pt) → List (Int × Pt)
  | [] => [(k, q)]
  | y :: r => if k < y.1 then (k, q) :: y :: r else y :: hIns k q r
def hHas (H : List (Int × Pt)) (k : Int) : Bool := H.any fun p => p.1 == k
def hPt0 : Pt := ⟨none, 0, []⟩
def hGet : List (Int × Pt) → Int → Pt
  | [], _ => hPt0
  | y :: r, k => if y.1 = k then y.2 else hGet r k
theorem hE_insert (k : Int) (q : Pt) : ∀ H : List (Int × Pt), DataW.insert (hE (k, q)) (H.map hE) = (hIns k q H).map hE
  | [] => rfl
  | y :: r => by
    simp only [List.map_cons, DataW.insert, hIns]
    have e : (hE (k, q)).1.before (hE y).1 = decide (k < y.1) := rfl
    rw [e]
    by_cases h : k < y.1
    · simp [h]
    · simp [h, hE_insert k q r]
theorem hE_key (k : Int) (p : Int × Pt) : (hE p).1.sameKey (.int .i64 k) = (p.1 == k) := by
  unfold hE
  simp only
  by_cases h : p.1 = k
  · subst h
    simp [Lit.sameKey]
  · rw [Maps.sameKey_ne (by simp; exact h)]
    simp [h]
theorem hD_has (H : List (Int × Pt)) (k : Int) : Maps.has (hD H) (.int .i64 k) = hHas H k := by
  unfold hD hHas
  rw [Maps.has_eq, List.any_map]
  congr 1
  funext p
  exact hE_key k p
theorem hD_at (H : List (Int × Pt)) (k : Int) : (hD H).atKey (.int .i64 k) (.held (.slice none 0 0)) = .held (ptV (hGet H k)) := by
  unfold hD
  induction H with
  | nil => rfl
  | cons y r ih =>
    unfold DataW.atKey at ih ⊢
    simp only [List.map_cons, List.find?_cons, hE_key, hGet] at ih ⊢
    by_cases h : y.1 = k
    · simp [h, hE]
    · have : (y.1 == k) = false := by simp [h]
      simp only [this, if_neg h]
      exact ih
theorem hNo_filter {H : List (Int × Pt)} {k : Int} (h : hHas H k = false) : (H.map hE).filter (ChangeMaps.notKey (.int .i64 k)) = H.map hE := by
  rw [List.filter_eq_self]
  intro x hx
  obtain ⟨p, hp, rfl⟩ := List.mem_map.1 hx
  unfold ChangeMaps.notKey
  rw [hE_key]
  unfold hHas at h
  rw [List.any_eq_false] at h
  simpa using h p hp
theorem hD_put {H : List (Int × Pt)} {k : Int} (h : hHas H k = false) (q : Pt) : (hD H).put (.int .i64 k) (.held (ptV q)) = hD (hIns k q H) := by
  unfold hD
  rw [DataW.put_eq]
  unfold ChangeMaps.putKey
  rw [hNo_filter h, ← hE_insert]
  rfl
theorem hD_del {H : List (Int × Pt)} {k : Int} {q : Pt} (h : hHas H k = false) : (hD ((k, q) :: H)).del (.int .i64 k) = hD H := by
  unfold hD
  rw [DataW.del_eq]
  unfold ChangeMaps.delKey
  rw [List.map_cons, List.filter_cons_of_neg (by unfold ChangeMaps.notKey; rw [hE_key]; simp), hNo_filter h]
theorem hIns_len (k : Int) (q : Pt) : ∀ H : List (Int × Pt), (hIns k q H).length = H.length + 1
  | [] => rfl
  | y :: r => by
    unfold hIns
    split
    · rfl
    · simp [hIns_len k q r]
/-- The numbers rise, from lo on and below hi. -/
def HUp : Int → List (Int × Pt) → Prop
  | _, [] => True
  | lo, p :: r => lo ≤ p.1 ∧ HUp (p.1 + 1) r
theorem HUp.mono : ∀ {H : List (Int × Pt)} {lo lo' : Int}, HUp lo H → lo' ≤ lo → HUp lo' H
  | [], _, _, _, _ => trivial
  | _ :: _, _, _, h, hl => ⟨Int.le_trans hl h.1, h.2⟩
theorem HUp.mem : ∀ {H : List (Int × Pt)} {lo : Int}, HUp lo H → ∀ p ∈ H, lo ≤ p.1
  | y :: r, lo, h, p, hp => by
    rcases List.mem_cons.1 hp with rfl | hp
    · exact h.1
    · have := HUp.mem h.2 p hp; have := h.1; omega
theorem HUp.no {H : List (Int × Pt)} {lo k : Int} (h : HUp lo H) (hk : k < lo) : hHas H k = false := by
  unfold hHas
  rw [List.any_eq_false]
  intro p hp
  have := h.mem p hp
  simp; omega
theorem HUp.ins : ∀ {H : List (Int × Pt)} {lo k : Int} (q : Pt), HUp lo H → lo ≤ k → hHas H k = false → HUp lo (hIns k q H)
  | [], lo, k, q, _, hk, _ => ⟨hk, trivial⟩
  | y :: r, lo, k, q, h, hk, hn => by
    unfold hHas at hn
    simp only [List.any_cons, Bool.or_eq_false_iff] at hn
    have hne : y.1 ≠ k := by simpa using hn.1
    unfold hIns
    split
    · rename_i hlt
      exact ⟨hk, by omega, h.2⟩
    · exact ⟨h.1, HUp.ins q h.2 (by omega) hn.2⟩
theorem hIns_mem (k : Int) (q : Pt) (p : Int × Pt) : ∀ H : List (Int × Pt), p ∈ hIns k q H ↔ p = (k, q) ∨ p ∈ H
  | [] => by simp [hIns]
  | y :: r => by
    unfold hIns
    split
    · simp
    · simp only [List.mem_cons, hIns_mem k q p r]
      constructor
      · rintro (h | h | h)
        · exact .inr (.inl h)
        · exact .inl h
        · exact .inr (.inr h)
      · rintro (h | h | h)
        · exact .inr (.inl h)
        · exact .inl h
        · exact .inr (.inr h)
/-- Block m is the map of what is held. -/
def HM (w : World) (m : Nat) (H : List (Int × Pt)) : Prop := w.ownsMap Try.prog 3 hR m H.length (hD H)
theorem HM.lt {w : World} {m : Nat} {H : List (Int × Pt)} (h : HM w m H) : m < w.heap.size := World.ownsMap.lt h
theorem HM.same {w w' : World} {m : Nat} {H : List (Int × Pt)} (h : HM w m H) (hs : w'.heap[m]? = w.heap[m]?) : HM w' m H := by
  obtain ⟨es, clock, hb, r⟩ := h
  exact ⟨es, clock, hs.trans hb, r⟩
theorem HM.old {w w' : World} {m : Nat} {H : List (Int × Pt)} (h : HM w m H) (hb : Below w.heap.size w w') : HM w' m H := h.same (hb.block m h.lt)
theorem HM.tag {w : World} {m : Nat} {H : List (Int × Pt)} (h : HM w m H) : ∃ es c, w.heap[m]? = some (.map es c) := by obtain ⟨es, clock, hb, r⟩ := h; exact ⟨es, clock, hb⟩
theorem HM.fit {w : World} {m n : Nat} {H : List (Int × Pt)} (h : w.ownsMap Try.prog 3 hR m n (hD H)) : HM w m H := by
  obtain ⟨es, clock, hb, F, hs, hDD⟩ := h
  refine ⟨es, clock, hb, F, ?_, hDD⟩
  have h1 : Maps.size (hD H) = H.length := by simp [hD, Maps.size]
  have h2 : Maps.size (hD H) = es.size := by rw [hDD]; simp [Maps.size, length_sorted]
  omega
theorem HM.of_made {w : World} {m : Nat} (h : w.heap[m]? = some (.map #[] 0)) : HM w m [] := by
  obtain ⟨es, clock, hb, r⟩ := World.ownsMap_made w Try.prog 3 hR
  rw [heap_alloc_new] at hb
  simp only [Option.some.injEq, Obj.map.injEq] at hb
  obtain ⟨rfl, rfl⟩ := hb
  exact ⟨#[], 0, h, r⟩
theorem HM.len {w : World} {m : Nat} {H : List (Int × Pt)} (h : HM w m H) (ty : TypeId) : (Builtin.len_ #[49] ty #[.map (some m)]).run Try.prog w = .ok (.int .i64 H.length) w := by
  have := World.ownsMap.len h Try.underlying49 ty
  rw [this]
  simp [hD, Maps.size]
theorem hR_inv {v v' : Value} {ps : List MemPlace} (h : hR v = some (.held v', ps)) : v = v' := by
  unfold hR at h
  simp at h
  exact h.1
theorem HM.look_ok {w : World} {m : Nat} {H : List (Int × Pt)} (h : HM w m H) {k : Int} (hk : (Lit.int .i64 k).wf = true) :
    (Instr.lookup 49 (.map (some m)) (.int .i64 k) true).run Try.prog w = .ok (.tuple #[ptV (hGet H k), .bool (hHas H k)]) w := by
  obtain ⟨v, ps, hrun, hv⟩ := World.ownsMap.look_ok h hkeyed Try.underlying49 (hzero w) (zd := .held (.slice none 0 0)) (zp := []) rfl (Maps.keyOf_int_mk Try.underlying3 hk)
  rw [hD_at] at hv
  rw [hrun, hD_has, hR_inv hv]
theorem HM.look {w : World} {m : Nat} {H : List (Int × Pt)} (h : HM w m H) {k : Int} (hk : (Lit.int .i64 k).wf = true) :
    (Instr.lookup 49 (.map (some m)) (.int .i64 k) false).run Try.prog w = .ok (ptV (hGet H k)) w := by
  obtain ⟨v, ps, hrun, hv⟩ := World.ownsMap.lookup h hkeyed Try.underlying49 (hzero w) (zd := .held (.slice none 0 0)) (zp := []) rfl (Maps.keyOf_int_mk Try.underlying3 hk)
  rw [hD_at] at hv
  rw [hrun, hR_inv hv]
theorem HM.put {w : World} {m : Nat} {H : List (Int × Pt)} (h : HM w m H) (hn : H.length < maxLen) {k : Int} (hk : (Lit.int .i64 k).wf = true) (hno : hHas H k = false) (q : Pt) :
    ∃ w', (Instr.mapUpdate 49 (.map (some m)) (.int .i64 k) (ptV q)).run Try.prog w = .ok () w' ∧ HM w' m (hIns k q H) ∧ w.grownBy w' (some m) := by
  obtain ⟨w', hrun, hown, hg⟩ := World.ownsMap.store h hkeyed Try.underlying49 hn (Maps.keyOf_int_mk Try.underlying3 hk) (d := .held (ptV q)) (ps := []) rfl
  rw [hD_put hno] at hown
  exact ⟨w', hrun, HM.fit hown, hg.grown⟩
theorem HM.del {w : World} {m : Nat} {H : List (Int × Pt)} {k : Int} {q : Pt} (h : HM w m ((k, q) :: H)) (hk : (Lit.int .i64 k).wf = true) (hno : hHas H k = false) (ty : TypeId) :
    ∃ w', (Builtin.delete_ #[49, 3] ty #[.map (some m), .int .i64 k]).run Try.prog w = .ok (.tuple #[]) w' ∧ HM w' m H ∧ w.grownBy w' (some m) := by
  obtain ⟨w', hrun, hown, hg⟩ := World.ownsMap.drop h hkeyed Try.underlying49 (Maps.keyOf_int_mk Try.underlying3 hk) ty
  rw [hD_del hno] at hown
  exact ⟨w', hrun, HM.fit hown, hg.grown⟩
end Go.Proofs.Ytmfciheenemapaa
