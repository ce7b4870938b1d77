/- LZW: the table: count, first. -/
import Derived.Test.YtcbmlioeeoghkaaLzA
namespace Go.Proofs.Ytcbmlioeeoghkaa
open Go.RowKit
/-- A table's row in memory. -/
def TbR (w : World) (B : Nat) (fv : Value) (fs : List Tx) : Prop := w.ownsRow B 74 2 fv fs.length (encT fs)
theorem TbR.shape {w : World} {B : Nat} {fv : Value} {fs : List Tx} (h : TbR w B fv fs) : ∃ a cap, fv = .slice a fs.length cap ∧ fs.length ≤ cap ∧ cap ≤ maxLen ∧ (∀ x, a = some x → x = ⟨x.block, 0, none⟩ ∧ B ≤ x.block ∧ ∃ cur, w.heap[x.block]? = some (.cells cur 74 (0, 0))) ∧ (a = none → cap = 0) := by
  rcases h.2 with ⟨e, h0⟩ | ⟨g, cap, cur, e, hb, hh, h1, h2, h3, h4⟩
  · rw [h0]; exact ⟨none, 0, e, Nat.le_refl _, by unfold maxLen; omega, (fun x hx => by cases hx), fun _ => rfl⟩
  · exact ⟨some ⟨g, 0, none⟩, cap, e, h1, h2, (fun x hx => by cases hx; exact ⟨rfl, hb, cur, hh⟩), fun hx => by cases hx⟩
theorem TbR.cell {w : World} {B : Nat} {a : Option Addr} {cap : Nat} {fs : List Tx} (h0 : TbR w B (.slice a fs.length cap) fs) {i : Nat} {p : Tx} (hp : fs[i]? = some p) : ∃ g, a = some ⟨g, 0, none⟩ ∧ w.cell? ⟨g, i * 2, none⟩ = some (.int .i64 (p.1 : Int)) ∧ w.cell? ⟨g, i * 2 + 1, none⟩ = some (.int .u8 p.2) := by
  have hi : i < fs.length := by
    rcases Nat.lt_or_ge i fs.length with h | h
    · exact h
    · rw [List.getElem?_eq_none h] at hp; cases hp
  obtain ⟨e1, e2⟩ := encT_at fs i p hp
  have h := h0
  rcases h0.2 with ⟨e, h0⟩ | ⟨g, cap', cur, e, hb, hh, h1, h2, h3, h4⟩
  · omega
  · simp only [Value.slice.injEq] at e
    obtain ⟨rfl, -, rfl⟩ := e
    unfold TbR at h
    exact ⟨g, rfl, (World.ownsRow.cellAt h (i * 2) (by omega)).trans e1, (World.ownsRow.cellAt h (i * 2 + 1) (by omega)).trans e2⟩
theorem TbR.same {w w' : World} {B : Nat} {fv : Value} {fs : List Tx} (h : TbR w B fv fs) (hs : ∀ k c, fv.ownBlock = some k → w.heap[k]? = some (.cells c 74 (0, 0)) → w'.heap[k]? = w.heap[k]?) : TbR w' B fv fs := by
  rcases h.2 with ⟨rfl, h0⟩ | ⟨g, cap, cur, rfl, hb, hh, h1, h2, h3, h4⟩
  · exact ⟨h.1, .inl ⟨rfl, h0⟩⟩
  · exact ⟨h.1, .inr ⟨g, cap, cur, rfl, hb, (hs g cur rfl hh).trans hh, h1, h2, h3, h4⟩⟩
theorem TbR.drewN {w : World} {B : Nat} {fv : Value} {fs : List Tx} (h : TbR w B fv fs) (n : Nat) : TbR (w.drewN n) B fv fs := h.same fun _ _ _ _ => rfl
theorem drewN_add (w : World) (a b : Nat) : (w.drewN a).drewN b = w.drewN (a + b) := by
  simp [World.drewN, Nat.add_assoc]
set_option maxRecDepth 100000 in
set_option maxHeartbeats 400000 in
theorem count_any {w : World} {d L n cap : Nat} {a : Option Addr} (h : 2 ≤ L ∧ L ≤ 8) (k6 : w.cell? ⟨d, 6, none⟩ = some (.int .i64 L)) (k7 : w.cell? ⟨d, 7, none⟩ = some (.slice a n cap)) (hn : n ≤ 4096) :
    Calls Try.prog 42 #[.pointer (some ⟨d, 6, none⟩)] w fun e w' => e = .returned (.int .i64 ((fcN L + n : Nat) : Int)) ∧ w' = w.drew := by
  have C := furtherCode_any h w.drew
  have hb := fc_bd h
  have hF : 6 ≤ fcN L ∧ fcN L ≤ 258 := by unfold fcN; omega
  clear hb
  obtain ⟨F, hFe⟩ : ∃ F, fcN L = F := ⟨_, rfl⟩
  rw [hFe] at C hF ⊢
  clear hFe
  have d6 : w.drew.cell? ⟨d, 6, none⟩ = _ := k6
  have d7 : w.drew.cell? ⟨d, 7, none⟩ = _ := k7
  have hw1 : IntKind.i64.wrap ((F : Int) + (n : Int)) = (F : Int) + (n : Int) := by rw [IntKind.wrap_i64]; omega
  go_enter Try.func42, Try.ntmps42
  go_upto_region 1 with fail
  refine wp_region_still_tail 11 (by kernel_rfl) (by kernel_rfl) ?_
  simp only [List.take_succ_cons, List.take_zero, List.drop_succ_cons, List.drop_zero]
  rw [show ({ w with drawn := w.drawn + 1 } : World) = w.drew from rfl]
  iterate 4 still_step
  still_call C
  repeat still_step
  refine wpStill_nil ?_
  go_wp2
  go_ret
  exact ⟨by go_num, rfl⟩
end Go.Proofs.Ytcbmlioeeoghkaa
