/- A head is read: the program. -/
import Derived.Test.YticdpibaojhpiaaDoorHdD
import Derived.Test.YticdpibaojhpiaaDoorHdE
namespace Go.Proofs.YticdpibaojhpiaaDoor
open Go.RowKit
def byt (zs : List Int) (k : Nat) : Int := zs[k]?.getD 0
def rdW (zs : List Int) : Int := bigN (zs.take 4)
def rdH (zs : List Int) : Int := bigN ((zs.drop 4).take 4)
abbrev rdOk (zs : List Int) : Prop := zs.length = 13 ∧ byt zs 10 = 0 ∧ byt zs 11 = 0 ∧ byt zs 12 ≤ 1 ∧ mayN (rdW zs) (rdH zs) (byt zs 9) (byt zs 8)
def rdV (zs : List Int) : Value := if rdOk zs then HdV (rdW zs) (rdH zs) (byt zs 9) (byt zs 8) (byt zs 12 == 1) else HdV 0 0 0 0 false
def rdE (zs : List Int) : Int := if rdOk zs then 0 else 11
def RdPost (w : World) (v : Value) (er : Int) (e : Ending) (w' : World) : Prop := e = .returned (.tuple #[v, .int .i64 er]) ∧ Below w.heap.size w w'
theorem big_one (zs : List Int) (k : Nat) (hk : k < zs.length) : bigN ((zs.drop k).take 1) = byt zs k := by
  have h : (zs.drop k).take 1 = [zs[k]] := by rw [List.drop_eq_getElem_cons hk]; rfl
  rw [h]; simp [bigN, byt, hk]
theorem results_cellH {fn : Func} {p q : Tmp} {ty : TypeId} (h : fn.results = #[.cell p ty, .tmp q]) (tmps : Array Value) (P : Program) (w : World) :
    (results fn tmps).run P w = ((asAddr (tmps.getD p undef)).run P w).andThen fun a w₁ => ((loadVar ty a).run P w₁).andThen fun v w₂ => .ok (.tuple #[v, tmps.getD q undef]) w₂ := by
  simp only [results, h]
  simp [Sem.run_bind]
theorem five_cells {w : World} {c : Nat} {v0 v1 v2 v3 v4 : Value} {t : TypeId} (h : w.heap[c]? = some (.cells #[v0, v1, v2, v3, v4] t (0, 0))) :
    w.cell? ⟨c, 0, none⟩ = some v0 ∧ w.cell? ⟨c, 1, none⟩ = some v1 ∧ w.cell? ⟨c, 2, none⟩ = some v2 ∧ w.cell? ⟨c, 3, none⟩ = some v3 ∧ w.cell? ⟨c, 4, none⟩ = some v4 ∧ ∀ i, w.frozen? ⟨c, i, none⟩ = false := by
  simp [World.cell?, World.frozen?, h]
theorem five_set4 {w : World} {c : Nat} {v0 v1 v2 v3 v4 u : Value} {t : TypeId} (h : w.heap[c]? = some (.cells #[v0, v1, v2, v3, v4] t (0, 0))) : (w.setCell ⟨c, 4, none⟩ u).heap[c]? = some (.cells #[v0, v1, v2, v3, u] t (0, 0)) := by
  simp [World.setCell, Array.getElem?_modify, h]
/-- Five cells laid into a block of the call's own: nothing below is changed. -/
theorem five_below {B : Nat} {w wr : World} {c : Nat} (h : Below B w wr) (hc : B ≤ c) (u0 u1 u2 u3 u4 : Value) : Below B w (((((wr.setCell ⟨c, 0, none⟩ u0).setCell ⟨c, 1, none⟩ u1).setCell ⟨c, 2, none⟩ u2).setCell ⟨c, 3, none⟩ u3).setCell ⟨c, 4, none⟩ u4) := by
  have k : ∀ (x : World) (i : Nat) (u : Value), Below B w x → Below B w (x.setCell ⟨c, i, none⟩ u) := fun x i u hx =>
    ⟨hx.os, hx.tape, hx.output, by have := hx.size; simp [World.setCell]; omega, fun j hj => (Below.heap_setCell x _ u j (by simp; omega)).trans (hx.block j hj)⟩
  exact k _ _ _ (k _ _ _ (k _ _ _ (k _ _ _ (k _ _ _ h))))
set_option maxHeartbeats 400000 in
theorem read_len (a : Option Addr) (n cap : Nat) (w : World) (hn : n ≠ 13) : Calls Tryd.prog 14 #[.slice a n cap] w fun e w' => RdPost w (HdV 0 0 0 0 false) 11 e w' := by
  have hb : ((n : Int) == 13) = false := by simp; omega
  have hc : ((n : Int) != 13) = true := by simp; omega
  have HP : Hid (∀ o, RdPost w (HdV 0 0 0 0 false) 11 (.returned (.tuple #[HdV 0 0 0 0 false, .int .i64 11])) (w.alloc o)) := fun o => ⟨rfl, (Below.refl _ _).alloc (Nat.le_refl _) _⟩
  go_enter Tryd.func14, Tryd.ntmps14
  go_wp2
  refine bodyPost_ret (v := .tuple #[HdV 0 0 0 0 false, .int .i64 11]) ?_ rfl (HP.out _)
  rw [results_cellH rfl]
  go_simp
  rfl
end Go.Proofs.YticdpibaojhpiaaDoor
