/- Joined: StepL RwC Ya Yb MaskJ Yc Kx. -/
import Derived.Test.YtloagniacjfkfaaGreatDoorQA
import Derived.Test.YtloagniacjfkfaaGreatDoorQD
import Derived.Deep.RegionLaw
import Derived.Test.YtloagniacjfkfaaGreatDoorQN
import Derived.Test.YtloagniacjfkfaaGreatDoorQO
/- A law for a list of operations, at one step of a region that draws its order. -/
namespace Go.Proofs.YtloagniacjfkfaaGreatDoor
open Go.RowKit

def OnlyK (K : Act → World → Prop) : Exit → Act → World → Prop := fun e a w => e = .normal ∧ K a w
theorem wp_only {o : Oper} {a : Act} {w : World} {K L : Act → World → Prop} {Q : Exit → Act → World → Prop} (h : Oper.wp Tryz.prog o a w K (OnlyK L)) : Oper.wp Tryz.prog o a w K Q := by
  unfold Oper.wp at h ⊢
  generalize (execOp a.eval o).run Tryz.prog w = r at *
  cases r with
  | ok n w' =>
    cases n <;> simp only [Oper.upon] at h ⊢
    all_goals first
      | exact h
      | exact Calls.mono h (fun e w'' he => by
          cases e with
          | returned v => exact he
          | panicked c => exact absurd he.1 (by simp)
          | outgrown => obtain ⟨_, _, h1, _⟩ := he; cases h1)
  | halt y w' =>
    cases y <;> simp only [Oper.upon] at h ⊢
    all_goals exact absurd h.1 (by simp)
/-- A law for a list of operations, at one step of a region that draws its order. -/
theorem step_of_list {ops : Array Oper} {o : Oper} {a : Act} {w : World} {K : Act → World → Prop} {Q : Exit → Act → World → Prop} {E : Prop} (hgd : o.guard = none)
    (h : wpList Tryz.prog ops (OnlyK K) [o] a w) : if Region.wanted o (yielded ops a.tmps) = true then Oper.wp Tryz.prog o a w K Q else E := by
  have hw : Region.wanted o (yielded ops a.tmps) = true := by simp [Region.wanted, hgd]
  rw [if_pos hw]
  simp only [wpList, hw, if_true] at h
  rcases h with h | ⟨_, a', w', h, _⟩
  · exact wp_only (Oper.wp_mono (fun a w h => h.2) h)
  · cases h
end Go.Proofs.YtloagniacjfkfaaGreatDoor
/- Rows of bytes, cut; bytes put behind, at one step of a region that draws its order. -/
namespace Go.Proofs.YtloagniacjfkfaaGreatDoor
open Go.RowKit
theorem Row.take {w : World} {a : Option Addr} {l : List Int} (h : Row w a l) (k : Nat) : Row w a (l.take k) := by
  rcases h with rfl | ⟨b, off, e, hc⟩
  · exact .inl (by simp)
  · refine .inr ⟨b, off, e, fun i hi => ?_⟩
    rw [List.length_take] at hi
    have hi' : i < k := by omega
    rw [hc i (by omega)]
    simp [hi']
theorem Row.cut {w : World} {a : Option Addr} {l : List Int} (h : Row w a l) (k cap : Nat) (hk : k ≤ l.length) (hc : l.length ≤ cap) : Row w (if cap = k then a else Option.map (fun x => x.add k) a) (l.drop k) := by
  by_cases hkl : k = l.length
  · exact .inl (by rw [hkl]; simp)
  · rcases h with rfl | ⟨b, off, rfl, hr⟩
    · simp at hk; exact absurd hk hkl
    · rw [if_neg (by omega)]
      refine .inr ⟨b, off + k, by simp [Addr.add_lit], fun i hi => ?_⟩
      rw [List.length_drop] at hi
      rw [Nat.add_assoc, hr (k + i) (by omega)]
      simp
/-- 'append(s, x...)', x bytes that lie in memory, or nil. -/
theorem wpList_more {w : World} {ops : Array Oper} {rest : List Oper} {o : Oper} {a : Act} {Q : Exit → Act → World → Prop} (hgd : o.guard = none) (s x : Operand)
    (ho : o.op = .call { callee := .builtin .append, args := #[s, x], argTypes := #[22, 22] })
    (v : Value) (g : Option Nat) (zs : List Int) (hs : a.eval s = v) (hsl : Sl w 5 v g (vals zs))
    (ad : Option Addr) (m c : Nat) (ys : List Int) (hx : a.eval x = .slice ad m c) (hc : ad = none → c = 0) (hm : ys.length = m) (hr : Row w ad ys) (hlen : zs.length + m ≤ 140737488351232)
    (h : ∀ v' w' g', Sl w' 5 v' g' (vals (zs ++ ys)) → (g' = g ∨ ∃ k, g' = some k ∧ w.heap.size ≤ k) → w.grownBy w' g → wpList Tryz.prog ops Q rest (a.put o.dst v') w') : wpList Tryz.prog ops Q (o :: rest) a w := by
  obtain ⟨i0, hi, hz0, hz1, hz2⟩ := info_parts Tryz.info5
  cases ad with
  | none =>
    have hb : ys = [] := by
      rcases hr with h | ⟨b, off, h, _⟩
      · exact h
      · cases h
    have hc0 := hc rfl
    subst hb hc0
    simp at hm
    subst hm
    obtain ⟨a', c', hv, hle, _⟩ := hsl.shape
    subst hv
    refine wpList_append_sl_none hgd s x 22 ho 5 i0 Tryz.underlying22 hi _ _ _ hs hle hx ?_
    exact h _ w g (by simpa using hsl) (.inl rfl) ⟨rfl, rfl, rfl, Nat.le_refl _, fun _ _ _ => rfl⟩
  | some y =>
    refine wpList_append_sl hgd s x 22 ho 5 i0 (.int .u8 0) 1 Tryz.underlying22 hi hz0 hz1 hz2 rfl _ _ _ hs hsl y m c (vals ys) hx (by rw [vals_len]; exact hm) (news_row hr) (vals_one ys) (by rw [vals_len]; omega) (by rw [vals_len]; unfold maxLen; omega) ?_
    intro v' w' g' h1 h2 h3
    exact h v' w' g' (by rw [vals_append]; exact h1) h2 h3
theorem step_more {w : World} {ops : Array Oper} {o : Oper} {a : Act} {K : Act → World → Prop} {Q : Exit → Act → World → Prop} {E : Prop} (hgd : o.guard = none) (s x : Operand)
    (ho : o.op = .call { callee := .builtin .append, args := #[s, x], argTypes := #[22, 22] })
    (v : Value) (g : Option Nat) (zs : List Int) (hs : a.eval s = v) (hsl : Sl w 5 v g (vals zs))
    (ad : Option Addr) (m c : Nat) (ys : List Int) (hx : a.eval x = .slice ad m c) (hc : ad = none → c = 0) (hm : ys.length = m) (hr : Row w ad ys) (hlen : zs.length + m ≤ 140737488351232)
    (h : ∀ v' w' g', Sl w' 5 v' g' (vals (zs ++ ys)) → (g' = g ∨ ∃ k, g' = some k ∧ w.heap.size ≤ k) → w.grownBy w' g → K (a.put o.dst v') w') : if Region.wanted o (yielded ops a.tmps) = true then Oper.wp Tryz.prog o a w K Q else E :=
  step_of_list hgd (wpList_more hgd s x ho v g zs hs hsl ad m c ys hx hc hm hr hlen fun v' w' g' h1 h2 h3 => ⟨rfl, h v' w' g' h1 h2 h3⟩)
end Go.Proofs.YtloagniacjfkfaaGreatDoor
/- zlib's decoder in memory: its cells. -/
namespace Go.Proofs.YtloagniacjfkfaaGreatDoor
open Go.RowKit
/-- The decoder at block d. -/
def ZC (w : World) (d : Nat) (now er lim : Int) (vp vk : Value) (sum tot : Int) (vr : Value) : Prop :=
  w.heap[d]? = some (.cells #[.int .i64 now, .int .i64 er, .int .i64 lim, vp, vk, .int .u32 sum, .int .i64 tot, vr] 51 (0, 0))
section
variable {w : World} {d : Nat} {now er lim sum tot : Int} {vp vk vr : Value}
theorem ZC.cells (h : ZC w d now er lim vp vk sum tot vr) : w.cell? ⟨d, 0, none⟩ = some (.int .i64 now) ∧ w.cell? ⟨d, 1, none⟩ = some (.int .i64 er) ∧ w.cell? ⟨d, 2, none⟩ = some (.int .i64 lim) ∧ w.cell? ⟨d, 3, none⟩ = some vp ∧ w.cell? ⟨d, 4, none⟩ = some vk ∧ w.cell? ⟨d, 5, none⟩ = some (.int .u32 sum) ∧ w.cell? ⟨d, 6, none⟩ = some (.int .i64 tot) ∧ w.cell? ⟨d, 7, none⟩ = some vr ∧ ∀ j, w.frozen? ⟨d, j, none⟩ = false := by
  unfold ZC at h
  refine ⟨?_, ?_, ?_, ?_, ?_, ?_, ?_, ?_, fun j => ?_⟩ <;> simp [World.cell?, World.frozen?, h]
theorem ZC.set0 (h : ZC w d now er lim vp vk sum tot vr) (x : Int) : ZC (w.setCell ⟨d, 0, none⟩ (.int .i64 x)) d x er lim vp vk sum tot vr := by
  unfold ZC at h ⊢; rw [heap_setCell_same w d 0 _ _ _ h]; rfl
theorem ZC.set1 (h : ZC w d now er lim vp vk sum tot vr) (x : Int) : ZC (w.setCell ⟨d, 1, none⟩ (.int .i64 x)) d now x lim vp vk sum tot vr := by
  unfold ZC at h ⊢; rw [heap_setCell_same w d 1 _ _ _ h]; rfl
theorem ZC.set3 (h : ZC w d now er lim vp vk sum tot vr) (v : Value) : ZC (w.setCell ⟨d, 3, none⟩ v) d now er lim v vk sum tot vr := by
  unfold ZC at h ⊢; rw [heap_setCell_same w d 3 _ _ _ h]; rfl
theorem ZC.set4 (h : ZC w d now er lim vp vk sum tot vr) (v : Value) : ZC (w.setCell ⟨d, 4, none⟩ v) d now er lim vp v sum tot vr := by
  unfold ZC at h ⊢; rw [heap_setCell_same w d 4 _ _ _ h]; rfl
theorem ZC.set5 (h : ZC w d now er lim vp vk sum tot vr) (x : Int) : ZC (w.setCell ⟨d, 5, none⟩ (.int .u32 x)) d now er lim vp vk x tot vr := by
  unfold ZC at h ⊢; rw [heap_setCell_same w d 5 _ _ _ h]; rfl
theorem ZC.set6 (h : ZC w d now er lim vp vk sum tot vr) (x : Int) : ZC (w.setCell ⟨d, 6, none⟩ (.int .i64 x)) d now er lim vp vk sum x vr := by
  unfold ZC at h ⊢; rw [heap_setCell_same w d 6 _ _ _ h]; rfl
theorem ZC.set7 (h : ZC w d now er lim vp vk sum tot vr) (v : Value) : ZC (w.setCell ⟨d, 7, none⟩ v) d now er lim vp vk sum tot v := by
  unfold ZC at h ⊢; rw [heap_setCell_same w d 7 _ _ _ h]; rfl
theorem ZC.same {w' : World} (h : ZC w d now er lim vp vk sum tot vr) (hs : w'.heap[d]? = w.heap[d]?) : ZC w' d now er lim vp vk sum tot vr := hs.trans h
theorem ZC.lt (h : ZC w d now er lim vp vk sum tot vr) : d < w.heap.size := lt_of_block h
theorem ZC.ne {e : TypeId} {v : Value} {g : Option Nat} {xs : List Value} (h : ZC w d now er lim vp vk sum tot vr) (hs : Sl w e v g xs) (he : e ≠ 51) : ∀ k, g = some k → k ≠ d := by
  rintro k hk rfl
  obtain ⟨c, e2⟩ := hs.tag k hk
  unfold ZC at h
  rw [h] at e2
  simp only [Option.some.injEq, Obj.cells.injEq] at e2
  exact he e2.2.1.symm
set_option maxHeartbeats 800000 in
set_option maxRecDepth 20000 in
theorem zfail_any (x : Int) (h : ZC w d now er lim vp vk sum tot vr) : Calls Tryz.prog 39 #[.pointer (some ⟨d, 0, none⟩), .int .i64 x] w fun e w' => e = .returned (.tuple #[]) ∧ ZC w' d now x lim (.slice none 0 0) (.pointer none) sum tot vr ∧ Fr w w' d none := by
  obtain ⟨k0, k1, k2, k3, k4, k5, k6, k7, fz⟩ := h.cells
  have HP : Hid (ZC (((w.setCell ⟨d, 1, none⟩ (.int .i64 x)).setCell ⟨d, 3, none⟩ (.slice none 0 0)).setCell ⟨d, 4, none⟩ (.pointer none)) d now x lim (.slice none 0 0) (.pointer none) sum tot vr ∧ Fr w (((w.setCell ⟨d, 1, none⟩ (.int .i64 x)).setCell ⟨d, 3, none⟩ (.slice none 0 0)).setCell ⟨d, 4, none⟩ (.pointer none)) d none) :=
    ⟨((h.set1 x).set3 _).set4 _, (((Fr.refl _ _ _).snoc _ _).snoc _ _).snoc _ _⟩
  clear h
  go_enter Tryz.func39, Tryz.ntmps39
  go_wp2
  go_end0
  exact ⟨rfl, HP.out⟩
end
end Go.Proofs.YtloagniacjfkfaaGreatDoor
/- zlib: the head's or the foot's bytes, gathered; what is a head. -/
namespace Go.Proofs.YtloagniacjfkfaaGreatDoor
open Go.RowKit
theorem Row.takeN {w : World} {a : Option Addr} {l : List Int} (h : Row w a l) (k : Nat) : Row w a (l.take k) := by
  rcases h with rfl | ⟨b, off, rfl, hr⟩
  · exact .inl (by simp)
  · refine .inr ⟨b, off, rfl, fun i hi => ?_⟩
    rw [List.length_take] at hi
    rw [hr i (by omega), List.getElem?_take, if_pos (by omega)]
section
variable {w : World} {d : Nat} {now er lim sum tot : Int} {vp vk vr : Value} {gp : Option Nat}
/-- What gather leaves: too few bytes yet, or the number that they are. -/
def GaPost (w : World) (d : Nat) (now er lim : Int) (vk : Value) (sum tot : Int) (vr : Value) (gp : Option Nat) (size : Nat) (ps bs : List Int) (av : Option Addr) (c : Nat) (e : Ending) (w' : World) : Prop :=
  Fr w w' d gp ∧
  (ps.length + bs.length < size → e = .returned (.tuple #[.int .i64 0, .bool false, .slice none 0 0]) ∧ ∃ vp' gp', ZC w' d now er lim vp' vk sum tot vr ∧ Sl w' 5 vp' gp' (vals (ps ++ bs)) ∧ (gp' = gp ∨ ∃ k, gp' = some k ∧ w.heap.size ≤ k)) ∧
  (size ≤ ps.length + bs.length → e = .returned (.tuple #[.int .i64 (bigN (ps ++ bs.take (size - ps.length))), .bool true, .slice (if c = size - ps.length then av else Option.map (fun x => x.add (size - ps.length)) av) (bs.length - (size - ps.length)) (c - (size - ps.length))]) ∧ ZC w' d now er lim (.slice none 0 0) vk sum tot vr)
set_option maxHeartbeats 3200000 in
set_option maxRecDepth 20000 in
theorem gather_any (size : Nat) (hsz : size = 2 ∨ size = 4) (ps bs : List Int) (av : Option Addr) (m c : Nat) (hm : bs.length = m) (hmc : m ≤ c) (hcm : c ≤ 9223372036854775807) (hc0 : av = none → c = 0) (hrow : Row w av bs) (hbp : Bytes ps) (hbb : Bytes bs) (hps : ps.length < size) (hsl : Sl w 5 vp gp (vals ps)) (h : ZC w d now er lim vp vk sum tot vr) :
    Calls Tryz.prog 36 #[.pointer (some ⟨d, 0, none⟩), .slice av m c, .int .i64 size] w fun e w' => GaPost w d now er lim vk sum tot vr gp size ps bs av c e w' := by
  obtain ⟨ap, cp, hv, hle, hle2, hnn⟩ := hsl.shape
  rw [vals_len] at hv hle
  subst hv
  have hgd := h.ne hsl (by decide)
  have HH : Hid (ZC w d now er lim (.slice ap ps.length cp) vk sum tot vr ∧ Sl w 5 (.slice ap ps.length cp) gp (vals ps) ∧ Row w av bs ∧ Bytes ps ∧ Bytes bs ∧ (∀ k, gp = some k → k ≠ d)) := ⟨h, hsl, hrow, hbp, hbb, hgd⟩
  obtain ⟨k0, k1, k2, k3, k4, k5, k6, k7, fz⟩ := h.cells
  obtain ⟨P, hP⟩ : ∃ P, ps.length = P := ⟨_, rfl⟩
  have HPP : Hid (ps.length = P ∧ bs.length = m) := ⟨hP, hm⟩
  obtain ⟨K, hK⟩ : ∃ K, size - P = K := ⟨_, rfl⟩
  have hKi : (size : Int) - (P : Int) = (K : Int) := by omega
  have hK4 : K ≤ 4 ∧ size ≤ 4 ∧ P ≤ 4 := by omega
  rw [hP] at hps k3 hle
  have HZ : Hid (∀ N w7 g7 a7 z7 c7, N ≤ m → Sl w7 5 (.slice a7 z7 c7) g7 (vals (ps ++ bs.take N)) → (g7 = gp ∨ ∃ k, g7 = some k ∧ w.heap.size ≤ k) → w.grownBy w7 gp → ZC w7 d now er lim (.slice ap P cp) vk sum tot vr ∧ ZC (w7.setCell ⟨d, 3, none⟩ (.slice a7 z7 c7)) d now er lim (.slice a7 z7 c7) vk sum tot vr ∧ Sl (w7.setCell ⟨d, 3, none⟩ (.slice a7 z7 c7)) 5 (.slice a7 z7 c7) g7 (vals (ps ++ bs.take N)) ∧ Fr w (w7.setCell ⟨d, 3, none⟩ (.slice a7 z7 c7)) d gp) := by
    intro N w7 g7 a7 z7 c7 hN h1 h2 h3
    have hz : ZC w7 d now er lim (.slice ap P cp) vk sum tot vr := by
      rw [← hP]; exact HH.out.1.same (h3.block d HH.out.1.lt (fun e => HH.out.2.2.2.2.2 d e.symm rfl))
    refine ⟨hz, hz.set3 _, h1.same fun k hk => Below.heap_setCell _ _ _ _ ?_, ?_⟩
    · intro e
      subst e
      rcases h2 with e2 | ⟨j, e2, hj⟩
      · exact HH.out.2.2.2.2.2 k (e2 ▸ hk) rfl
      · rw [e2] at hk; cases hk; have := HH.out.1.lt; omega
    · have hf : Fr w w7 d gp := ⟨h3.os, h3.tape, h3.output, h3.size, fun k hk _ h2 => h3.block k hk h2⟩
      exact hf.snoc _ _
  have hrT : Row w av (bs.take K) := hrow.takeN K
  by_cases hA : P + m < size
  · have HP : Hid (∀ w8 a7 z7 c7 g7, ZC w8 d now er lim (.slice a7 z7 c7) vk sum tot vr → Sl w8 5 (.slice a7 z7 c7) g7 (vals (ps ++ bs)) → (g7 = gp ∨ ∃ k, g7 = some k ∧ w.heap.size ≤ k) → Fr w w8 d gp → GaPost w d now er lim vk sum tot vr gp size ps bs av c (.returned (.tuple #[.int .i64 0, .bool false, .slice none 0 0])) w8) := by
      intro w8 a7 z7 c7 g7 h1 h2 h3 h4
      exact ⟨h4, fun _ => ⟨rfl, _, g7, h1, h2, h3⟩, fun hx => by have := HPP.out; omega⟩
    obtain ⟨N, hN⟩ : ∃ N, m = N := ⟨_, rfl⟩
    have hNm : N ≤ m := by omega
    have HTN : Hid ((bs.take N).length = N) := by show _ = _; rw [List.length_take]; omega
    have HRT : Hid (Row w av (bs.take N)) := hrow.takeN N
    have HSL : Hid (Sl w 5 (.slice ap P cp) gp (vals ps)) := by rw [← hP]; exact HH.out.2.1
    have HLL : Hid ((vals (ps ++ bs.take N)).length = P + N) := by show _ = _; rw [vals_len, List.length_append, HTN.out, hP]
    have HC0 : Hid (av = none → c = 0) := hc0
    have HBT : Hid (bs.take N = bs) := by show _ = _; rw [← hN, ← hm, List.take_length]
    have hi : (m : Int) < (K : Int) := by omega
    have hi2 : ¬ (K : Int) < (m : Int) := by omega
    have hPN : (P : Int) + (N : Int) < (size : Int) := by omega
    clear h hsl hrow hrT hgd HH hbp hbb hnn hle2 hc0 hsz hK
    subst hN
    go_enter Tryz.func36, Tryz.ntmps36
    go_wp2
    go_region_law (first
      | (refine step_more rfl _ _ rfl (.slice ap P cp) gp ps rfl (HSL.out.same fun _ _ => rfl) av m c (bs.take m) rfl HC0.out HTN.out (HRT.out.same fun _ _ _ => rfl) (by omega) ?_; intro v7 w7 g7 hs7 hg7 hgr7; obtain ⟨a7, c7, hv7, -⟩ := hs7.shape; rw [HLL.out] at hv7; subst hv7; obtain ⟨hz7, hz8, hs8, hf8⟩ := HZ.out m w7 g7 a7 (P + m) c7 hNm hs7 hg7 ⟨hgr7.os, hgr7.tape, hgr7.output, hgr7.size, hgr7.block⟩; have q3 := hz7.cells.2.2.2.1; have qf := hz7.cells.2.2.2.2.2.2.2.2)
      | fail)
    all_goals
      have HPF : Hid (GaPost w d now er lim vk sum tot vr gp size ps bs av c (.returned (.tuple #[.int .i64 0, .bool false, .slice none 0 0])) (w7.setCell ⟨d, 3, none⟩ (.slice a7 (P + m) c7))) := HP.out _ a7 (P + m) c7 g7 hz8 (by rw [← HBT.out]; exact hs8) hg7 hf8
      have q3' := hz8.cells.2.2.2.1
      clear hs7 hg7 hgr7 hz7 hz8 hs8 hf8 HP
      go_wp2
      go_ret3
      exact HPF.out
  · have hKm : K ≤ m := by omega
    have HTN : Hid ((bs.take K).length = K) := by show _ = _; rw [List.length_take]; omega
    have HRT : Hid (Row w av (bs.take K)) := hrT
    have HSL : Hid (Sl w 5 (.slice ap P cp) gp (vals ps)) := by rw [← hP]; exact HH.out.2.1
    have HLL : Hid ((vals (ps ++ bs.take K)).length = size) := by show _ = _; rw [vals_len, List.length_append, HTN.out, hP]; omega
    have HC0 : Hid (av = none → c = 0) := hc0
    have hNm : K ≤ m := hKm
    have HBig : Hid (∀ w8 a7 c7, size ≤ c7 → c7 ≤ maxLen → Row w8 a7 (ps ++ bs.take K) → Calls Tryz.prog 65 #[.slice a7 size c7, .int .i64 0, .int .i64 size] w8 fun e w' => e = .returned (.tuple #[.int .i64 (bigN (ps ++ bs.take K)), .int .i64 0]) ∧ w' = w8) := by
      intro w8 a7 c7 h1 h2 h3
      have hlen : (ps ++ bs.take K).length = size := by rw [List.length_append, HTN.out, hP]; omega
      have := Big_any a7 size c7 0 size (ps ++ bs.take K) w8 hlen h1 h2 (by rcases hsz with rfl | rfl <;> decide) (HH.out.2.2.2.1.append fun z hz => HH.out.2.2.2.2.1 z (List.mem_of_mem_take hz)) h3
      have e1 : cutE (ps ++ bs.take K).length 0 size = 0 := by unfold cutE; rw [hlen, if_neg (by omega), if_neg (by omega)]
      have e2 : cutL (ps ++ bs.take K) 0 size = ps ++ bs.take K := by
        unfold cutL
        rw [if_pos e1]
        simp only [Int.toNat_zero, List.drop_zero, Int.toNat_natCast]
        rw [← hlen, List.take_length]
      rw [e1, e2] at this
      exact this
    obtain ⟨bv, hbv⟩ : ∃ bv, bigN (ps ++ bs.take K) = bv := ⟨_, rfl⟩
    rw [hbv] at HBig
    have HP : Hid (∀ w8, ZC w8 d now er lim (.slice none 0 0) vk sum tot vr → Fr w w8 d gp → GaPost w d now er lim vk sum tot vr gp size ps bs av c (.returned (.tuple #[.int .i64 bv, .bool true, .slice (if c = K then av else Option.map (fun x => x.add K) av) (m - K) (c - K)])) w8) := by
      intro w8 h1 h2
      refine ⟨h2, fun hx => by have := HPP.out; omega, fun _ => ⟨?_, h1⟩⟩
      rw [HPP.out.1, hK, hbv, hm]
    have hi : ¬ (m : Int) < (K : Int) := by omega
    have hPN : ¬ (P : Int) + (K : Int) < (size : Int) := by omega
    have hPKs : (P : Int) + (K : Int) = (size : Int) := by omega
    have hKmi : (K : Int) ≤ (m : Int) := by omega
    have hKci : (K : Int) ≤ (c : Int) := by omega
    have hK0i : (0 : Int) ≤ (K : Int) := by omega
    have hKc : K ≤ c := by omega
    clear h hsl hrow hrT hgd HH hbp hbb hnn hle2 hc0 hsz hK hbv
    rcases Nat.lt_or_eq_of_le hKm with hlt | heq
    · have hi2 : (K : Int) < (m : Int) := by omega
      rw [if_neg (show ¬ c = K by omega)] at HP
      go_enter Tryz.func36, Tryz.ntmps36
      go_wp2
      go_region_law (first
        | (refine step_more rfl _ _ rfl (.slice ap P cp) gp ps rfl (HSL.out.same fun _ _ => rfl) av K c (bs.take K) rfl HC0.out HTN.out (HRT.out.same fun _ _ _ => rfl) (by omega) ?_; intro v7 w7 g7 hs7 hg7 hgr7; obtain ⟨a7, c7, hv7, hl7, hm7, -⟩ := hs7.shape; rw [HLL.out] at hv7 hl7; subst hv7; obtain ⟨hz7, hz8, hs8, hf8⟩ := HZ.out K w7 g7 a7 size c7 hNm hs7 hg7 ⟨hgr7.os, hgr7.tape, hgr7.output, hgr7.size, hgr7.block⟩; have q3 := hz7.cells.2.2.2.1; have qf := hz7.cells.2.2.2.2.2.2.2.2)
        | fail)
      all_goals
        have HB2 := HBig.out _ a7 c7 hl7 hm7 (hs8.row rfl)
        have hf9 : Fr w ((w7.setCell ⟨d, 3, none⟩ (.slice a7 size c7)).setCell ⟨d, 3, none⟩ (.slice none 0 0)) d gp := hf8.snoc _ _
        have HPF : Hid (GaPost w d now er lim vk sum tot vr gp size ps bs av c (.returned (.tuple #[.int .i64 bv, .bool true, .slice (Option.map (fun x => x.add K) av) (m - K) (c - K)])) ((w7.setCell ⟨d, 3, none⟩ (.slice a7 size c7)).setCell ⟨d, 3, none⟩ (.slice none 0 0)).drew) := HP.out _ ((hz8.set3 (.slice none 0 0)).same rfl) ⟨hf9.os, hf9.tape, hf9.output, hf9.size, hf9.block⟩
        have q3' := hz8.cells.2.2.2.1
        have qf' := hz8.cells.2.2.2.2.2.2.2.2
        clear hs7 hg7 hgr7 hz7 hz8 hs8 hf8 hf9 HP
        go_wp2_with fail
        refine HB2.mono ?_
        rintro e w9 ⟨rfl, hw9⟩
        rw [hw9]
        clear hw9 HB2
        go_wp2
        go_region
        go_wp2
        go_ret3
        exact HPF.out
    · obtain rfl : m = K := heq.symm
      by_cases hcK : c = m
      · obtain rfl : c = m := hcK
        rw [if_pos rfl, Nat.sub_self] at HP
        go_enter Tryz.func36, Tryz.ntmps36
        go_wp2
        go_region_law (first
          | (refine step_more rfl _ _ rfl (.slice ap P cp) gp ps rfl (HSL.out.same fun _ _ => rfl) av c c (bs.take c) rfl HC0.out HTN.out (HRT.out.same fun _ _ _ => rfl) (by omega) ?_; intro v7 w7 g7 hs7 hg7 hgr7; obtain ⟨a7, c7, hv7, hl7, hm7, -⟩ := hs7.shape; rw [HLL.out] at hv7 hl7; subst hv7; obtain ⟨hz7, hz8, hs8, hf8⟩ := HZ.out c w7 g7 a7 size c7 hNm hs7 hg7 ⟨hgr7.os, hgr7.tape, hgr7.output, hgr7.size, hgr7.block⟩; have q3 := hz7.cells.2.2.2.1; have qf := hz7.cells.2.2.2.2.2.2.2.2)
          | fail)
        all_goals
          have HB2 := HBig.out _ a7 c7 hl7 hm7 (hs8.row rfl)
          have hf9 : Fr w ((w7.setCell ⟨d, 3, none⟩ (.slice a7 size c7)).setCell ⟨d, 3, none⟩ (.slice none 0 0)) d gp := hf8.snoc _ _
          have HPF : Hid (GaPost w d now er lim vk sum tot vr gp size ps bs av c (.returned (.tuple #[.int .i64 bv, .bool true, .slice av 0 0])) ((w7.setCell ⟨d, 3, none⟩ (.slice a7 size c7)).setCell ⟨d, 3, none⟩ (.slice none 0 0)).drew) := HP.out _ ((hz8.set3 (.slice none 0 0)).same rfl) ⟨hf9.os, hf9.tape, hf9.output, hf9.size, hf9.block⟩
          have q3' := hz8.cells.2.2.2.1
          have qf' := hz8.cells.2.2.2.2.2.2.2.2
          clear hs7 hg7 hgr7 hz7 hz8 hs8 hf8 hf9 HP
          go_wp2_with fail
          refine HB2.mono ?_
          rintro e w9 ⟨rfl, hw9⟩
          rw [hw9]
          clear hw9 HB2
          go_wp2
          go_region
          go_wp2
          go_ret3
          exact HPF.out
      · have hcm2 : ¬ (c : Int) = (m : Int) := by omega
        rw [if_neg hcK, Nat.sub_self] at HP
        go_enter Tryz.func36, Tryz.ntmps36
        go_wp2
        go_region_law (first
          | (refine step_more rfl _ _ rfl (.slice ap P cp) gp ps rfl (HSL.out.same fun _ _ => rfl) av m c (bs.take m) rfl HC0.out HTN.out (HRT.out.same fun _ _ _ => rfl) (by omega) ?_; intro v7 w7 g7 hs7 hg7 hgr7; obtain ⟨a7, c7, hv7, hl7, hm7, -⟩ := hs7.shape; rw [HLL.out] at hv7 hl7; subst hv7; obtain ⟨hz7, hz8, hs8, hf8⟩ := HZ.out m w7 g7 a7 size c7 hNm hs7 hg7 ⟨hgr7.os, hgr7.tape, hgr7.output, hgr7.size, hgr7.block⟩; have q3 := hz7.cells.2.2.2.1; have qf := hz7.cells.2.2.2.2.2.2.2.2)
          | fail)
        all_goals
          have HB2 := HBig.out _ a7 c7 hl7 hm7 (hs8.row rfl)
          have hf9 : Fr w ((w7.setCell ⟨d, 3, none⟩ (.slice a7 size c7)).setCell ⟨d, 3, none⟩ (.slice none 0 0)) d gp := hf8.snoc _ _
          have HPF : Hid (GaPost w d now er lim vk sum tot vr gp size ps bs av c (.returned (.tuple #[.int .i64 bv, .bool true, .slice (Option.map (fun x => x.add m) av) 0 (c - m)])) ((w7.setCell ⟨d, 3, none⟩ (.slice a7 size c7)).setCell ⟨d, 3, none⟩ (.slice none 0 0)).drew) := HP.out _ ((hz8.set3 (.slice none 0 0)).same rfl) ⟨hf9.os, hf9.tape, hf9.output, hf9.size, hf9.block⟩
          have q3' := hz8.cells.2.2.2.1
          have qf' := hz8.cells.2.2.2.2.2.2.2.2
          clear hs7 hg7 hgr7 hz7 hz8 hs8 hf8 hf9 HP
          go_wp2_with fail
          refine HB2.mono ?_
          rintro e w9 ⟨rfl, hw9⟩
          rw [hw9]
          clear hw9 HB2
          go_wp2
          go_region
          go_wp2
          go_ret3
          exact HPF.out
end
end Go.Proofs.YtloagniacjfkfaaGreatDoor
/- The lowest bits of an int. -/
namespace Go.Proofs.YtloagniacjfkfaaGreatDoor
open Go.RowKit

theorem i64_maskI (n : Int) (k : Nat) (m : Int) (hk : k ≤ 32) (hm : (BitVec.ofInt 64 m).toNat = 2 ^ k - 1) : bits .and .i64 n m = n % 2 ^ k := by
  have key : (BitVec.ofInt 64 n &&& BitVec.ofInt 64 m).toNat = (n % ((2 ^ 64 : Nat) : Int)).toNat % 2 ^ k := by
    rw [BitVec.toNat_and, BitVec.toNat_ofInt, hm, Nat.and_two_pow_sub_one_eq_mod]
  show IntKind.i64.wrap ((BitVec.ofInt 64 n &&& BitVec.ofInt 64 m).toNat : Nat) = n % 2 ^ k
  rw [key, IntKind.wrap_i64]
  have h1 : ((2 ^ k : Nat) : Int) = 2 ^ k := by rw [Int.natCast_pow]; rfl
  have h2 : (2 : Nat) ^ k ≤ 2 ^ 32 := Nat.pow_le_pow_right (by omega) hk
  have h3 : ((n % ((2 ^ 64 : Nat) : Int)).toNat : Int) = n % 18446744073709551616 := by omega
  have h4 : n % 18446744073709551616 % ((2 ^ k : Nat) : Int) = n % ((2 ^ k : Nat) : Int) := by
    rw [Int.emod_emod_of_dvd]
    have : (2 : Nat) ^ 64 = 2 ^ k * 2 ^ (64 - k) := by rw [← Nat.pow_add]; congr 1; omega
    exact ⟨((2 ^ (64 - k) : Nat) : Int), by rw [← Int.natCast_mul, ← this]; rfl⟩
  have h5 : (((n % ((2 ^ 64 : Nat) : Int)).toNat % 2 ^ k : Nat) : Int) = n % ((2 ^ k : Nat) : Int) := by
    rw [Int.natCast_emod, h3, h4]
  rw [h5, ← h1]
  have h6 := Int.emod_nonneg n (show ((2 ^ k : Nat) : Int) ≠ 0 by have := Nat.two_pow_pos k; omega)
  have h7 := Int.emod_lt_of_pos n (show (0 : Int) < ((2 ^ k : Nat) : Int) by have := Nat.two_pow_pos k; omega)
  generalize n % ((2 ^ k : Nat) : Int) = r at *
  omega
theorem want_eq (v : Int) (m : Nat) (hm : m ≤ 32) : bits .and .i64 v (wrap64 (wrap64 (2 ^ m) - 1)) = v % 2 ^ m := by
  have e : (2 : Int) ^ m = ((2 ^ m : Nat) : Int) := by rw [Int.natCast_pow]; rfl
  have h2 : (2 : Nat) ^ m ≤ 2 ^ 32 := Nat.pow_le_pow_right (by omega) hm
  have h3 := Nat.two_pow_pos m
  have hw : wrap64 (wrap64 (2 ^ m) - 1) = ((2 ^ m - 1 : Nat) : Int) := by
    rw [e]; unfold wrap64; generalize (2 : Nat) ^ m = q at *; omega
  rw [hw]
  refine i64_maskI v m _ hm ?_
  rw [BitVec.toNat_ofInt]
  generalize (2 : Nat) ^ m = q at *
  omega
end Go.Proofs.YtloagniacjfkfaaGreatDoor
/- zlib: what is a head. -/
namespace Go.Proofs.YtloagniacjfkfaaGreatDoor
open Go.RowKit
/-- Two bytes, as one number, are a head. -/
def zhd (v : Nat) : Bool := decide (v / 256 % 16 = 8) && (decide (v / 4096 ≤ 7) && (decide (v / 32 % 2 = 0) && decide (v % 31 = 0)))
theorem and32 (v : Nat) (hv : v < 65536) : bits .and .i64 (v : Int) 32 = ((v / 32 % 2 * 32 : Nat) : Int) := by
  show IntKind.i64.wrap ((BitVec.ofInt 64 (v : Int) &&& BitVec.ofInt 64 32).toNat : Nat) = _
  have e : (BitVec.ofInt 64 (v : Int) &&& BitVec.ofInt 64 32).toNat = v / 32 % 2 * 32 := by
    rw [BitVec.toNat_and, BitVec.toNat_ofInt, BitVec.toNat_ofInt]
    have h1 : ((v : Int) % ((2 ^ 64 : Nat) : Int)).toNat = v := by omega
    have h2 : ((32 : Int) % ((2 ^ 64 : Nat) : Int)).toNat = 2 ^ 5 := by decide
    rw [h1, h2]
    apply Nat.eq_of_testBit_eq
    intro i
    rw [Nat.testBit_and, Nat.testBit_two_pow, show v / 32 % 2 * 32 = 2 ^ 5 * (v / 2 ^ 5 % 2 ^ 1) by omega, Nat.testBit_two_pow_mul, Nat.testBit_mod_two_pow, Nat.testBit_div_two_pow]
    by_cases hi : 5 = i
    · subst hi; simp
    · by_cases h5 : 5 ≤ i
      · have : ¬ i - 5 < 1 := by omega
        simp [hi, this]
      · simp [hi, h5]
  rw [e, IntKind.wrap_i64]
  omega
set_option maxHeartbeats 800000 in
set_option maxRecDepth 20000 in
theorem isHead_any (v : Nat) (w : World) (hv : v < 65536) : Calls Tryz.prog 37 #[.int .i64 v] w fun e w' => e = .returned (.bool (zhd v)) ∧ w' = w := by
  obtain ⟨A, hA⟩ : ∃ A, v / 256 % 16 = A := ⟨_, rfl⟩
  have h1 : bits .and .i64 ((v : Int) / 2 ^ 8) 15 = (A : Int) := by rw [i64_maskI _ 4 15 (by decide) (by decide), ← hA]; norm_cast
  have h1' : bits .and .i64 ((v : Int) / 256) 15 = (A : Int) := h1
  have h3 := and32 v hv
  obtain ⟨Z, hZ⟩ : ∃ Z, zhd v = Z := ⟨_, rfl⟩
  rw [hZ]
  unfold zhd at hZ
  rw [hA] at hZ
  go_enter Tryz.func37, Tryz.ntmps37
  by_cases c1 : A = 8
  · subst c1
    rw [decide_eq_true (show (8 : Nat) = 8 from rfl), Bool.true_and] at hZ
    obtain ⟨Q, hQ⟩ : ∃ Q, v / 4096 = Q := ⟨_, rfl⟩
    have hQi : (v : Int) / 4096 = (Q : Int) := by omega
    have hQ2 : (v : Int) / 2 ^ 12 = (Q : Int) := hQi
    rw [hQ] at hZ
    by_cases c2 : Q ≤ 7
    · have c2i : (Q : Int) ≤ 7 := by omega
      rw [decide_eq_true c2, Bool.true_and] at hZ
      obtain ⟨b, hb⟩ : ∃ b, v / 32 % 2 = b := ⟨_, rfl⟩
      rw [hb] at h3 hZ
      by_cases c3 : b = 0
      · subst c3
        rw [decide_eq_true (show (0 : Nat) = 0 from rfl), Bool.true_and] at hZ
        obtain ⟨R, hR⟩ : ∃ R, v % 31 = R := ⟨_, rfl⟩
        have hRi : (v : Int) % 31 = (R : Int) := by omega
        have hRt : ((v : Int)).tmod 31 = (R : Int) := by rw [Int.tmod_eq_emod_of_nonneg (by omega)]; exact hRi
        rw [hR] at hZ
        have h3z : bits .and .i64 (v : Int) 32 = 0 := by rw [h3]; rfl
        clear h3 hA hQ hb hR
        by_cases c4 : R = 0
        · subst c4
          rw [decide_eq_true (show (0 : Nat) = 0 from rfl)] at hZ
          subst hZ
          go_wp2
          go_ret
          exact ⟨rfl, rfl⟩
        · have c4b : ((R : Int) == 0) = false := by simp; omega
          rw [decide_eq_false c4] at hZ
          subst hZ
          go_wp2
          go_ret
          exact ⟨rfl, rfl⟩
      · obtain rfl : b = 1 := by omega
        rw [decide_eq_false (by decide), Bool.false_and] at hZ
        subst hZ
        have h3z : bits .and .i64 (v : Int) 32 = 32 := by rw [h3]; rfl
        clear h3 hA hQ hb
        go_wp2
        go_ret
        exact ⟨rfl, rfl⟩
    · have c2i : ¬ (Q : Int) ≤ 7 := by omega
      rw [decide_eq_false c2, Bool.false_and] at hZ
      subst hZ
      clear h3 hA hQ
      go_wp2
      go_ret
      exact ⟨rfl, rfl⟩
  · have c1b : ((A : Int) == 8) = false := by simp; omega
    rw [decide_eq_false c1] at hZ
    subst hZ
    clear h3 hA
    go_wp2
    go_ret
    exact ⟨rfl, rfl⟩
end Go.Proofs.YtloagniacjfkfaaGreatDoor
/- A decoder's blocks; it stays where they stay. -/
namespace Go.Proofs.YtloagniacjfkfaaGreatDoor
open Go.RowKit
section
variable {base : Nat} {w : World} {d lim : Nat} {L : List Int} {o : Ow} {r : Og}
theorem Dec.blocks (h : Dec base w d lim L o r) : d < w.heap.size ∧ (∀ k, o.g = some k → k < w.heap.size) ∧ (∀ k, o.q = some k → k < w.heap.size) := by
  have hst := h.stand
  cases r with
  | stop s l =>
    obtain ⟨a, V, hl, ha, hi⟩ := hst
    have hq := ha.hold.row
    refine ⟨ha.lt, ?_, fun k hk => hq.lt hk⟩
    unfold AtS at ha
    split at ha
    · obtain ⟨rv, zs, hd, hs, _⟩ := ha
      exact fun k hk => hs.lt hk
    · unfold LiveA at ha
      split at ha
      · obtain ⟨a0, _, ⟨zs, gone, hd, _⟩, _⟩ := ha
        intro k hk; obtain ⟨c, e⟩ := hd.gtag k hk; exact lt_of_block e
      · obtain ⟨⟨zs, gone, hd, _⟩, _⟩ := ha
        intro k hk; obtain ⟨c, e⟩ := hd.gtag k hk; exact lt_of_block e
  | fail er out =>
    obtain ⟨⟨t, hd, _⟩, _, hg, hq⟩ := hst
    exact ⟨hd.lt, (fun k hk => by rw [hg] at hk; cases hk), (fun k hk => by rw [hq] at hk; cases hk)⟩
/-- Of which types a decoder's blocks are. -/
theorem Dec.tags (h : Dec base w d lim L o r) : (∃ cur, w.heap[d]? = some (.cells cur 119 (0, 0))) ∧ (∀ k, o.g = some k → ∃ cur, w.heap[k]? = some (.cells cur 5 (0, 0))) ∧ (∀ k, o.q = some k → ∃ cur, w.heap[k]? = some (.cells cur 3 (0, 0))) := by
  have hst := h.stand
  cases r with
  | stop s l =>
    obtain ⟨a, V, hl, ha, hi⟩ := hst
    have hq := ha.hold.row
    have h3 : ∀ k, o.q = some k → ∃ cur, w.heap[k]? = some (.cells cur 3 (0, 0)) := fun k hk => hq.tag k hk
    unfold AtS at ha
    split at ha
    · obtain ⟨rv, zs, hd, hs, _⟩ := ha
      exact ⟨hd.tag, fun k hk => hs.tag k hk, h3⟩
    · unfold LiveA at ha
      split at ha
      · obtain ⟨a0, _, ⟨zs, gone, hd, _⟩, _⟩ := ha
        exact ⟨hd.tag, fun k hk => hd.gtag k hk, h3⟩
      · obtain ⟨⟨zs, gone, hd, _⟩, _⟩ := ha
        exact ⟨hd.tag, fun k hk => hd.gtag k hk, h3⟩
  | fail er out =>
    obtain ⟨⟨t, hd, _⟩, _, hg, hq⟩ := hst
    exact ⟨hd.tag, (fun k hk => by rw [hg] at hk; cases hk), (fun k hk => by rw [hq] at hk; cases hk)⟩
/-- A decoder keeps what it is where its own blocks are kept and the others stay tame. -/
theorem Dec.keep {w' : World} (h : Dec base w d lim L o r) (ht : Tame w w') (hd0 : w'.heap[d]? = w.heap[d]?) (hg0 : ∀ k, o.g = some k → w'.heap[k]? = w.heap[k]?) (hq0 : ∀ k, o.q = some k → w'.heap[k]? = w.heap[k]?) : Dec base w' d lim L o r := by
  have hot := h.t
  have hho : ∀ {s : St} {V : Vs}, Hold w s lim s.out.length V o → Hold w' s lim s.out.length V o := fun hh =>
    hh.keep ht (fun k hk => by rw [hot] at hk; cases hk) hq0
  refine ⟨h.runs, ?_, h.t, h.fr, h.bit, h.m8⟩
  have hst := h.stand
  cases r with
  | stop s l =>
    obtain ⟨a, V, hl, ha, hi⟩ := hst
    refine ⟨a, V, hl, ?_, hi⟩
    have ha : AtS w d lim s.out.length s L a o V := ha
    show AtS w' d lim s.out.length s L a o V
    unfold AtS at ha ⊢
    by_cases h11 : s.now = 11
    · rw [if_pos h11] at ha ⊢
      obtain ⟨rv, zs, hd, hs, hr, hh, hll⟩ := ha
      exact ⟨rv, zs, hd.same hd0 (fun k hk => by cases hk), hs.same hg0, hr, hho hh, hll⟩
    · rw [if_neg h11] at ha ⊢
      unfold LiveA at ha ⊢
      by_cases h1 : s.now = 1
      · rw [if_pos h1] at ha ⊢
        obtain ⟨a0, e, ⟨zs, gone, hd, hr⟩, hh, hll⟩ := ha
        exact ⟨a0, e, ⟨zs, gone, hd.same hd0 hg0, hr⟩, hho hh, hll⟩
      · rw [if_neg h1] at ha ⊢
        obtain ⟨⟨zs, gone, hd, hr⟩, hh, hll⟩ := ha
        exact ⟨⟨zs, gone, hd.same hd0 hg0, hr⟩, hho hh, hll⟩
  | fail er out =>
    obtain ⟨⟨t, hd, h1, h2, h3, h4, h5⟩, h6⟩ := hst
    exact ⟨⟨t, hd.same hd0 (fun k hk => by cases hk), h1, h2, h3, h4, h5.same fun k hk => by rw [hot] at hk; cases hk⟩, h6⟩
theorem Dec.err_ne {er : Int} {out : List Int} (h : Dec base w d lim L o (.fail er out)) : er ≠ 0 := h.stand.2.1
end
end Go.Proofs.YtloagniacjfkfaaGreatDoor
