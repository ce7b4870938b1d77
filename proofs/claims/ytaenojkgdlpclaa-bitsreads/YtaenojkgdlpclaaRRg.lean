import Derived.Test.YtaenojkgdlpclaaRRe
namespace Go.Proofs.Ytaenojkgdlpclaa
open Go.RowKit

def OnlyK (K : Act → World → Prop) : Exit → Act → World → Prop := fun e a w => e = .normal ∧ K a w
theorem wp_only {o : Oper} {a : Act} {w : World} {K L : Act → World → Prop} {Q : Exit → Act → World → Prop} (h : Oper.wp Try.prog o a w K (OnlyK L)) : Oper.wp Try.prog o a w K Q := by
  unfold Oper.wp at h ⊢
  generalize (execOp a.eval o).run Try.prog w = r at *
  cases r with
  | ok n w' =>
    cases n <;> simp only [Oper.upon] at h ⊢
    all_goals first
      | exact h
      | exact Calls.mono h (fun e w'' he => by
          cases e with
          | returned v => exact he
          | panicked c => exact absurd he.1 (by simp)
          | outgrown => obtain ⟨_, _, h1, _⟩ := he; cases h1)
  | halt y w' =>
    cases y <;> simp only [Oper.upon] at h ⊢
    all_goals exact absurd h.1 (by simp)
/-- A law for a list of operations, at one step of a region that draws its order. -/
theorem step_of_list {ops : Array Oper} {o : Oper} {a : Act} {w : World} {K : Act → World → Prop} {Q : Exit → Act → World → Prop} {E : Prop} (hgd : o.guard = none)
    (h : wpList Try.prog ops (OnlyK K) [o] a w) : if Region.wanted o (yielded ops a.tmps) = true then Oper.wp Try.prog o a w K Q else E := by
  have hw : Region.wanted o (yielded ops a.tmps) = true := by simp [Region.wanted, hgd]
  rw [if_pos hw]
  simp only [wpList, hw, if_true] at h
  rcases h with h | ⟨_, a', w', h, _⟩
  · exact wp_only (Oper.wp_mono (fun a w h => h.2) h)
  · cases h
theorem step_append_ints {w : World} {ops : Array Oper} {o : Oper} {a : Act} {K : Act → World → Prop} {Q : Exit → Act → World → Prop} {E : Prop} (hgd : o.guard = none) (s x : Operand)
    (ho : o.op = .call { callee := .builtin .append, args := #[s, x], argTypes := #[28, 28] })
    (v : Value) (g : Option Nat) (l : List Int) (hs : a.eval s = v) (hsl : Sl w 3 v g (ivals l)) (ad : Option Addr) (m c : Nat) (q : List Int) (hx : a.eval x = .slice ad m c) (hm : q.length = m) (hc : ad = none → c = 0) (hr : IRow w ad q) (hlen : l.length + m ≤ 1000000)
    (h : ∀ v' w' g', Sl w' 3 v' g' (ivals (l ++ q)) → (g' = g ∨ ∃ k, g' = some k ∧ w.heap.size ≤ k) → w.grownBy w' g → K (a.put o.dst v') w') : if Region.wanted o (yielded ops a.tmps) = true then Oper.wp Try.prog o a w K Q else E :=
  step_of_list hgd (wpList_append_ints hgd s x ho v g l hs hsl ad m c q hx hm hc hr hlen fun v' w' g' h1 h2 h3 => ⟨rfl, h v' w' g' h1 h2 h3⟩)
theorem step_push_byte {w : World} {ops : Array Oper} {o : Oper} {a : Act} {K : Act → World → Prop} {Q : Exit → Act → World → Prop} {E : Prop} (hgd : o.guard = none) (s x : Operand)
    (ho : o.op = .call { callee := .builtin .append, args := #[s, x], argTypes := #[31, 31] })
    (B : Nat) (w0 wr : World) (z : Int) (hw : w = wr.alloc (.cells #[.int .u8 z] 5)) (v : Value) (g : Option Nat) (l : List Int) (hs : a.eval s = v) (hsl : Sl wr 5 v g (vals l)) (hx : a.eval x = .slice (some ⟨wr.heap.size, 0, none⟩) 1 1)
    (hlen : l.length ≤ 1000000) (hb : Below B w0 wr) (hB : B ≤ wr.heap.size) (hg : ∀ k, g = some k → B ≤ k)
    (h : ∀ v' w' g', Sl w' 5 v' g' (vals (l ++ [z])) → (∀ k, g' = some k → B ≤ k) → Below B w0 w' → K (a.put o.dst v') w') : if Region.wanted o (yielded ops a.tmps) = true then Oper.wp Try.prog o a w K Q else E :=
  step_of_list hgd (wpList_push_byte hgd s x ho B w0 wr z hw v g l hs hsl hx hlen hb hB hg fun v' w' g' h1 h2 h3 => ⟨rfl, h v' w' g' h1 h2 h3⟩)

theorem Sl.nocap {w : World} {e : TypeId} {a : Option Addr} {n cap : Nat} {g : Option Nat} {xs : List Value} (h : Sl w e (.slice a n cap) g xs) : a = none → cap = 0 := by
  obtain ⟨a', c', hv, _, _, h3⟩ := h.shape
  simp only [Value.slice.injEq] at hv
  obtain ⟨rfl, _, rfl⟩ := hv
  exact h3
def RFeedPost (w : World) (x : Nat) (g : Option Nat) (L : List Int) (n : Nat) (e : Ending) (w' : World) : Prop :=
  e = .returned (.tuple #[]) ∧ ∃ g', RRf w' x g' L n ∧ (g' = g ∨ ∃ k, g' = some k ∧ w.heap.size ≤ k) ∧ Fr w w' x g
theorem rfeed_fin {w w5 w7 : World} {x : Nat} {g g7 : Option Nat} {M : List Int} {n : Nat} {v v7 : Value} (hh : w.heap[x]? = some (.cells #[v, .int .i64 n] 30 (0, 0))) (hp : g ≠ some x) (hb : Below w.heap.size w w5) (hgr : w5.grownBy w7 g)
    (hh7 : w7.heap[x]? = some (.cells #[v, .int .i64 n] 30 (0, 0))) (hs7 : Sl w7 3 v7 g7 (ivals M)) (hg7 : g7 = g ∨ ∃ k, g7 = some k ∧ w5.heap.size ≤ k) : RFeedPost w x g M n (.returned (.tuple #[])) (w7.setCell ⟨x, 0, none⟩ v7) := by
  have hx := lt_of_block hh
  have hnr : g7 ≠ some x := by
    rcases hg7 with rfl | ⟨k, rfl, hk⟩
    · exact hp
    · have := hb.size; simp; omega
  have h1 : Fr w w7 x g := (Fr.of_heap hb).trans (Fr.grown hgr) (.inl rfl)
  refine ⟨rfl, g7, ⟨_, two_set0 hh7, hs7.same fun k hk => Below.heap_setCell w7 _ _ k (fun e => hnr (by rw [hk, e]))⟩, ?_, h1.trans (Fr.set x 0 _ g) (.inl rfl)⟩
  rcases hg7 with h | ⟨k, h, hk⟩
  · exact .inl h
  · exact .inr ⟨k, h, by have := hb.size; omega⟩
set_option maxHeartbeats 1600000 in
set_option maxRecDepth 100000 in
theorem rfeed_any (x : Nat) (g : Option Nat) (L : List Int) (n : Nat) (a : Option Addr) (m c : Nat) (zs : List Int) (w : World) (h : RRf w x g L n) (hl : L.length ≤ 100000) (hm : zs.length = m) (hs6 : m ≤ 6000) (hb : Bytes zs) (hr : Row w a zs) :
    Calls Try.prog 12 #[.pointer (some ⟨x, 0, none⟩), .slice a m c] w fun e w' => RFeedPost w x g (L ++ bitsL zs) n e w' := by
  have HP : Hid (g ≠ some x) := h.sep
  obtain ⟨v, hh, hs⟩ := h
  obtain ⟨av, cv, hv, hl1, hl2, hl3⟩ := hs.shape
  subst hv
  rw [ivals_len] at hh hs hl1
  obtain ⟨q0, q1, f0, f1⟩ := two_cells hh
  have HH : Hid (w.heap[x]? = some (.cells #[.slice av L.length cv, .int .i64 n] 30 (0, 0))) := hh
  have HS : Hid (Sl w 3 (.slice av L.length cv) g (ivals L)) := hs
  have HB : Hid (zs.length = m ∧ m ≤ 6000 ∧ Bytes zs ∧ Row w a zs) := ⟨hm, hs6, hb, hr⟩
  have HLM : Hid (L.length + (bitsL zs).length ≤ 1000000) := by
    show _ ≤ _
    rw [bitsL_len]; omega
  clear hh hs hm hs6 hb hr
  go_enter Try.func12, Try.ntmps12
  go_wp2
  go_region_law (first
    | (go_simp; go_at_call 31; refine Calls.mono (bits_any a m c zs _ HB.out.1 HB.out.2.1 HB.out.2.2.1 (HB.out.2.2.2.old ?_)) ?_; exact ⟨rfl, rfl, rfl, Nat.le_refl _, fun _ _ => rfl⟩; rintro e w5 ⟨a5, c5, g5, rfl, hs5, hg5, hb5⟩; have hh5 := (hb5.block x (lt_of_block HH.out)).trans HH.out; have hq5 := (two_cells hh5).1; have hf5 := (two_cells hh5).2.2.1; have hsl5 := HS.out.same (w' := w5) (fun k hk => hb5.block k (HS.out.lt hk)); have hi5 := hs5.irow rfl; have hn5 := hs5.nocap)
    | (refine step_append_ints rfl _ _ rfl _ g L rfl hsl5 a5 _ c5 (bitsL zs) rfl rfl hn5 hi5 (HLM.out) ?_; intro v7 w7 g7 hs7 hg7 hgr7; obtain ⟨a7, c7, hv7, -, -, -⟩ := hs7.shape; subst hv7; have hh7 := (hgr7.block x (lt_of_block hh5) (fun e => HP.out e.symm)).trans hh5; have hq7 := (two_cells hh7).1; have hf7 := (two_cells hh7).2.2.1))
  all_goals
    go_end0
    exact rfeed_fin HH.out HP.out ⟨hb5.os, hb5.tape, hb5.output, hb5.size, hb5.block⟩ hgr7 hh7 hs7 hg7
end Go.Proofs.Ytaenojkgdlpclaa
