/- A GIF's beginning is written: marks, sides, colours. -/
import Derived.Test.YtaodhifkbfninaaDoorScK
namespace Go.Proofs.YtaodhifkbfninaaDoor
open Go.RowKit
/-- 'append(s, x...)', s without room of its own. -/
theorem wpList_more_full {w : World} {ops : Array Oper} {rest : List Oper} {o : Oper} {a : Act} {Q : Exit → Act → World → Prop} (hgd : o.guard = none) (s x : Operand)
    (ho : o.op = .call { callee := .builtin .append, args := #[s, x], argTypes := #[22, 22] })
    (b n : Nat) (zs : List Int) (hs : a.eval s = .slice (some ⟨b, 0, none⟩) n n) (hn : zs.length = n) (hz : Row w (some ⟨b, 0, none⟩) zs)
    (ad : Addr) (m c : Nat) (ys : List Int) (hx : a.eval x = .slice (some ad) m c) (hm : ys.length = m) (hm0 : 0 < m) (hr : Row w (some ad) ys) (hlen : zs.length + m ≤ 140737488351232)
    (h : ∀ v' w' g', Sl w' 5 v' g' (vals (zs ++ ys)) → (∀ k, g' = some k → w.heap.size ≤ k) → Below w.heap.size w w' → wpList Tryd.prog ops Q rest (a.put o.dst v') w') : wpList Tryd.prog ops Q (o :: rest) a w := by
  obtain ⟨i0, hi, hz0, hz1, hz2⟩ := info_parts Tryd.info5
  subst hn
  have hcell : ∀ j u, (vals zs)[j]? = some u → w.cell? ⟨b, 0 + j, none⟩ = some u := by
    intro j u hj
    have := news_row hz j u hj
    cases j with
    | zero => simpa [Addr.add] using this
    | succ k => simpa [Addr.add] using this
  refine wpList_append_arg w hgd s x 22 ho 5 i0 (.int .u8 0) 1 1 Tryd.underlying22 hi hz0 hz1 hz2 rfl (by decide) b 0 zs.length zs.length (vals zs) hs (by rw [vals_len]; omega) hcell ad m c (vals ys) hx (by rw [vals_len]; omega) (news_row hr) (vals_one ys) ?_ (by unfold maxLen; omega) (by omega) ?_ ?_
  · intro hroom; omega
  · intro hroom; omega
  · intro hroom v' w' hown hgrow
    obtain ⟨g', hsl', hg'⟩ := Sl.of_owns hown
    exact h v' w' g' (by rw [vals_append]; exact hsl') hg' ⟨hgrow.os, hgrow.tape, hgrow.output, hgrow.size, fun k hk => hgrow.block k hk (by simp)⟩
def smB (Lo : Bool) (k : Nat) : Int := (if Lo then 112 else 240) + k
def pmB (Lo La : Bool) (k : Nat) : Int := (if Lo then 128 + (k : Int) else 0) + (if La then 64 else 0)
theorem or_lits : ∀ k : Fin 8, bits .or .i64 112 ((k.val : Nat) : Int) = 112 + ((k.val : Nat) : Int) ∧ bits .or .i64 (112 + ((k.val : Nat) : Int)) 128 = 240 + ((k.val : Nat) : Int) ∧ bits .or .i64 128 ((k.val : Nat) : Int) = 128 + ((k.val : Nat) : Int) ∧ bits .or .i64 0 (128 + ((k.val : Nat) : Int)) = 128 + ((k.val : Nat) : Int) ∧ bits .or .i64 (128 + ((k.val : Nat) : Int)) 64 = 192 + ((k.val : Nat) : Int) := by decide
set_option maxHeartbeats 800000 in
theorem screenMarks_any (W H : Int) (ta : Option Addr) (tn tc : Nat) (Lo : Bool) (C : Int) (La : Bool) (B : Int) (k : Nat) (hk : k < 8) (hn : tn = 2 ^ (k + 1)) (w : World) (ht : TabD w) : Calls Tryd.prog 25 #[ScV W H (.slice ta tn tc) Lo C La B] w fun e w' => e = .returned (.int .i64 (smB Lo k)) ∧ Below w.heap.size w w' := by
  have HQ : Hid (Qs w W H (.slice ta tn tc) Lo C La B _) := Qs.box w W H (.slice ta tn tc) Lo C La B
  have CS1 := sizeOf_any W H ta tn tc Lo C La B k hk hn _ (ht.old HQ.out.1)
  obtain ⟨o1, o2, -⟩ := or_lits ⟨k, hk⟩
  simp only at o1 o2
  clear ht hn
  unfold ScV at *
  go_enter Tryd.func25, Tryd.ntmps25
  go_wp2_with fail
  refine CS1.mono ?_
  clear CS1
  rintro e w1 ⟨rfl, hb1⟩
  have HQ1 := HQ.out.old hb1
  obtain ⟨z0, z1, z2, z3, z4, z5, z6, -⟩ := HQ1.2.cells
  cases Lo with
  | true =>
    go_wp2
    go_ret
    exact ⟨rfl, HQ1.1⟩
  | false =>
    go_wp2
    go_ret
    exact ⟨rfl, HQ1.1⟩
set_option maxHeartbeats 800000 in
theorem pictureMarks_any (W H : Int) (ta : Option Addr) (tn tc : Nat) (Lo : Bool) (C : Int) (La : Bool) (B : Int) (k : Nat) (hk : k < 8) (hn : tn = 2 ^ (k + 1)) (w : World) (ht : TabD w) : Calls Tryd.prog 27 #[ScV W H (.slice ta tn tc) Lo C La B] w fun e w' => e = .returned (.int .i64 (pmB Lo La k)) ∧ Below w.heap.size w w' := by
  have HQ : Hid (Qs w W H (.slice ta tn tc) Lo C La B _) := Qs.box w W H (.slice ta tn tc) Lo C La B
  have CS1 := sizeOf_any W H ta tn tc Lo C La B k hk hn _ (ht.old HQ.out.1)
  obtain ⟨-, -, o3, o4, o5⟩ := or_lits ⟨k, hk⟩
  simp only at o3 o4 o5
  have o6 : bits .or .i64 0 64 = 64 := by decide
  have hp : ∀ La, pmB true La k = (if La then 192 + (k : Int) else 128 + (k : Int)) := fun La => by cases La <;> simp [pmB]; omega
  clear ht hn
  unfold ScV at *
  cases Lo with
  | true =>
    rw [hp]
    go_enter Tryd.func27, Tryd.ntmps27
    go_wp2_with fail
    refine CS1.mono ?_
    clear CS1
    rintro e w1 ⟨rfl, hb1⟩
    have HQ1 := HQ.out.old hb1
    obtain ⟨z0, z1, z2, z3, z4, z5, z6, -⟩ := HQ1.2.cells
    cases La with
    | true =>
      go_wp2
      go_ret
      exact ⟨rfl, HQ1.1⟩
    | false =>
      go_wp2
      go_ret
      exact ⟨rfl, HQ1.1⟩
  | false =>
    clear CS1
    cases La with
    | true =>
      go_enter Tryd.func27, Tryd.ntmps27
      go_wp2
      go_ret
      exact ⟨rfl, HQ.out.1⟩
    | false =>
      go_enter Tryd.func27, Tryd.ntmps27
      go_wp2
      go_ret
      exact ⟨rfl, HQ.out.1⟩
theorem octs_len (v : Int) (n : Nat) : (octs v n).length = n := by simp [octs]
def sdL (W H : Int) : List Int := octs W 2 ++ octs H 2
set_option maxHeartbeats 1600000 in
theorem sides_any (W H : Int) (ta : Option Addr) (tn tc : Nat) (Lo : Bool) (C : Int) (La : Bool) (B : Int) (w : World) : Calls Tryd.prog 24 #[ScV W H (.slice ta tn tc) Lo C La B] w fun e w' => NewBytes w (sdL W H) e w' := by
  have HQ : Hid (Qs w W H (.slice ta tn tc) Lo C La B _) := Qs.box w W H (.slice ta tn tc) Lo C La B
  obtain ⟨w1, hw1⟩ : ∃ w1, w.alloc (.cells #[.int .i64 W, .int .i64 H, .slice ta tn tc, .bool Lo, .int .i64 C, .bool La, .int .i64 B] 26) = w1 := ⟨_, rfl⟩
  rw [hw1] at HQ
  obtain ⟨z0, z1, z2, z3, z4, z5, z6, -⟩ := HQ.out.2.cells
  have d0 : w1.drew.cell? ⟨w.heap.size, 0, none⟩ = _ := z0
  have d1 : w1.drew.cell? ⟨w.heap.size, 1, none⟩ = _ := z1
  have HA : Hid (∀ n, Calls Tryd.prog 39 #[.int .i64 2, .int .i64 W] (w1.drewN n) fun e w' => ∃ a c g, e = .returned (.slice a 2 c) ∧ Hid (Sl w' 5 (.slice a 2 c) g (vals (octs W 2)) ∧ (∀ k, g = some k → w1.heap.size ≤ k) ∧ Below w1.heap.size w1 w') ∧ w'.cell? ⟨w.heap.size, 1, none⟩ = some (.int .i64 H)) := fun n => (putLittle_any 2 W (w1.drewN n)).mono fun _ w' ⟨a, c, g, e1, e2, e3, _, e4⟩ => by
    have e5 : Below w1.heap.size w1 w' := ⟨e4.os, e4.tape, e4.output, e4.size, e4.block⟩
    exact ⟨a, c, g, e1, ⟨e2, e3, e5⟩, (World.cell?_of_block (a := ⟨w.heap.size, 1, none⟩) (e5.block _ (lt_of_block HQ.out.2))).trans z1⟩
  have HB : Hid (∀ W1, Calls Tryd.prog 39 #[.int .i64 2, .int .i64 H] W1 fun e w' => ∃ a c, e = .returned (.slice a 2 c) ∧ Hid (Row w' a (octs H 2) ∧ Below W1.heap.size W1 w' ∧ (a = none → c = 0))) := fun W1 => (putLittle_any 2 H W1).mono fun _ w' ⟨a, c, g, e1, e2, e3, e3b, e4⟩ => ⟨a, c, e1, e2.row rfl, e4, e3b⟩
  have HL : Hid ((octs W 2).length = 2 ∧ (octs H 2).length = 2) := ⟨octs_len _ _, octs_len _ _⟩
  clear z0 z1 z2 z3 z4 z5 z6
  unfold ScV
  go_enter Tryd.func24, Tryd.ntmps24
  go_wp2
  go_region_law (first
    | (have hz2 := hq2; clear hz2; go_simp; go_at_call 39; refine Calls.mono (HB.out _) ?_; rintro e w3 ⟨a3, k3, rfl, hq3⟩)
    | (go_simp; go_at_call 39; refine Calls.mono (HA.out 1) ?_; rintro e w2 ⟨a2, k2, g2, rfl, hq2, ch⟩)
    | (refine step_more rfl _ _ rfl (.slice a2 2 k2) g2 (octs W 2) rfl (hq2.out.1.same fun k hk => hq3.out.2.1.block k (hq2.out.1.lt hk)) a3 2 k3 (octs H 2) rfl hq3.out.2.2 HL.out.2 hq3.out.1 (by rw [HL.out.1]; omega) ?_; intro v7 w7 g7 hs7 hg7 hgr7; obtain ⟨a7, c7, hv7, -, -, hn7⟩ := hs7.shape; obtain ⟨z7, hz7⟩ : ∃ z7, (vals (octs W 2 ++ octs H 2)).length = z7 := ⟨_, rfl⟩; rw [hz7] at hv7; have HZ7 : Hid (z7 = (sdL W H).length) := (by rw [← hz7, vals_len]; rfl : z7 = (sdL W H).length); clear hz7; subst hv7)
    | fail)
  all_goals
    have HF : Hid (NewBytes w (sdL W H) (.returned (.slice a7 z7 c7)) w7) := by
      show NewBytes ..
      have hs7 : Sl w7 5 (.slice a7 z7 c7) g7 (vals (sdL W H)) := hs7
      rw [HZ7.out] at hs7 ⊢
      have b1 := HQ.out.1
      have b2 := b1.trans (hq2.out.2.2.mono b1.size)
      have b3 := b2.trans (hq3.out.2.1.mono b2.size)
      have hs1 := b1.size
      refine ⟨a7, c7, g7, rfl, hs7, ?_, hn7, b3.grown hgr7 b3.size (fun k hk => by have := hq2.out.2.1 k hk; omega)⟩
      intro k hk
      rcases hg7 with e | ⟨j, e, hj⟩
      · rw [e] at hk; have := hq2.out.2.1 k hk; omega
      · rw [e] at hk; cases hk; have := b3.size; omega
    clear hs7 hg7 hgr7 hq2 hq3 HA HB
    go_wp2
    go_ret
    exact HF.out
end Go.Proofs.YtaodhifkbfninaaDoor
