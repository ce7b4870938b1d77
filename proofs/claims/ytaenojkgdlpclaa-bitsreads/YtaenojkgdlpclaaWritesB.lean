import Derived.Test.YtaenojkgdlpclaaRefC
import Derived.Test.YtaenojkgdlpclaaBackB
namespace Go.Proofs.Ytaenojkgdlpclaa
open Go.RowKit

theorem Sl.type {w : World} {e : TypeId} {v : Value} {g : Option Nat} {xs : List Value} (h : Sl w e v g xs) {k : Nat} (hk : g = some k) : ∃ cur, w.heap[k]? = some (.cells cur e (0, 0)) := by
  rcases h with ⟨_, h, _⟩ | ⟨b, off, cap, cur, _, h, hb, _⟩
  · rw [h] at hk; cases hk
  · rw [h] at hk; cases hk; exact ⟨cur, hb⟩
theorem Sl.apart {w : World} {e e' : TypeId} {v v' : Value} {g g' : Option Nat} {xs ys : List Value} (h : Sl w e v g xs) (h' : Sl w e' v' g' ys) (hne : e ≠ e') {k : Nat} (hk : g = some k) : some k ≠ g' := by
  intro e1
  obtain ⟨c1, h1⟩ := h.type hk
  obtain ⟨c2, h2⟩ := h'.type e1.symm
  rw [h1] at h2
  simp at h2
  exact hne h2.2
theorem WrZ.sl {w : World} {r : Nat} {g : Option Nat} {zs : List Int} {c : Nat} (h : WrZ w r g zs c) : ∃ v, Sl w 5 v g (vals zs) := by
  obtain ⟨v, _, hs⟩ := h; exact ⟨v, hs⟩
theorem WrZ.nsl {w : World} {r : Nat} {g gl : Option Nat} {zs : List Int} {c : Nat} {e : TypeId} {v : Value} {xs : List Value} (h : WrZ w r g zs c) (hs : Sl w e v gl xs) (he : e ≠ 62) {k : Nat} (hk : gl = some k) : k ≠ r := by
  obtain ⟨_, hh, _⟩ := h
  obtain ⟨cur, h1⟩ := hs.type hk
  rintro rfl
  rw [hh] at h1
  simp at h1
  exact he h1.2.symm

/-- The writer, and the bits that were put so far, in the call's own memory. -/
structure LW (w wr : World) (x : Nat) (g : Option Nat) (zs : List Int) (c : Nat) (v : Value) (gl : Option Nat) (L : List Int) : Prop where
  wz : WrZ wr x g zs c
  sl : Sl wr 3 v gl (ivals L)
  x0 : w.heap.size ≤ x
  g0 : ∀ k, g = some k → w.heap.size ≤ k
  l0 : ∀ k, gl = some k → w.heap.size ≤ k
  bel : Below w.heap.size w wr
theorem LW.wr {w wr w' : World} {x : Nat} {g g' gl : Option Nat} {zs zs' : List Int} {c c' : Nat} {v : Value} {L : List Int} (p : LW w wr x g zs c v gl L) (hw : WrZ w' x g' zs' c') (hf : Fr wr w' x g) (hg : g' = g ∨ ∃ k, g' = some k ∧ wr.heap.size ≤ k) : LW w w' x g' zs' c' v gl L := by
  obtain ⟨v5, h5⟩ := p.wz.sl
  refine ⟨hw, p.sl.same fun k hk => hf.block k (p.sl.lt hk) (p.wz.nsl p.sl (by decide) hk) (p.sl.apart h5 (by decide) hk), p.x0, ?_, p.l0, Fr.below p.bel hf p.x0 p.g0 p.bel.size⟩
  intro k hk
  rcases hg with e | ⟨q, e, hq⟩
  · exact p.g0 k (by rw [← e]; exact hk)
  · rw [e] at hk; cases hk; have := p.bel.size; omega
theorem LW.app {w wr w' : World} {x : Nat} {g gl gl' : Option Nat} {zs : List Int} {c : Nat} {v v' : Value} {L L' : List Int} (p : LW w wr x g zs c v gl L) (hs : Sl w' 3 v' gl' (ivals L')) (hgr : wr.grownBy w' gl) (hg : gl' = gl ∨ ∃ k, gl' = some k ∧ wr.heap.size ≤ k) : LW w w' x g zs c v' gl' L' := by
  obtain ⟨v5, h5⟩ := p.wz.sl
  refine ⟨p.wz.same (hgr.block x p.wz.lt (fun e => p.wz.nsl p.sl (by decide) e.symm rfl)) fun k hk => hgr.block k (p.wz.glt hk) (h5.apart p.sl (by decide) hk), hs, p.x0, p.g0, ?_, p.bel.grown hgr p.bel.size p.l0⟩
  intro k hk
  rcases hg with e | ⟨q, e, hq⟩
  · exact p.l0 k (by rw [← e]; exact hk)
  · rw [e] at hk; cases hk; have := p.bel.size; omega
theorem LW.old {w wr w' : World} {x : Nat} {g gl : Option Nat} {zs : List Int} {c : Nat} {v : Value} {L : List Int} (p : LW w wr x g zs c v gl L) (hb : Below wr.heap.size wr w') : LW w w' x g zs c v gl L :=
  ⟨p.wz.old hb, p.sl.same fun k hk => hb.block k (p.sl.lt hk), p.x0, p.g0, p.l0, p.bel.trans (hb.mono p.bel.size)⟩

set_option maxHeartbeats 400000 in
theorem outW_sl (r : Nat) (g : Option Nat) (zs : List Int) (count : Nat) (w : World) (h : WrZ w r g zs count) (hl : zs.length ≤ 140737488355328) :
    Calls Try.prog 29 #[.pointer (some ⟨r, 0, none⟩)] w fun e w' => ∃ a c g', e = .returned (.slice a zs.length c) ∧ Sl w' 5 (.slice a zs.length c) g' (vals zs) ∧ (∀ k, g' = some k → w.heap.size ≤ k) ∧ Below w.heap.size w w' := by
  obtain ⟨v, hh, hs⟩ := h
  obtain ⟨av, cv, hv, hl1, hl2, hl3⟩ := hs.shape
  have hrow := hs.row hv
  subst hv
  rw [vals_len] at hh hl1
  obtain ⟨q0, q1, _, _⟩ := two_cells hh
  clear hh hs
  go_enter Try.func29, Try.ntmps29
  go_wp2_with (at_builtin; refine wpList_copy_row rfl _ _ rfl rfl av zs.length cv zs rfl rfl hl3 hrow hl ?_)
  intro a' c' w1 g' hsl hg' hb
  go_wp2
  go_ret
  exact ⟨_, _, g', rfl, hsl, hg', hb⟩

/-- 'append(l, ys...)' of ints. -/
theorem wpList_append_ints {w : World} {ops : Array Oper} {rest : List Oper} {o : Oper} {a : Act} {Q : Exit → Act → World → Prop} (hgd : o.guard = none) (s x : Operand)
    (ho : o.op = .call { callee := .builtin .append, args := #[s, x], argTypes := #[28, 28] })
    (v : Value) (g : Option Nat) (l : List Int) (hs : a.eval s = v) (hsl : Sl w 3 v g (ivals l)) (ad : Option Addr) (m c : Nat) (q : List Int) (hx : a.eval x = .slice ad m c) (hm : q.length = m) (hc : ad = none → c = 0) (hr : IRow w ad q) (hlen : l.length + m ≤ 1000000)
    (h : ∀ v' w' g', Sl w' 3 v' g' (ivals (l ++ q)) → (g' = g ∨ ∃ k, g' = some k ∧ w.heap.size ≤ k) → w.grownBy w' g → wpList Try.prog ops Q rest (a.put o.dst v') w') : wpList Try.prog ops Q (o :: rest) a w := by
  obtain ⟨i0, hi, hz0, hz1, hz2⟩ := info_parts Try.info3
  cases ad with
  | none =>
    have hq : q = [] := by
      rcases hr with h | ⟨b, off, h, _⟩
      · exact h
      · cases h
    obtain rfl := hc rfl
    subst hq
    simp at hm
    subst hm
    obtain ⟨av, cv, hv, hl1, _⟩ := hsl.shape
    rw [ivals_len] at hv hl1
    rw [hv] at hs
    refine wpList_append_sl_none hgd s x _ ho 3 i0 Try.underlying28 hi av _ cv hs hl1 hx ?_
    rw [← hv]
    exact h v w g (by rw [List.append_nil]; exact hsl) (.inl rfl) ⟨rfl, rfl, rfl, Nat.le_refl _, fun _ _ _ => rfl⟩
  | some y =>
    refine wpList_append_sl hgd s x _ ho 3 i0 (.int .i64 0) 8 Try.underlying28 hi hz0 hz1 hz2 rfl v g (ivals l) hs hsl y m c (ivals q) hx (by rw [ivals_len]; exact hm) (inews_row hr) (ivals_one q) (by rw [ivals_len]; omega) (by rw [ivals_len]; unfold maxLen; omega) ?_
    intro v' w' g' h1 h2 h3
    exact h v' w' g' (by rw [ivals_append]; exact h1) h2 h3

theorem binN_zeros (n : Nat) : binN (List.replicate n 0) = 0 := by
  induction n with
  | zero => rfl
  | succ n ih => rw [List.replicate_succ, binN, ih]; rfl
theorem bit_zeros (n : Nat) : Bit (List.replicate n 0) := by intro z hz; have := List.eq_of_mem_replicate hz; omega
/-- The whole state behind i puts. -/
def PRel (w : World) (x : Nat) (F : Nat → Int × Int × Bool) (i : Nat) (v : Value) (wr : World) : Prop :=
  ∃ g zs gl L, LW w wr x g zs (pss F i).2 v gl L ∧ Bitz zs (pss F i).1 (pss F i).2 ∧ Bit L ∧ L.length = (pss F i).2 ∧ binN L = (pss F i).1
theorem same_bytes {zs L : List Int} {W : Int} {c : Nat} (hz : Bitz zs W c) (hb : Bit L) (hl : L.length = c) (hn : binN L = W) : chunkL L ((c + 7) / 8) = zs := by
  refine litN_inj (chunkL_bytes hb _) hz.1 (by rw [chunkL_len, hz.2.1]) ?_
  rw [litN_chunk L _ (by omega), List.take_of_length_le (by omega), hn, hz.2.2.1]
end Go.Proofs.Ytaenojkgdlpclaa
