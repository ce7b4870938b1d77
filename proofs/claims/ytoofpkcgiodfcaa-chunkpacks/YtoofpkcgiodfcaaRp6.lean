/- Chunks that came in, opened; chunks of the call's own. -/
import Derived.Test.YtoofpkcgiodfcaaRp5
namespace Go.Proofs.Ytoofpkcgiodfcaa
open Go.RowKit Go.ChangeShapes Go.WideShapes
def CkIn (W : World) (a : Option Addr) (len cap : Nat) (F : Nat → Ck) : Prop := CkArg W a len cap F ∧ ∀ i, i < len → (F i).kind.size ≤ 9223372036854775807
theorem open_chunks {H : Type} {enc : TypeId × Value → H} {W : World} {a : Option Addr} {len cap j : Nat} {d : DataW H} {p : List MemPlace} {ts : List TypeId} {ds : List (DataW H)}
    (h0 : DataW.Trod enc Try.prog W 0 (fun _ => true) true 38 (.slice a len cap) d p) (hsz : (DataW.weightsEach Try.prog ts ds).all (· ≤ reachBytes) = true) (ht : ts[j]? = some 38) (hd : ds[j]? = some d) : ∃ F, CkIn W a len cap F := by
  obtain ⟨fuel, hf⟩ := h0
  rcases Deep.open_slice Try.underlying38 hf with ⟨hcs, _⟩ | ⟨x, l, c, m, n, D, Pl, hcs, _, hl, hm, hmm, hdx, hx⟩
  · simp [Value.cells] at hcs
    obtain ⟨rfl, rfl, rfl⟩ := hcs
    exact ⟨fun _ => ⟨⟨#[]⟩, none, 0, []⟩, ⟨Nat.le_refl _, by unfold maxLen; omega, fun h => absurd h (by omega)⟩, fun i hi => absurd hi (by omega)⟩
  · simp [Value.cells] at hcs
    obtain ⟨rfl, rfl, rfl⟩ := hcs
    have hml : len ≤ m := by rw [hmm]; simp; exact hl
    simp only [Prod.mk.injEq] at hdx
    obtain ⟨hd', _⟩ := hdx
    have hw : ∀ i, i < len → ∀ n ∈ (D i).weights Try.prog 40, n ≤ reachBytes := by
      intro i hi n hn
      have h1 : D i ∈ (List.range len).map D := List.mem_map.2 ⟨i, List.mem_range.2 hi, rfl⟩
      have h2 : n ∈ d.weights Try.prog 38 := by
        rw [hd']
        simp only [DataW.weights, Try.underlying38, List.mem_cons, List.mem_append]
        exact .inr (.inl (weightsAll_mem h1 n hn))
      have h3 := List.all_eq_true.1 hsz _ (DataW.weights_mem_each ht hd n h2)
      simpa using h3
    have each : ∀ i, i < len → ∃ q : Ck, (W.cell? (x.add (i * 2)) = some (.string q.kind) ∧ W.cell? (x.add (i * 2 + 1)) = some (.slice q.a q.z.length q.c)) ∧ PtOk W q.pt ∧ q.kind.size ≤ 9223372036854775807 := by
      intro i hi
      obtain ⟨cs', h1, h2⟩ := hx i (by omega)
      rw [Try.cellsCk] at h1
      obtain ⟨_, hlen, hcell⟩ := World.cells?_some h1
      obtain ⟨xs, k, hk, hxy, _, hxl, hff⟩ := DataW.trod_struct Try.underlying40 h2
      have hwi := hw i hi
      match xs, hxl, cs', hlen, hxy with
      | [y0, y1], _, [v0, v1], _, hxy =>
        have g0 := hff 0 _ rfl
        have g1 := hff 1 _ rfl
        simp [show Try.prog.cellsOf 9 = 1 by kernel_rfl, Try.cells26] at g0 g1
        obtain ⟨s0, e0, _, hs0⟩ := DataW.trod_string Try.underlying9 g0
        simp at e0
        subst e0
        have c0 := hcell 0 (by omega)
        have c1 := hcell 1 (by omega)
        rw [Deep.add_add] at c0 c1
        have hsm : s0.size ≤ 9223372036854775807 := by unfold maxLen at hs0; omega
        rcases open_ints Try.underlying26 Try.underlying5 Try.cells5 g1 with ⟨hcs, _⟩ | ⟨x', l', c', zs, hcs, _, hl', hm', hz, hx', hcl, hwz⟩
        · simp at hcs
          subst hcs
          exact ⟨⟨s0, none, 0, []⟩, ⟨by simpa using c0, by simpa using c1⟩, ⟨Bytes.nil, Nat.le_refl _, ⟨by show 0 ≤ _; omega, by show 0 ≤ _; omega⟩, fun _ => rfl, .inl rfl⟩, hsm⟩
        · simp at hcs
          subst hcs
          simp only [if_true] at hz
          have hlt : (zs.take l').length = l' := by rw [List.length_take]; omega
          have hr : zs.length ≤ 140737488351232 := by
            simp only [Prod.mk.injEq, List.map_cons, List.map_nil] at hxy
            have hwt := hwi (((lits IntKind.u8 (zs.take l') : List (DataW H)).length + (lits IntKind.u8 (zs.drop l') : List (DataW H)).length) * Try.prog.bytesOf 5) (by
              rw [hxy.1, hx']
              simp [DataW.weights, DataW.weightsEach, Try.underlying40, Try.underlying26])
            rw [Try.bytes5] at hwt
            simp only [lits, List.length_map, List.length_take, List.length_drop, reachBytes] at hwt
            omega
          exact ⟨⟨s0, some x', c', zs.take l'⟩, ⟨by simpa using c0, by show _ = some (Value.slice (some x') (zs.take l').length c'); rw [hlt]; simpa using c1⟩, ⟨(bytes_of_wf hwz).take _, by show (zs.take l').length ≤ c'; rw [hlt]; exact hl', ⟨by show (zs.take l').length ≤ _; omega, by show c' ≤ _; unfold maxLen at hm'; omega⟩, (by intro h; cases h), row_of_arg (by omega) hcl⟩, hsm⟩
    have hne : Inhabited Ck := ⟨⟨⟨#[]⟩, none, 0, []⟩⟩
    obtain ⟨F, hF⟩ := Deep.choose_lt each
    refine ⟨F, ⟨hl, hm, fun hpos => ?_⟩, fun i hi => (hF i hi).2.2⟩
    obtain ⟨b, off, spot⟩ := x
    have hc := (hF 0 hpos).1.1
    have hspot : spot = none := by simpa [Addr.add] using World.cell?_spot hc
    subst hspot
    refine ⟨b, off, rfl, fun i hi => ?_⟩
    have := hF i hi
    refine ⟨?_, ?_, this.2.1⟩
    · simpa [Addr.add_lit, Nat.add_assoc] using this.1.1
    · simpa [Addr.add_lit, Nat.add_assoc] using this.1.2
/-- Chunks of the call's own. -/
def flatC (F : Nat → Ck) : Nat → List Value
  | 0 => []
  | k + 1 => flatC F k ++ [.string (F k).kind, .slice (F k).a (F k).z.length (F k).c]
theorem flatC_len (F : Nat → Ck) (k : Nat) : (flatC F k).length = k * 2 := by
  induction k with
  | zero => rfl
  | succ k ih => rw [flatC, List.length_append, ih]; show k * 2 + 2 = _; omega
theorem flatC_congr {F G : Nat → Ck} (k : Nat) (h : ∀ i, i < k → F i = G i) : flatC F k = flatC G k := by
  induction k with
  | zero => rfl
  | succ k ih => rw [flatC, flatC, ih fun i hi => h i (by omega), h k (by omega)]
theorem flatC_at (F : Nat → Ck) : ∀ (k i : Nat), i < k → (flatC F k)[i * 2]? = some (.string (F i).kind) ∧ (flatC F k)[i * 2 + 1]? = some (.slice (F i).a (F i).z.length (F i).c)
  | 0, i, h => absurd h (by omega)
  | k + 1, i, h => by
    have hl := flatC_len F k
    by_cases hik : i = k
    · subst hik
      rw [flatC]
      refine ⟨?_, ?_⟩
      · rw [List.getElem?_append_right (by omega), hl, Nat.sub_self]; rfl
      · rw [List.getElem?_append_right (by omega), hl, show i * 2 + 1 - i * 2 = 1 by omega]; rfl
    · have := flatC_at F k i (by omega)
      rw [flatC, List.getElem?_append_left (by omega), List.getElem?_append_left (by omega)]
      exact this
def CkOwn (B : Nat) (w : World) (v : Value) (k : Nat) (F : Nat → Ck) : Prop := w.ownsRow B 40 2 v k (flatC F k) ∧ ∀ i, i < k → ∃ g, Sl w 5 (.slice (F i).a (F i).z.length (F i).c) g (vals (F i).z)
theorem CkOwn.shape {B : Nat} {w : World} {v : Value} {k : Nat} {F : Nat → Ck} (h : CkOwn B w v k F) : ∃ a c, v = .slice a k c ∧ k ≤ c ∧ c ≤ maxLen := by
  rcases h.1.2 with ⟨h, h0⟩ | ⟨g, cap, cur, h, hb, hh, h1, h2, h3, h4⟩
  · exact ⟨none, 0, by rw [h, h0], by omega, by unfold maxLen; omega⟩
  · exact ⟨_, cap, h, h1, h2⟩
theorem CkOwn.arg {B : Nat} {w : World} {a : Option Addr} {c k : Nat} {F : Nat → Ck} (h : CkOwn B w (.slice a k c) k F) (hb : ∀ i, i < k → Bytes (F i).z ∧ (F i).z.length ≤ 5000) : CkArg w a k c F := by
  obtain ⟨a', c', hv, hl, hm⟩ := h.shape
  simp only [Value.slice.injEq] at hv
  obtain ⟨rfl, _, rfl⟩ := hv
  refine ⟨hl, hm, fun hk => ?_⟩
  rcases h.1.2 with ⟨hv, h0⟩ | ⟨g, cap, cur, hv, hbb, hh, h1, h2, h3, h4⟩
  · omega
  · simp only [Value.slice.injEq] at hv
    obtain ⟨rfl, _, _⟩ := hv
    refine ⟨g, 0, rfl, fun i hi => ?_⟩
    have hl2 := flatC_len F k
    obtain ⟨f0, f1⟩ := flatC_at F k i hi
    obtain ⟨g2, hs⟩ := h.2 i hi
    obtain ⟨a2, c2, hv2, hl3, hm3, hn3⟩ := hs.shape
    simp only [Value.slice.injEq] at hv2
    obtain ⟨e1, _, e2⟩ := hv2
    rw [vals_len] at hl3
    refine ⟨?_, ?_, (hb i hi).1, by show (F i).z.length ≤ (F i).c; rw [e2]; exact hl3, ⟨by show (F i).z.length ≤ _; have := (hb i hi).2; omega, by show (F i).c ≤ _; rw [e2]; unfold maxLen at hm3; omega⟩, by show (F i).a = none → (F i).c = 0; rw [e1, e2]; exact hn3, hs.row rfl⟩
    · rw [← f0, ← h4, List.getElem?_take, if_pos (by omega)]
      simp [World.cell?, hh]
    · rw [← f1, ← h4, List.getElem?_take, if_pos (by omega)]
      simp [World.cell?, hh]
theorem Try.infoCk : (Try.prog.info? 40).map (fun i => (i.zero, i.size, i.bytes)) = some (some (.agg #[.string ⟨#[]⟩, .slice none 0 0]), 2, 40) := by kernel_rfl
theorem CkOwn.old {B : Nat} {w w' : World} {v : Value} {k : Nat} {F : Nat → Ck} (h : CkOwn B w v k F) (hb : Below w.heap.size w w') : CkOwn B w' v k F := by
  refine ⟨⟨h.1.1, ?_⟩, fun i hi => ?_⟩
  · rcases h.1.2 with hv | ⟨g, cap, cur, hv, h1, hh, h2⟩
    · exact .inl hv
    · exact .inr ⟨g, cap, cur, hv, h1, (hb.block g (lt_of_block hh)).trans hh, h2⟩
  · obtain ⟨g, hs⟩ := h.2 i hi
    exact ⟨g, hs.same fun q hq => hb.block q (hs.lt hq)⟩
/-- 'append(own, chunk)', as one step of a region that draws its order. -/
theorem step_chunk {w : World} {ops : Array Oper} {o : Oper} {a : Act} {K : Act → World → Prop} {Q : Exit → Act → World → Prop} {E : Prop} (hgd : o.guard = none) (s x : Operand)
    (ho : o.op = .call { callee := .builtin .append, args := #[s, x], argTypes := #[38, 38] })
    (B k : Nat) (v : Value) (F : Nat → Ck) (q : Ck) (hs : a.eval s = v) (hp : CkOwn B w v k F) (gq : Option Nat) (hq : Sl w 5 (.slice q.a q.z.length q.c) gq (vals q.z)) (ad : Addr) (c : Nat) (hx : a.eval x = .slice (some ad) 1 c) (hr : ∀ j u, [Value.string q.kind, .slice q.a q.z.length q.c][j]? = some u → w.cell? (ad.add j) = some u)
    (hlen : k ≤ 1000) (hB : B ≤ w.heap.size)
    (h : ∀ v' w' F', CkOwn B w' v' (k + 1) F' → (∀ i, i < k → F' i = F i) → F' k = q → Below B w w' → K (a.put o.dst v') w') : if Region.wanted o (yielded ops a.tmps) = true then Oper.wp Try.prog o a w K Q else E := by
  obtain ⟨i0, hi, hz0, hz1, hz2⟩ := info_parts Try.infoCk
  refine step_of_list hgd (wpList_append_own w hgd s x 38 ho B 40 i0 _ 2 40 Try.underlying38 hi hz0 hz1 hz2 rfl (by decide) v k (flatC F k) hs hp.1 ad 1 c [.string q.kind, .slice q.a q.z.length q.c] hx rfl hr (by intro u hu; simp at hu; rcases hu with rfl | rfl <;> rfl) (by unfold maxLen; omega) (by omega) hB ?_)
  intro v' w' hown hg _
  refine ⟨rfl, h v' w' (fun i => if i = k then q else F i) ⟨?_, ?_⟩ (fun i hi => by simp [show i ≠ k by omega]) (by simp) ((Below.refl B w).grown hg hB (fun j hj => ?_))⟩
  · rw [flatC, flatC_congr (G := F) k (fun i hi => by simp [show i ≠ k by omega])]
    simp only [if_true]
    exact hown
  · have tag : ∀ j c, w.heap[j]? = some (.cells c 5 (0, 0)) → v.ownBlock ≠ some j := by
      intro j c hc e
      rcases hp.1.2 with ⟨hv, _⟩ | ⟨g, cap, cur, hv, _, hh, _⟩
      · rw [hv] at e; cases e
      · rw [hv] at e
        cases e
        have := hh.symm.trans hc
        simp at this
    intro i hi
    by_cases hik : i = k
    · subst hik
      simp only [if_true]
      refine ⟨gq, hq.same fun j hj => ?_⟩
      obtain ⟨c, hc⟩ := hq.tagB j hj
      exact hg.block j (hq.lt hj) (fun e => tag j c hc e.symm)
    · simp only [hik, if_false]
      obtain ⟨g, hsl⟩ := hp.2 i (by omega)
      refine ⟨g, hsl.same fun j hj => ?_⟩
      obtain ⟨c, hc⟩ := hsl.tagB j hj
      exact hg.block j (hsl.lt hj) (fun e => tag j c hc e.symm)
  · rcases hp.1.2 with ⟨hv, _⟩ | ⟨g, cap, cur, hv, hbb, hh, _⟩
    · rw [hv] at hj; cases hj
    · rw [hv] at hj; cases hj; exact hbb
theorem packB_congr {F G : Nat → Ck} (k : Nat) (h : ∀ i, i < k → (F i).kind = (G i).kind ∧ (F i).z = (G i).z) : packB F k = packB G k := by
  induction k with
  | zero => rfl
  | succ k ih => rw [packB, packB, ih fun i hi => h i (by omega), (h k (by omega)).1, (h k (by omega)).2]
theorem sumL_congr {F G : Nat → Ck} (k : Nat) (h : ∀ i, i < k → (F i).kind = (G i).kind ∧ (F i).z = (G i).z) : sumL F k = sumL G k := by
  induction k with
  | zero => rfl
  | succ k ih => rw [sumL, sumL, ih fun i hi => h i (by omega), (h k (by omega)).2]
theorem okK_congr {F G : Nat → Ck} (k : Nat) (h : ∀ i, i < k → (F i).kind = (G i).kind ∧ (F i).z = (G i).z) : okK F k ↔ okK G k := by
  unfold okK
  constructor
  · intro h1 i hi; rw [← (h i hi).1]; exact h1 i hi
  · intro h1 i hi; rw [(h i hi).1]; exact h1 i hi
end Go.Proofs.Ytoofpkcgiodfcaa
