/- Parts that came in: a slice of slices of bytes. -/
import Derived.Test.YtaibojmaghmfnaaCpy
import Derived.Deep.Slices
namespace Go.Proofs.Ytaibojmaghmfnaa
open Go.RowKit Go.ChangeShapes Go.WideShapes

structure Pt where
  a : Option Addr
  c : Nat
  z : List Int
def PtOk (W : World) (q : Pt) : Prop := Bytes q.z ∧ q.z.length ≤ q.c ∧ (q.z.length ≤ 140737488351232 ∧ q.c ≤ 9223372036854775807) ∧ (q.a = none → q.c = 0) ∧ Row W q.a q.z
def PtArg (W : World) (a : Option Addr) (len cap : Nat) (F : Nat → Pt) : Prop :=
  len ≤ cap ∧ cap ≤ maxLen ∧ (0 < len → ∃ b off, a = some ⟨b, off, none⟩ ∧ ∀ i, i < len → W.cell? ⟨b, off + i, none⟩ = some (.slice (F i).a (F i).z.length (F i).c) ∧ PtOk W (F i))
theorem weightsAll_mem {H : Type} {P : Program} {e : TypeId} : ∀ {l : List (DataW H)} {d : DataW H}, d ∈ l → ∀ n ∈ d.weights P e, n ∈ DataW.weightsAll P e l
  | x :: r, d, hd, n, hn => by
    simp only [DataW.weightsAll, List.mem_append]
    rcases List.mem_cons.1 hd with h | h
    · subst h; exact .inl hn
    · exact .inr (weightsAll_mem h n hn)
theorem Try.cells24 : Try.prog.cellsOf 24 = 1 := by kernel_rfl

theorem open_parts {H : Type} {enc : TypeId × Value → H} {W : World} {a : Option Addr} {len cap j : Nat} {d : DataW H} {p : List MemPlace} {ts : List TypeId} {ds : List (DataW H)}
    (h0 : DataW.Trod enc Try.prog W 0 (fun _ => true) true 64 (.slice a len cap) d p) (hsz : (DataW.weightsEach Try.prog ts ds).all (· ≤ reachBytes) = true) (ht : ts[j]? = some 64) (hd : ds[j]? = some d) : ∃ F, PtArg W a len cap F := by
  obtain ⟨fuel, hf⟩ := h0
  rcases Deep.open_slice1 Try.underlying64 Try.cells24 hf with ⟨hcs, _⟩ | ⟨x, l, c, m, n, V, D, Pl, hcs, _, hl, hm, hmm, hdx, hx⟩
  · simp [Value.cells] at hcs
    obtain ⟨rfl, rfl, rfl⟩ := hcs
    exact ⟨fun _ => ⟨none, 0, []⟩, Nat.le_refl _, by unfold maxLen; omega, fun h => absurd h (by omega)⟩
  · simp [Value.cells] at hcs
    obtain ⟨rfl, rfl, rfl⟩ := hcs
    have hml : len ≤ m := by rw [hmm]; simp; exact hl
    simp only [Prod.mk.injEq] at hdx
    obtain ⟨hd', _⟩ := hdx
    have hw : ∀ i, i < len → ∀ n ∈ (D i).weights Try.prog 24, n ≤ reachBytes := by
      intro i hi n hn
      have h1 : D i ∈ (List.range len).map D := List.mem_map.2 ⟨i, List.mem_range.2 hi, rfl⟩
      have h2 : n ∈ d.weights Try.prog 64 := by
        rw [hd']
        simp only [DataW.weights, Try.underlying64, List.mem_cons, List.mem_append]
        exact .inr (.inl (weightsAll_mem h1 n hn))
      have h3 := List.all_eq_true.1 hsz _ (DataW.weights_mem_each ht hd n h2)
      simpa using h3
    have each : ∀ i, i < len → ∃ q : Pt, W.cell? (x.add i) = some (.slice q.a q.z.length q.c) ∧ PtOk W q := by
      intro i hi
      obtain ⟨h1, h2⟩ := hx i (by omega)
      have hwi := hw i hi
      rcases open_ints Try.underlying24 Try.underlying5 Try.cells5 h2 with ⟨hcs, _⟩ | ⟨x', l', c', zs, hcs, _, hl', hm', hz, hx', hcl, hwz⟩
      · simp at hcs
        exact ⟨⟨none, 0, []⟩, by rw [h1, hcs]; rfl, Bytes.nil, Nat.le_refl _, by show 0 ≤ _ ∧ 0 ≤ _; omega, fun _ => rfl, .inl rfl⟩
      · simp at hcs
        simp only [if_true] at hz
        have hlt : (zs.take l').length = l' := by rw [List.length_take]; omega
        have hr : zs.length ≤ 140737488351232 := by
          simp only [Prod.mk.injEq] at hx'
          have hwt := hwi (((lits IntKind.u8 (zs.take l') : List (DataW H)).length + (lits IntKind.u8 (zs.drop l') : List (DataW H)).length) * Try.prog.bytesOf 5) (by
            rw [hx'.1]
            simp [DataW.weights, Try.underlying24])
          rw [Try.bytes5] at hwt
          simp only [lits, List.length_map, List.length_take, List.length_drop, reachBytes] at hwt
          omega
        exact ⟨⟨some x', c', zs.take l'⟩, by show _ = some (Value.slice (some x') (zs.take l').length c'); rw [hlt, h1, hcs], (bytes_of_wf hwz).take _, by show (zs.take l').length ≤ c'; rw [hlt]; exact hl', by show (zs.take l').length ≤ _ ∧ c' ≤ _; rw [hlt]; omega, (by intro h; cases h), row_of_arg (by omega) hcl⟩
    have hne : Inhabited Pt := ⟨⟨none, 0, []⟩⟩
    obtain ⟨F, hF⟩ := Deep.choose_lt each
    refine ⟨F, hl, hm, fun hpos => ?_⟩
    obtain ⟨b, off, spot⟩ := x
    have hc := (hF 0 hpos).1
    have hspot : spot = none := by simpa [Addr.add] using World.cell?_spot hc
    subst hspot
    refine ⟨b, off, rfl, fun i hi => ?_⟩
    have := hF i hi
    refine ⟨?_, this.2⟩
    simpa [Addr.add_lit, Nat.add_assoc] using this.1
/-- All the bytes of the first k parts. -/
def catF (F : Nat → Pt) : Nat → List Int
  | 0 => []
  | k + 1 => catF F k ++ (F k).z

/-- 'append(s, x...)', x bytes that lie in memory, or nil. -/
theorem wpList_more {w : World} {ops : Array Oper} {rest : List Oper} {o : Oper} {a : Act} {Q : Exit → Act → World → Prop} (hgd : o.guard = none) (s x : Operand)
    (ho : o.op = .call { callee := .builtin .append, args := #[s, x], argTypes := #[24, 24] })
    (v : Value) (g : Option Nat) (zs : List Int) (hs : a.eval s = v) (hsl : Sl w 5 v g (vals zs))
    (ad : Option Addr) (m c : Nat) (ys : List Int) (hx : a.eval x = .slice ad m c) (hc : ad = none → c = 0) (hm : ys.length = m) (hr : Row w ad ys) (hlen : zs.length + m ≤ 140737488351232)
    (h : ∀ v' w' g', Sl w' 5 v' g' (vals (zs ++ ys)) → (g' = g ∨ ∃ k, g' = some k ∧ w.heap.size ≤ k) → w.grownBy w' g → wpList Try.prog ops Q rest (a.put o.dst v') w') : wpList Try.prog ops Q (o :: rest) a w := by
  obtain ⟨i0, hi, hz0, hz1, hz2⟩ := info_parts Try.info5
  cases ad with
  | none =>
    have hb : ys = [] := by
      rcases hr with h | ⟨b, off, h, _⟩
      · exact h
      · cases h
    have hc0 := hc rfl
    subst hb hc0
    simp at hm
    subst hm
    obtain ⟨a', c', hv, hle, _⟩ := hsl.shape
    subst hv
    refine wpList_append_sl_none hgd s x 24 ho 5 i0 Try.underlying24 hi _ _ _ hs hle hx ?_
    exact h _ w g (by simpa using hsl) (.inl rfl) ⟨rfl, rfl, rfl, Nat.le_refl _, fun _ _ _ => rfl⟩
  | some y =>
    refine wpList_append_sl hgd s x 24 ho 5 i0 (.int .u8 0) 1 Try.underlying24 hi hz0 hz1 hz2 rfl _ _ _ hs hsl y m c (vals ys) hx (by rw [vals_len]; exact hm) (news_row hr) (vals_one ys) (by rw [vals_len]; omega) (by rw [vals_len]; unfold maxLen; omega) ?_
    intro v' w' g' h1 h2 h3
    exact h v' w' g' (by rw [vals_append]; exact h1) h2 h3
end Go.Proofs.Ytaibojmaghmfnaa
