/- Chunks that came in, opened (of Cq3 and Rp6, without what they stand on). -/
import Derived.Test.YtoofpkcgiodfcaaSg3
import Derived.Test.YtoofpkcgiodfcaaCq1
import Derived.Test.YtoofpkcgiodfcaaArgB
import Derived.Lib.SmallJoins
import Derived.Deep.Slices
namespace Go.Proofs.Ytoofpkcgiodfcaa
open Go.ChangeShapes Go.WideShapes Go.ChangeAt Go.RowKit
theorem Try.cellsCk : Try.prog.cellsOf 40 = 2 := by kernel_rfl
/-- Bytes within memory, however many. -/
def PtW (W : World) (fa : Option Addr) (Z fc : Nat) (z : List Int) : Prop := z.length = Z ∧ Bytes z ∧ Z ≤ fc ∧ fc ≤ 9223372036854775807 ∧ (fa = none → fc = 0) ∧ Row W fa z
theorem PtW.ok {W : World} {fa : Option Addr} {Z fc : Nat} {z : List Int} (h : PtW W fa Z fc z) (hZ : Z ≤ 140737488351232) : PtOk W ⟨fa, fc, z⟩ := by
  obtain ⟨h1, h2, h3, h4, h5, h6⟩ := h
  exact ⟨h2, by show z.length ≤ fc; omega, ⟨by show z.length ≤ _; omega, h4⟩, h5, h6⟩
theorem trod_bytes {H : Type} {enc : TypeId × Value → H} {W : World} {n : Nat} {v : Value} {y : DataW H × List MemPlace} (h : DataW.trod enc Try.prog W 0 (fun _ => true) true n 26 [v] = some y) : ∃ fa Z fc z, v = .slice fa Z fc ∧ PtW W fa Z fc z := by
  rcases open_ints Try.underlying26 Try.underlying5 Try.cells5 h with ⟨hcs, _⟩ | ⟨x, l, c, zs, hcs, _, hl, hm, hz, hx, hcell, hwz⟩
  · simp at hcs
    exact ⟨none, 0, 0, [], hcs, rfl, Bytes.nil, Nat.le_refl _, by omega, fun _ => rfl, .inl rfl⟩
  · simp at hcs
    simp only [if_true] at hz
    refine ⟨some x, l, c, zs.take l, hcs, by rw [List.length_take]; omega, (bytes_of_wf hwz).take _, hl, by unfold maxLen at hm; omega, (by intro h; cases h), row_of_arg (by omega) hcell⟩
def CkIn (W : World) (a : Option Addr) (len cap : Nat) (F : Nat → Ck) : Prop := CkArg W a len cap F ∧ ∀ i, i < len → (F i).kind.size ≤ 9223372036854775807
theorem open_chunks {H : Type} {enc : TypeId × Value → H} {W : World} {a : Option Addr} {len cap j : Nat} {d : DataW H} {p : List MemPlace} {ts : List TypeId} {ds : List (DataW H)}
    (h0 : DataW.Trod enc Try.prog W 0 (fun _ => true) true 38 (.slice a len cap) d p) (hsz : (DataW.weightsEach Try.prog ts ds).all (· ≤ reachBytes) = true) (ht : ts[j]? = some 38) (hd : ds[j]? = some d) : ∃ F, CkIn W a len cap F := by
  obtain ⟨fuel, hf⟩ := h0
  rcases Deep.open_slice Try.underlying38 hf with ⟨hcs, _⟩ | ⟨x, l, c, m, n, D, Pl, hcs, _, hl, hm, hmm, hdx, hx⟩
  · simp [Value.cells] at hcs
    obtain ⟨rfl, rfl, rfl⟩ := hcs
    exact ⟨fun _ => ⟨⟨#[]⟩, none, 0, []⟩, ⟨Nat.le_refl _, by unfold maxLen; omega, fun h => absurd h (by omega)⟩, fun i hi => absurd hi (by omega)⟩
  · simp [Value.cells] at hcs
    obtain ⟨rfl, rfl, rfl⟩ := hcs
    have hml : len ≤ m := by rw [hmm]; simp; exact hl
    simp only [Prod.mk.injEq] at hdx
    obtain ⟨hd', _⟩ := hdx
    have hw : ∀ i, i < len → ∀ n ∈ (D i).weights Try.prog 40, n ≤ reachBytes := by
      intro i hi n hn
      have h1 : D i ∈ (List.range len).map D := List.mem_map.2 ⟨i, List.mem_range.2 hi, rfl⟩
      have h2 : n ∈ d.weights Try.prog 38 := by
        rw [hd']
        simp only [DataW.weights, Try.underlying38, List.mem_cons, List.mem_append]
        exact .inr (.inl (weightsAll_mem h1 n hn))
      have h3 := List.all_eq_true.1 hsz _ (DataW.weights_mem_each ht hd n h2)
      simpa using h3
    have each : ∀ i, i < len → ∃ q : Ck, (W.cell? (x.add (i * 2)) = some (.string q.kind) ∧ W.cell? (x.add (i * 2 + 1)) = some (.slice q.a q.z.length q.c)) ∧ PtOk W q.pt ∧ q.kind.size ≤ 9223372036854775807 := by
      intro i hi
      obtain ⟨cs', h1, h2⟩ := hx i (by omega)
      rw [Try.cellsCk] at h1
      obtain ⟨_, hlen, hcell⟩ := World.cells?_some h1
      obtain ⟨xs, k, hk, hxy, _, hxl, hff⟩ := DataW.trod_struct Try.underlying40 h2
      have hwi := hw i hi
      match xs, hxl, cs', hlen, hxy with
      | [y0, y1], _, [v0, v1], _, hxy =>
        have g0 := hff 0 _ rfl
        have g1 := hff 1 _ rfl
        simp [show Try.prog.cellsOf 9 = 1 by kernel_rfl, Try.cells26] at g0 g1
        obtain ⟨s0, e0, _, hs0⟩ := DataW.trod_string Try.underlying9 g0
        simp at e0
        subst e0
        have c0 := hcell 0 (by omega)
        have c1 := hcell 1 (by omega)
        rw [Deep.add_add] at c0 c1
        have hsm : s0.size ≤ 9223372036854775807 := by unfold maxLen at hs0; omega
        rcases open_ints Try.underlying26 Try.underlying5 Try.cells5 g1 with ⟨hcs, _⟩ | ⟨x', l', c', zs, hcs, _, hl', hm', hz, hx', hcl, hwz⟩
        · simp at hcs
          subst hcs
          exact ⟨⟨s0, none, 0, []⟩, ⟨by simpa using c0, by simpa using c1⟩, ⟨Bytes.nil, Nat.le_refl _, ⟨by show 0 ≤ _; omega, by show 0 ≤ _; omega⟩, fun _ => rfl, .inl rfl⟩, hsm⟩
        · simp at hcs
          subst hcs
          simp only [if_true] at hz
          have hlt : (zs.take l').length = l' := by rw [List.length_take]; omega
          have hr : zs.length ≤ 140737488351232 := by
            simp only [Prod.mk.injEq, List.map_cons, List.map_nil] at hxy
            have hwt := hwi (((lits IntKind.u8 (zs.take l') : List (DataW H)).length + (lits IntKind.u8 (zs.drop l') : List (DataW H)).length) * Try.prog.bytesOf 5) (by
              rw [hxy.1, hx']
              simp [DataW.weights, DataW.weightsEach, Try.underlying40, Try.underlying26])
            rw [Try.bytes5] at hwt
            simp only [lits, List.length_map, List.length_take, List.length_drop, reachBytes] at hwt
            omega
          exact ⟨⟨s0, some x', c', zs.take l'⟩, ⟨by simpa using c0, by show _ = some (Value.slice (some x') (zs.take l').length c'); rw [hlt]; simpa using c1⟩, ⟨(bytes_of_wf hwz).take _, by show (zs.take l').length ≤ c'; rw [hlt]; exact hl', ⟨by show (zs.take l').length ≤ _; omega, by show c' ≤ _; unfold maxLen at hm'; omega⟩, (by intro h; cases h), row_of_arg (by omega) hcl⟩, hsm⟩
    have hne : Inhabited Ck := ⟨⟨⟨#[]⟩, none, 0, []⟩⟩
    obtain ⟨F, hF⟩ := Deep.choose_lt each
    refine ⟨F, ⟨hl, hm, fun hpos => ?_⟩, fun i hi => (hF i hi).2.2⟩
    obtain ⟨b, off, spot⟩ := x
    have hc := (hF 0 hpos).1.1
    have hspot : spot = none := by simpa [Addr.add] using World.cell?_spot hc
    subst hspot
    refine ⟨b, off, rfl, fun i hi => ?_⟩
    have := hF i hi
    refine ⟨?_, ?_, this.2.1⟩
    · simpa [Addr.add_lit, Nat.add_assoc] using this.1.1
    · simpa [Addr.add_lit, Nat.add_assoc] using this.1.2
end Go.Proofs.Ytoofpkcgiodfcaa
