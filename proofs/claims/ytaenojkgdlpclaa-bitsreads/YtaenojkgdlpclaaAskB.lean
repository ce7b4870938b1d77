import Derived.Test.YtaenojkgdlpclaaPutA
namespace Go.Proofs.Ytaenojkgdlpclaa
open Go.RowKit Go.ChangeShapes Go.WideShapes

/-- One question: its kind, its number, its bytes z at a. -/
structure Ak where
  k : Int
  n : Int
  a : Option Addr
  c : Nat
  z : List Int
def AskOk (W : World) (q : Ak) : Prop := 0 ≤ q.k ∧ q.k < 256 ∧ Bytes q.z ∧ q.z.length ≤ q.c ∧ q.c ≤ 140737488351232 ∧ (q.a = none → q.c = 0) ∧ Row W q.a q.z
/-- Questions that came in. -/
def AArg (W : World) (a : Option Addr) (len cap : Nat) (F : Nat → Ak) : Prop :=
  len ≤ cap ∧ cap ≤ maxLen ∧ (0 < len → ∃ b off, a = some ⟨b, off, none⟩ ∧ ∀ i, i < len → (W.cell? ⟨b, off + i * 3, none⟩ = some (.int .u8 (F i).k) ∧ W.cell? ⟨b, off + i * 3 + 1, none⟩ = some (.int .i64 (F i).n) ∧ W.cell? ⟨b, off + i * 3 + 2, none⟩ = some (.slice (F i).a (F i).z.length (F i).c)) ∧ AskOk W (F i))

theorem weightsAll_mem {H : Type} {P : Program} {e : TypeId} : ∀ {l : List (DataW H)} {d : DataW H}, d ∈ l → ∀ n ∈ d.weights P e, n ∈ DataW.weightsAll P e l
  | x :: r, d, hd, n, hn => by
    simp only [DataW.weightsAll, List.mem_append]
    rcases List.mem_cons.1 hd with h | h
    · subst h; exact .inl hn
    · exact .inr (weightsAll_mem h n hn)
theorem Try.cells33 : Try.prog.cellsOf 33 = 3 := by kernel_rfl
theorem Try.cells31 : Try.prog.cellsOf 31 = 1 := by kernel_rfl

theorem open_asks {H : Type} {enc : TypeId × Value → H} {W : World} {a : Option Addr} {len cap j : Nat} {d : DataW H} {p : List MemPlace} {ts : List TypeId} {ds : List (DataW H)}
    (h0 : DataW.Trod enc Try.prog W 0 (fun _ => true) true 22 (.slice a len cap) d p) (hsz : (DataW.weightsEach Try.prog ts ds).all (· ≤ reachBytes) = true) (ht : ts[j]? = some 22) (hd : ds[j]? = some d) : ∃ F, AArg W a len cap F := by
  obtain ⟨fuel, hf⟩ := h0
  rcases Deep.open_slice Try.underlying22 hf with ⟨hcs, _⟩ | ⟨x, l, c, m, n, D, Pl, hcs, _, hl, hm, hmm, hdx, hx⟩
  · simp [Value.cells] at hcs
    obtain ⟨rfl, rfl, rfl⟩ := hcs
    exact ⟨fun _ => ⟨0, 0, none, 0, []⟩, Nat.le_refl _, by unfold maxLen; omega, fun h => absurd h (by omega)⟩
  · simp [Value.cells] at hcs
    obtain ⟨rfl, rfl, rfl⟩ := hcs
    have hml : len ≤ m := by rw [hmm]; simp; exact hl
    simp only [Prod.mk.injEq] at hdx
    obtain ⟨hd', _⟩ := hdx
    have hw : ∀ i, i < len → ∀ n ∈ (D i).weights Try.prog 33, n ≤ reachBytes := by
      intro i hi n hn
      have h1 : D i ∈ (List.range len).map D := List.mem_map.2 ⟨i, List.mem_range.2 hi, rfl⟩
      have h2 : n ∈ d.weights Try.prog 22 := by
        rw [hd']
        simp only [DataW.weights, Try.underlying22, List.mem_cons, List.mem_append]
        exact .inr (.inl (weightsAll_mem h1 n hn))
      have h3 := List.all_eq_true.1 hsz _ (DataW.weights_mem_each ht hd n h2)
      simpa using h3
    have each : ∀ i, i < len → ∃ q : Ak, (W.cell? (x.add (i * 3)) = some (.int .u8 q.k) ∧ W.cell? (x.add (i * 3 + 1)) = some (.int .i64 q.n) ∧ W.cell? (x.add (i * 3 + 2)) = some (.slice q.a q.z.length q.c)) ∧ AskOk W q := by
      intro i hi
      obtain ⟨cs', h1, h2⟩ := hx i (by omega)
      rw [Try.cells33] at h1
      obtain ⟨_, hlen, hcell⟩ := World.cells?_some h1
      obtain ⟨xs, k, hk, hxy, _, hxl, hff⟩ := DataW.trod_struct Try.underlying33 h2
      have hwi := hw i hi
      match xs, hxl, cs', hlen, hxy with
      | [y0, y1, y2], _, [v0, v1, v2], _, hxy =>
        have g0 := hff 0 _ rfl
        have g1 := hff 1 _ rfl
        have g2 := hff 2 _ rfl
        simp [Try.cells3, Try.cells5, Try.cells31] at g0 g1 g2
        obtain ⟨n0, e0, _, w0⟩ := DataW.trod_int Try.underlying5 g0
        obtain ⟨n1, e1, _⟩ := DataW.trod_int Try.underlying3 g1
        simp at e0 e1
        subst e0 e1
        have c0 := hcell 0 (by omega)
        have c1 := hcell 1 (by omega)
        have c2 := hcell 2 (by omega)
        rw [Deep.add_add] at c0 c1 c2
        have hb := bounds_u8 w0
        rcases open_ints Try.underlying31 Try.underlying5 Try.cells5 g2 with ⟨hcs, _⟩ | ⟨x', l', c', zs, hcs, _, hl', hm', hz, hx', hcl, hwz⟩
        · simp at hcs
          subst hcs
          exact ⟨⟨n0, n1, none, 0, []⟩, ⟨by simpa using c0, by simpa using c1, by simpa using c2⟩, by show (0 : Int) ≤ n0; omega, by show n0 < 256; omega, Bytes.nil, Nat.le_refl _, by show 0 ≤ _; omega, fun _ => rfl, .inl rfl⟩
        · simp at hcs
          subst hcs
          simp only [if_true] at hz
          have hlt : (zs.take l').length = l' := by rw [List.length_take]; omega
          have hr : zs.length ≤ 140737488351232 := by
            simp only [Prod.mk.injEq, List.map_cons, List.map_nil] at hxy
            have hwt := hwi (((lits IntKind.u8 (zs.take l') : List (DataW H)).length + (lits IntKind.u8 (zs.drop l') : List (DataW H)).length) * Try.prog.bytesOf 5) (by
              rw [hxy.1, hx']
              simp [DataW.weights, DataW.weightsEach, Try.underlying33, Try.underlying31])
            rw [Try.bytes5] at hwt
            simp only [lits, List.length_map, List.length_take, List.length_drop, reachBytes] at hwt
            omega
          exact ⟨⟨n0, n1, some x', c', zs.take l'⟩, ⟨by simpa using c0, by simpa using c1, by show _ = some (Value.slice (some x') (zs.take l').length c'); rw [hlt]; simpa using c2⟩, by show (0 : Int) ≤ n0; omega, by show n0 < 256; omega, (bytes_of_wf hwz).take _, by show (zs.take l').length ≤ c'; rw [hlt]; exact hl', by show c' ≤ _; omega, (by intro h; cases h), row_of_arg (by omega) hcl⟩
    have hne : Inhabited Ak := ⟨⟨0, 0, none, 0, []⟩⟩
    obtain ⟨F, hF⟩ := Deep.choose_lt each
    refine ⟨F, hl, hm, fun hpos => ?_⟩
    obtain ⟨b, off, spot⟩ := x
    have hc := (hF 0 hpos).1.1
    have hspot : spot = none := by simpa [Addr.add] using World.cell?_spot hc
    subst hspot
    refine ⟨b, off, rfl, fun i hi => ?_⟩
    have := hF i hi
    refine ⟨?_, this.2⟩
    simpa [Addr.add_lit, Nat.add_assoc] using this.1
end Go.Proofs.Ytaenojkgdlpclaa
