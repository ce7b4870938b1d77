/- Acts on a store: the law's walk. -/
import Derived.Test.YtinmkhdangknbaaTkN
import Derived.Test.YtinmkhdangknbaaTkO
namespace Go.Proofs.Ytinmkhdangknbaa
open Go.RowKit Go.ChangeShapes Go.WideShapes
structure Ac where
  i : Int
  p : Pt
theorem cellsAc : Try.prog.cellsOf 47 = 2 := by kernel_rfl
def AcArg (W : World) (a : Option Addr) (len cap : Nat) (F : Nat → Ac) : Prop :=
  len ≤ cap ∧ cap ≤ maxLen ∧ (0 < len → ∃ b off, a = some ⟨b, off, none⟩ ∧ ∀ i, i < len → W.cell? ⟨b, off + i * 2, none⟩ = some (.int .u8 (F i).i) ∧ W.cell? ⟨b, off + i * 2 + 1, none⟩ = some (.slice (F i).p.a (F i).p.z.length (F i).p.c) ∧ (Lit.int .u8 (F i).i).wf = true ∧ PtOk W (F i).p)
theorem open_acts {H : Type} {enc : TypeId × Value → H} {W : World} {a : Option Addr} {len cap j : Nat} {d : DataW H} {p : List MemPlace} {ts : List TypeId} {ds : List (DataW H)}
    (h0 : DataW.Trod enc Try.prog W 0 (fun _ => true) true 40 (.slice a len cap) d p) (hsz : (DataW.weightsEach Try.prog ts ds).all (· ≤ reachBytes) = true) (ht : ts[j]? = some 40) (hd : ds[j]? = some d) : ∃ F, AcArg W a len cap F := by
  obtain ⟨fuel, hf⟩ := h0
  rcases Deep.open_slice Try.underlying40 hf with ⟨hcs, _⟩ | ⟨x, l, c, m, n, D, Pl, hcs, _, hl, hm, hmm, hdx, hx⟩
  · simp [Value.cells] at hcs
    obtain ⟨rfl, rfl, rfl⟩ := hcs
    exact ⟨fun _ => ⟨0, ⟨none, 0, []⟩⟩, Nat.le_refl _, by unfold maxLen; omega, fun h => absurd h (by omega)⟩
  · simp [Value.cells] at hcs
    obtain ⟨rfl, rfl, rfl⟩ := hcs
    have hml : len ≤ m := by rw [hmm]; simp; exact hl
    simp only [Prod.mk.injEq] at hdx
    obtain ⟨hd', _⟩ := hdx
    have hw : ∀ i, i < len → ∀ n ∈ (D i).weights Try.prog 47, n ≤ reachBytes := by
      intro i hi n hn
      have h1 : D i ∈ (List.range len).map D := List.mem_map.2 ⟨i, List.mem_range.2 hi, rfl⟩
      have h2 : n ∈ d.weights Try.prog 40 := by
        rw [hd']
        simp only [DataW.weights, Try.underlying40, List.mem_cons, List.mem_append]
        exact .inr (.inl (weightsAll_mem h1 n hn))
      have h3 := List.all_eq_true.1 hsz _ (DataW.weights_mem_each ht hd n h2)
      simpa using h3
    have each : ∀ i, i < len → ∃ q : Ac, (W.cell? (x.add (i * 2)) = some (.int .u8 q.i) ∧ W.cell? (x.add (i * 2 + 1)) = some (.slice q.p.a q.p.z.length q.p.c)) ∧ PtOk W q.p ∧ (Lit.int .u8 q.i).wf = true := by
      intro i hi
      obtain ⟨cs', h1, h2⟩ := hx i (by omega)
      rw [cellsAc] at h1
      obtain ⟨_, hlen, hcell⟩ := World.cells?_some h1
      obtain ⟨xs, k, hk, hxy, _, hxl, hff⟩ := DataW.trod_struct Try.underlying47 h2
      have hwi := hw i hi
      match xs, hxl, cs', hlen, hxy with
      | [y0, y1], _, [v0, v1], _, hxy =>
        have g0 := hff 0 _ rfl
        have g1 := hff 1 _ rfl
        simp [show Try.prog.cellsOf 5 = 1 by kernel_rfl, Try.cells23] at g0 g1
        obtain ⟨s0, e0, _, hsm⟩ := DataW.trod_int Try.underlying5 g0
        simp at e0
        subst e0
        have c0 := hcell 0 (by omega)
        have c1 := hcell 1 (by omega)
        rw [Deep.add_add] at c0 c1
        rcases open_ints Try.underlying23 Try.underlying5 Try.cells5 g1 with ⟨hcs, _⟩ | ⟨x', l', c', zs, hcs, _, hl', hm', hz, hx', hcl, hwz⟩
        · simp at hcs
          subst hcs
          exact ⟨⟨s0, ⟨none, 0, []⟩⟩, ⟨by simpa using c0, by simpa using c1⟩, ⟨Bytes.nil, Nat.le_refl _, ⟨by show 0 ≤ _; omega, by show 0 ≤ _; omega⟩, fun _ => rfl, .inl rfl⟩, hsm⟩
        · simp at hcs
          subst hcs
          simp only [if_true] at hz
          have hlt : (zs.take l').length = l' := by rw [List.length_take]; omega
          have hr : zs.length ≤ 140737488351232 := by
            simp only [Prod.mk.injEq, List.map_cons, List.map_nil] at hxy
            have hwt := hwi (((lits IntKind.u8 (zs.take l') : List (DataW H)).length + (lits IntKind.u8 (zs.drop l') : List (DataW H)).length) * Try.prog.bytesOf 5) (by
              rw [hxy.1, hx']
              simp [DataW.weights, DataW.weightsEach, Try.underlying47, Try.underlying23])
            rw [Try.bytes5] at hwt
            simp only [lits, List.length_map, List.length_take, List.length_drop, reachBytes] at hwt
            omega
          exact ⟨⟨s0, ⟨some x', c', zs.take l'⟩⟩, ⟨by simpa using c0, by show _ = some (Value.slice (some x') (zs.take l').length c'); rw [hlt]; simpa using c1⟩, ⟨(bytes_of_wf hwz).take _, by show (zs.take l').length ≤ c'; rw [hlt]; exact hl', ⟨by show (zs.take l').length ≤ _; omega, by show c' ≤ _; unfold maxLen at hm'; omega⟩, (by intro h; cases h), row_of_arg (by omega) hcl⟩, hsm⟩
    have hne : Inhabited Ac := ⟨⟨0, ⟨none, 0, []⟩⟩⟩
    obtain ⟨F, hF⟩ := Deep.choose_lt each
    refine ⟨F, hl, hm, fun hpos => ?_⟩
    obtain ⟨b, off, spot⟩ := x
    have hc := (hF 0 hpos).1.1
    have hspot : spot = none := by simpa [Addr.add] using World.cell?_spot hc
    subst hspot
    refine ⟨b, off, rfl, fun i hi => ?_⟩
    have := hF i hi
    refine ⟨?_, ?_, this.2.2, this.2.1⟩
    · simpa [Addr.add_lit, Nat.add_assoc] using this.1.1
    · simpa [Addr.add_lit, Nat.add_assoc] using this.1.2
theorem AcArg.old {w w' : World} {a : Option Addr} {len cap : Nat} {F : Nat → Ac} (h : AcArg w a len cap F) (hb : Below w.heap.size w w') : AcArg w' a len cap F := by
  refine ⟨h.1, h.2.1, fun hp => ?_⟩
  obtain ⟨b, off, ha, hc⟩ := h.2.2 hp
  exact ⟨b, off, ha, fun i hi => ⟨(hb.cell (p := ⟨b, off + i * 2, none⟩) (cell_lt (hc i hi).1)).trans (hc i hi).1, (hb.cell (p := ⟨b, off + i * 2 + 1, none⟩) (cell_lt (hc i hi).2.1)).trans (hc i hi).2.1, (hc i hi).2.2.1, (hc i hi).2.2.2.old hb⟩⟩
/-- Both stores between two acts. -/
structure PlI (w : World) (b c : Nat) (K B K' B' : Pt) (s : Bool) (wr : World) : Prop where
  ps : PS wr b K B s
  rs : RS wr c K' B' s
  kk : K.z = K'.z
  bb : s = true → B.z = B'.z
  be : Below w.heap.size w wr
  fb : w.heap.size ≤ b
  fc : w.heap.size ≤ c
  ne : b ≠ c
theorem PlI.old {w wr w' : World} {b c : Nat} {K B K' B' : Pt} {s : Bool} (h : PlI w b c K B K' B' s wr) (g : Below wr.heap.size wr w') : PlI w b c K B K' B' s w' :=
  ⟨h.ps.old g, h.rs.old g, h.kk, h.bb, h.be.trans (g.mono h.be.size), h.fb, h.fc, h.ne⟩
/-- Rows of bytes don't lie in block ob. -/
def Dn (ob : Nat) (q : Pt) : Prop := ∀ x, q.a = some x → q.z ≠ [] → x.block ≠ ob
theorem Dn.pt {w w' : World} {ob : Nat} {q : Pt} (h : PtOk w q) (d : Dn ob q) (hg : w.grownBy w' (some ob)) : PtOk w' q := ⟨h.1, h.2.1, h.2.2.1, h.2.2.2.1, h.2.2.2.2.same fun x hx hz => hg.block x.block (h.2.2.2.2.lt x hx hz) (by have := d x hx hz; simpa using this)⟩
theorem Dn.of_lt {w : World} {q : Pt} {ob : Nat} (h : PtOk w q) (ho : w.heap.size ≤ ob) : Dn ob q := fun x hx hz => by have := h.2.2.2.2.lt x hx hz; omega
theorem Dn.of_new {q : Pt} {ob n : Nat} (h : ∀ x, q.a = some x → n ≤ x.block) (ho : ob < n) : Dn ob q := fun x hx _ => by have := h x hx; omega
theorem PlI.own {w wr w' : World} {b c ob : Nat} {K B K' B' : Pt} {s : Bool} (h : PlI w b c K B K' B' s wr) (hg : wr.grownBy w' (some ob)) (h1 : ob ≠ b) (h2 : ob ≠ c) (hw : w.heap.size ≤ ob) (dk : Dn ob K) (db : Dn ob B) (dk' : Dn ob K') (db' : Dn ob B') : PlI w b c K B K' B' s w' :=
  ⟨⟨(hg.block _ (lt_of_block h.ps.ce) (by simp; omega)).trans h.ps.ce, Dn.pt h.ps.k dk hg, Dn.pt h.ps.b db hg⟩, ⟨(hg.block _ (lt_of_block h.rs.ce) (by simp; omega)).trans h.rs.ce, Dn.pt h.rs.k dk' hg, Dn.pt h.rs.b db' hg⟩, h.kk, h.bb, h.be.grown hg h.be.size (fun k hk => by cases hk; exact hw), h.fb, h.fc, h.ne⟩
/-- A store's rows under another block's change. -/
theorem RS.step {w w' : World} {b c : Nat} {K B K' B' : Pt} {s s' : Bool} (h : RS w c K' B' s) (hp : PS w b K B s') (hn : b ≠ c) (g : w.grownBy w' (some b)) : RS w' c K' B' s := ⟨(g.block _ (lt_of_block h.ce) (by simp; omega)).trans h.ce, PtOk.keep hp.ce h.k g, PtOk.keep hp.ce h.b g⟩
theorem PS.step {w w' : World} {b c : Nat} {K B K' B' : Pt} {s s' : Bool} (h : PS w b K B s) (hp : RS w c K' B' s') (hn : b ≠ c) (g : w.grownBy w' (some c)) : PS w' b K B s := ⟨(g.block _ (lt_of_block h.ce) (by simp; omega)).trans h.ce, PtOk.keep hp.ce h.k g, PtOk.keep hp.ce h.b g⟩
theorem new_ref (w : World) (o : Obj) : (w.alloc o).heap[w.heap.size]? = some o := heap_alloc_newT w o
theorem row_cell0 {wr : World} {zs : List Int} {a : Option Addr} {n cp : Nat} {go : Option Nat} (h : Sl wr 5 (.slice a n cp) go (vals zs)) (hl : zs.length = n) (j : Nat) (hj : j < n) : ∃ g off cap, a = some ⟨g, off, none⟩ ∧ cap = cp ∧ go = some g ∧ wr.cell? ⟨g, off + j, none⟩ = some (.int .u8 (zs[j]?.getD 0)) ∧ wr.frozen? ⟨g, off + j, none⟩ = false := by
  rcases h with ⟨e, _, _⟩ | ⟨b, off, cap, cur, e, eg, hh, h1, h2, h3, hc⟩
  · simp only [Value.slice.injEq] at e; omega
  · simp only [Value.slice.injEq] at e
    obtain ⟨rfl, e2, rfl⟩ := e
    have hv : (vals zs)[j]? = some (.int .u8 (zs[j]?.getD 0)) := by
      unfold vals
      rw [List.getElem?_map]
      have : j < zs.length := by omega
      simp [this]
    have hcc := hc j (by rw [vals_len]; omega)
    rw [hv] at hcc
    refine ⟨b, off, cp, rfl, rfl, eg, ?_, ?_⟩
    · simp [World.cell?, hh, hcc]
    · simp [World.frozen?, hh]
end Go.Proofs.Ytinmkhdangknbaa
