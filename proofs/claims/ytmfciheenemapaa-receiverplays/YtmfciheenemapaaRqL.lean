/- Items that came in. -/
import Derived.Test.YtmfciheenemapaaRqJ
namespace Go.Proofs.Ytmfciheenemapaa
open Go.RowKit Go.ChangeShapes Go.WideShapes
structure It where
  i : Int
  p : Pt
theorem cellsIt : Try.prog.cellsOf 34 = 2 := by kernel_rfl
def ItArg (W : World) (a : Option Addr) (len cap : Nat) (F : Nat → It) : Prop :=
  len ≤ cap ∧ cap ≤ maxLen ∧ (0 < len → ∃ b off, a = some ⟨b, off, none⟩ ∧ ∀ i, i < len → W.cell? ⟨b, off + i * 2, none⟩ = some (.int .i64 (F i).i) ∧ W.cell? ⟨b, off + i * 2 + 1, none⟩ = some (.slice (F i).p.a (F i).p.z.length (F i).p.c) ∧ (Lit.int .i64 (F i).i).wf = true ∧ PtOk W (F i).p)
theorem open_items {H : Type} {enc : TypeId × Value → H} {W : World} {a : Option Addr} {len cap j : Nat} {d : DataW H} {p : List MemPlace} {ts : List TypeId} {ds : List (DataW H)}
    (h0 : DataW.Trod enc Try.prog W 0 (fun _ => true) true 22 (.slice a len cap) d p) (hsz : (DataW.weightsEach Try.prog ts ds).all (· ≤ reachBytes) = true) (ht : ts[j]? = some 22) (hd : ds[j]? = some d) : ∃ F, ItArg W a len cap F := by
  obtain ⟨fuel, hf⟩ := h0
  rcases Deep.open_slice Try.underlying22 hf with ⟨hcs, _⟩ | ⟨x, l, c, m, n, D, Pl, hcs, _, hl, hm, hmm, hdx, hx⟩
  · simp [Value.cells] at hcs
    obtain ⟨rfl, rfl, rfl⟩ := hcs
    exact ⟨fun _ => ⟨0, ⟨none, 0, []⟩⟩, Nat.le_refl _, by unfold maxLen; omega, fun h => absurd h (by omega)⟩
  · simp [Value.cells] at hcs
    obtain ⟨rfl, rfl, rfl⟩ := hcs
    have hml : len ≤ m := by rw [hmm]; simp; exact hl
    simp only [Prod.mk.injEq] at hdx
    obtain ⟨hd', _⟩ := hdx
    have hw : ∀ i, i < len → ∀ n ∈ (D i).weights Try.prog 34, n ≤ reachBytes := by
      intro i hi n hn
      have h1 : D i ∈ (List.range len).map D := List.mem_map.2 ⟨i, List.mem_range.2 hi, rfl⟩
      have h2 : n ∈ d.weights Try.prog 22 := by
        rw [hd']
        simp only [DataW.weights, Try.underlying22, List.mem_cons, List.mem_append]
        exact .inr (.inl (weightsAll_mem h1 n hn))
      have h3 := List.all_eq_true.1 hsz _ (DataW.weights_mem_each ht hd n h2)
      simpa using h3
    have each : ∀ i, i < len → ∃ q : It, (W.cell? (x.add (i * 2)) = some (.int .i64 q.i) ∧ W.cell? (x.add (i * 2 + 1)) = some (.slice q.p.a q.p.z.length q.p.c)) ∧ PtOk W q.p ∧ (Lit.int .i64 q.i).wf = true := by
      intro i hi
      obtain ⟨cs', h1, h2⟩ := hx i (by omega)
      rw [cellsIt] at h1
      obtain ⟨_, hlen, hcell⟩ := World.cells?_some h1
      obtain ⟨xs, k, hk, hxy, _, hxl, hff⟩ := DataW.trod_struct Try.underlying34 h2
      have hwi := hw i hi
      match xs, hxl, cs', hlen, hxy with
      | [y0, y1], _, [v0, v1], _, hxy =>
        have g0 := hff 0 _ rfl
        have g1 := hff 1 _ rfl
        simp [show Try.prog.cellsOf 3 = 1 by kernel_rfl, Try.cells32] at g0 g1
        obtain ⟨s0, e0, _, hsm⟩ := DataW.trod_int Try.underlying3 g0
        simp at e0
        subst e0
        have c0 := hcell 0 (by omega)
        have c1 := hcell 1 (by omega)
        rw [Deep.add_add] at c0 c1
        rcases open_ints Try.underlying32 Try.underlying5 Try.cells5 g1 with ⟨hcs, _⟩ | ⟨x', l', c', zs, hcs, _, hl', hm', hz, hx', hcl, hwz⟩
        · simp at hcs
          subst hcs
          exact ⟨⟨s0, ⟨none, 0, []⟩⟩, ⟨by simpa using c0, by simpa using c1⟩, ⟨Bytes.nil, Nat.le_refl _, ⟨by show 0 ≤ _; omega, by show 0 ≤ _; omega⟩, fun _ => rfl, .inl rfl⟩, hsm⟩
        · simp at hcs
          subst hcs
          simp only [if_true] at hz
          have hlt : (zs.take l').length = l' := by rw [List.length_take]; omega
          have hr : zs.length ≤ 140737488351232 := by
            simp only [Prod.mk.injEq, List.map_cons, List.map_nil] at hxy
            have hwt := hwi (((lits IntKind.u8 (zs.take l') : List (DataW H)).length + (lits IntKind.u8 (zs.drop l') : List (DataW H)).length) * Try.prog.bytesOf 5) (by
              rw [hxy.1, hx']
              simp [DataW.weights, DataW.weightsEach, Try.underlying34, Try.underlying32])
            rw [Try.bytes5] at hwt
            simp only [lits, List.length_map, List.length_take, List.length_drop, reachBytes] at hwt
            omega
          exact ⟨⟨s0, ⟨some x', c', zs.take l'⟩⟩, ⟨by simpa using c0, by show _ = some (Value.slice (some x') (zs.take l').length c'); rw [hlt]; simpa using c1⟩, ⟨(bytes_of_wf hwz).take _, by show (zs.take l').length ≤ c'; rw [hlt]; exact hl', ⟨by show (zs.take l').length ≤ _; omega, by show c' ≤ _; unfold maxLen at hm'; omega⟩, (by intro h; cases h), row_of_arg (by omega) hcl⟩, hsm⟩
    have hne : Inhabited It := ⟨⟨0, ⟨none, 0, []⟩⟩⟩
    obtain ⟨F, hF⟩ := Deep.choose_lt each
    refine ⟨F, hl, hm, fun hpos => ?_⟩
    obtain ⟨b, off, spot⟩ := x
    have hc := (hF 0 hpos).1.1
    have hspot : spot = none := by simpa [Addr.add] using World.cell?_spot hc
    subst hspot
    refine ⟨b, off, rfl, fun i hi => ?_⟩
    have := hF i hi
    refine ⟨?_, ?_, this.2.2, this.2.1⟩
    · simpa [Addr.add_lit, Nat.add_assoc] using this.1.1
    · simpa [Addr.add_lit, Nat.add_assoc] using this.1.2
theorem ItArg.old {w w' : World} {a : Option Addr} {len cap : Nat} {F : Nat → It} (h : ItArg w a len cap F) (hb : Below w.heap.size w w') : ItArg w' a len cap F := by
  refine ⟨h.1, h.2.1, fun hp => ?_⟩
  obtain ⟨b, off, ha, hc⟩ := h.2.2 hp
  exact ⟨b, off, ha, fun i hi => ⟨(hb.cell (p := ⟨b, off + i * 2, none⟩) (cell_lt (hc i hi).1)).trans (hc i hi).1, (hb.cell (p := ⟨b, off + i * 2 + 1, none⟩) (cell_lt (hc i hi).2.1)).trans (hc i hi).2.1, (hc i hi).2.2.1, pt_old (hc i hi).2.2.2 hb⟩⟩
/-- What few says. -/
def FwP (w : World) (len : Nat) (F : Nat → It) (e : Ending) (w' : World) : Prop := Below w.heap.size w w' ∧ (e = .returned (.bool false) ∨ (e = .returned (.bool true) ∧ len ≤ 301 ∧ ∀ j, j < len → (F j).p.z.length ≤ 3000))
set_option maxHeartbeats 3200000 in
theorem ifew_any {w : World} {a : Option Addr} {len cap : Nat} {F : Nat → It} (h : ItArg w a len cap F) : Calls Try.prog 10 #[.slice a len cap] w fun e w' => FwP w len F e w' := by
  have HA : Hid (ItArg w a len cap F) := h
  clear h
  go_enter Try.func10, Try.ntmps10
  go_wp2
  go_loopw [3, 4, 5, 8] (fun s _ _ v wr => ∃ (i : Nat) (n : Nat), i ≤ len ∧ i ≤ 301 ∧ n ≤ 3000 ∧ s = .int .i64 n ∧ v = .int .i64 i ∧ Hid (Below w.heap.size w wr ∧ ∀ j, j < i → (F j).p.z.length ≤ 3000)) (fun _ _ _ v _ => len - (intOf v).toNat)
  case atStart => exact ⟨0, 0, Nat.zero_le _, by omega, by omega, rfl, rfl, Below.refl _ _, fun j hj => absurd hj (by omega)⟩
  case round =>
    obtain ⟨i, n, hi, hi2, hn, rfl, rfl, HB⟩ := hrel
    by_cases hlt : i < len
    · obtain ⟨b, off, rfl, hc⟩ := (HA.out.old HB.out.1).2.2 (by omega)
      obtain ⟨c0, c1, -, hb⟩ := hc i hlt
      have hsm := hb.2.2.1.1
      obtain ⟨sn, hsn⟩ : ∃ sn, (F i).p.z.length = sn := ⟨_, rfl⟩
      have HL : Hid ((F i).p.z.length = sn) := hsn
      rw [hsn] at c1 hsm
      clear hsn hc hb
      generalize (F i).i = ps at *
      generalize (F i).p.a = sa at *
      generalize (F i).p.c = sc at *
      have HB2 : Hid (Below w.heap.size w (wr.alloc (.cells #[.int .i64 ps, .slice sa sn sc] 34))) := HB.out.1.trans ((below_allocR wr _).mono HB.out.1.size)
      by_cases hgt : 3000 < n + sn
      · have hg1 : (3000 : Int) < (n : Int) + (sn : Int) := by omega
        go_wp2
        go_ret
        exact ⟨HB2.out, .inl rfl⟩
      · have hg1 : ¬ (3000 : Int) < (n : Int) + (sn : Int) := by omega
        by_cases h3 : 300 < i
        · have h3' : (300 : Int) < (i : Int) := by omega
          go_wp2
          go_ret
          exact ⟨HB2.out, .inl rfl⟩
        · have h3' : ¬ (300 : Int) < (i : Int) := by omega
          have HB3 : Hid (∀ j, j < i + 1 → (F j).p.z.length ≤ 3000) := fun j hj => by
            by_cases e : j = i
            · subst e; rw [HL.out]; omega
            · exact HB.out.2 j (by omega)
          go_wp2
          go_roundw
          case rel => exact ⟨i + 1, n + sn, by omega, by omega, by omega, by go_num, by go_num, HB2.out, HB3.out⟩
          case measure => simp [intOf]; omega
    · obtain rfl : i = len := by omega
      go_wp2
      go_ret
      exact ⟨HB.out.1, .inr ⟨rfl, hi2, HB.out.2⟩⟩
end Go.Proofs.Ytmfciheenemapaa
