/- Rows of lines that came in; whether there are few. -/
import Derived.Test.YtjheipfcehddhaaCvN
namespace Go.Proofs.Ytjheipfcehddhaa
open Go.ChangeShapes Go.WideShapes Go.ChangeAt Go.RowKit
/-- Bounds of a line within memory. -/
structure LnB (l : Ln) : Prop where
  sl : l.S.length ≤ l.sc
  sm : l.S.length ≤ 8796093022208
  cl : l.C.length ≤ l.cc
  cm : l.C.length ≤ 17592186044416
  sn : l.sa = none → l.sc = 0
  cn : l.ca = none → l.cc = 0
def LnArg (W : World) (a : Option Addr) (len cap : Nat) (F : Nat → Ln) : Prop :=
  len ≤ cap ∧ cap ≤ maxLen ∧ (0 < len → ∃ b off, a = some ⟨b, off, none⟩ ∧ ∀ i, i < len → W.cell? ⟨b, off + i * 3, none⟩ = some (.int .i64 (F i).ps) ∧ W.cell? ⟨b, off + i * 3 + 1, none⟩ = some (.slice (F i).sa (F i).S.length (F i).sc) ∧ W.cell? ⟨b, off + i * 3 + 2, none⟩ = some (.slice (F i).ca (F i).C.length (F i).cc) ∧ LnM W (F i) ∧ LnB (F i))
theorem LnArg.old {W W' : World} {a : Option Addr} {len cap : Nat} {F : Nat → Ln} (h : LnArg W a len cap F) (hb : Below W.heap.size W W') : LnArg W' a len cap F := by
  refine ⟨h.1, h.2.1, fun hp => ?_⟩
  obtain ⟨b, off, e, hc⟩ := h.2.2 hp
  refine ⟨b, off, e, fun i hi => ?_⟩
  obtain ⟨h0, h1, h2, h3, h4⟩ := hc i hi
  have hlt := cell_lt h0
  have q : ∀ j, W'.cell? ⟨b, j, none⟩ = W.cell? ⟨b, j, none⟩ := fun j => World.cell?_of_block (a := ⟨b, j, none⟩) (hb.block b hlt)
  exact ⟨(q _).trans h0, (q _).trans h1, (q _).trans h2, h3.old hb, h4⟩
theorem weightsAll_memL {H : Type} {P : Program} {e : TypeId} : ∀ {l : List (DataW H)} {d : DataW H}, d ∈ l → ∀ n ∈ d.weights P e, n ∈ DataW.weightsAll P e l
  | x :: r, d, hd, n, hn => by
    simp only [DataW.weightsAll, List.mem_append]
    rcases List.mem_cons.1 hd with h | h
    · subst h; exact .inl hn
    · exact .inr (weightsAll_memL h n hn)
theorem open_lines {H : Type} {enc : TypeId × Value → H} {W : World} {a : Option Addr} {len cap j : Nat} {d : DataW H} {p : List MemPlace} {ts : List TypeId} {ds : List (DataW H)}
    (h0 : DataW.Trod enc Try.prog W 0 (fun _ => true) true 22 (.slice a len cap) d p) (hsz : (DataW.weightsEach Try.prog ts ds).all (· ≤ reachBytes) = true) (ht : ts[j]? = some 22) (hd : ds[j]? = some d) : ∃ F, LnArg W a len cap F := by
  obtain ⟨fuel, hf⟩ := h0
  rcases Deep.open_slice Try.underlying22 hf with ⟨hcs, _⟩ | ⟨x, l, c, m, n, D, Pl, hcs, _, hl, hm, hmm, hdx, hx⟩
  · simp [Value.cells] at hcs
    obtain ⟨rfl, rfl, rfl⟩ := hcs
    exact ⟨fun _ => ⟨0, none, 0, [], none, 0, []⟩, Nat.le_refl _, by unfold maxLen; omega, fun h => absurd h (by omega)⟩
  · simp [Value.cells] at hcs
    obtain ⟨rfl, rfl, rfl⟩ := hcs
    have hml : len ≤ m := by rw [hmm]; simp; exact hl
    simp only [Prod.mk.injEq] at hdx
    obtain ⟨hd', _⟩ := hdx
    have hw : ∀ i, i < len → ∀ n ∈ (D i).weights Try.prog 35, n ≤ reachBytes := by
      intro i hi n hn
      have h1 : D i ∈ (List.range len).map D := List.mem_map.2 ⟨i, List.mem_range.2 hi, rfl⟩
      have h2 : n ∈ d.weights Try.prog 22 := by
        rw [hd']
        simp only [DataW.weights, Try.underlying22, List.mem_cons, List.mem_append]
        exact .inr (.inl (weightsAll_memL h1 n hn))
      have h3 := List.all_eq_true.1 hsz _ (DataW.weights_mem_each ht hd n h2)
      simpa using h3
    rw [Try.cellsLi] at hx
    have each : ∀ i, i < len → ∃ q : Ln, (W.cell? (x.add (i * 3)) = some (.int .i64 q.ps) ∧ W.cell? (x.add (i * 3 + 1)) = some (.slice q.sa q.S.length q.sc) ∧ W.cell? (x.add (i * 3 + 2)) = some (.slice q.ca q.C.length q.cc)) ∧ LnM W q ∧ LnB q := by
      intro i hi
      obtain ⟨cs', h1, h2⟩ := hx i (by omega)
      obtain ⟨_, hlen, hcell⟩ := World.cells?_some h1
      obtain ⟨xs, k, hk, hxy, _, hxl, hff⟩ := DataW.trod_struct Try.underlying35 h2
      have hwi := hw i hi
      match xs, hxl, cs', hlen, hxy with
      | [y0, y1, y2], _, [v0, v1, v2], _, hxy =>
        have g0 := hff 0 _ rfl
        have g1 := hff 1 _ rfl
        have g2 := hff 2 _ rfl
        simp [Try.cells3c, Try.cellsSs, Try.cellsCs] at g0 g1 g2
        obtain ⟨z0, e0, _⟩ := DataW.trod_int Try.underlying3 g0
        simp at e0
        subst e0
        obtain ⟨sa, sc, S, rfl, q1, q2, q3, q4⟩ := trod_spots g1
        obtain ⟨ca, cc, C, rfl, r1, r2, r3, r4⟩ := trod_cols g2
        have c0 := hcell 0 (by omega)
        have c1 := hcell 1 (by omega)
        have c2 := hcell 2 (by omega)
        rw [Deep.add_add] at c0 c1 c2
        simp only [Prod.mk.injEq, List.map_cons, List.map_nil] at hxy
        have bs : S.length ≤ 8796093022208 := by
          rcases q4 with rfl | ⟨u, hu, hle⟩
          · simp
          · have := hwi u (by
              rw [hxy.1]
              simp only [DataW.weights, Try.underlying35]
              simp [DataW.weightsEach, hu])
            simp only [reachBytes] at this
            omega
        have bc : C.length ≤ 17592186044416 := by
          rcases r4 with rfl | ⟨u, hu, hle⟩
          · simp
          · have := hwi u (by
              rw [hxy.1]
              simp only [DataW.weights, Try.underlying35]
              simp [DataW.weightsEach, hu])
            simp only [reachBytes] at this
            omega
        exact ⟨⟨z0, sa, sc, S, ca, cc, C⟩, ⟨by simpa using c0, by simpa using c1, by simpa using c2⟩, ⟨q3, r3⟩, ⟨q1, bs, r1, bc, q2.2, r2.2⟩⟩
    have hne : Inhabited Ln := ⟨⟨0, none, 0, [], none, 0, []⟩⟩
    obtain ⟨F, hF⟩ := Deep.choose_lt each
    refine ⟨F, hl, hm, fun hpos => ?_⟩
    obtain ⟨b, off, spot⟩ := x
    have hc := (hF 0 hpos).1.1
    have hspot : spot = none := by simpa [Addr.add] using World.cell?_spot hc
    subst hspot
    refine ⟨b, off, rfl, fun i hi => ?_⟩
    have := hF i hi
    exact ⟨by simpa [Addr.add_lit, Nat.add_assoc] using this.1.1, by simpa [Addr.add_lit, Nat.add_assoc] using this.1.2.1, by simpa [Addr.add_lit, Nat.add_assoc] using this.1.2.2, this.2.1, this.2.2⟩
def FewPost (w : World) (len : Nat) (F : Nat → Ln) (e : Ending) (w' : World) : Prop := ∃ b, e = .returned (.bool b) ∧ (b = true → len ≤ 61 ∧ ∀ i, i < len → (F i).S.length ≤ 3000 ∧ (F i).C.length ≤ 3000) ∧ Below w.heap.size w w'
set_option maxHeartbeats 1600000 in
theorem lfew_any {w : World} {a : Option Addr} {len cap : Nat} {F : Nat → Ln} (h : LnArg w a len cap F) : Calls Try.prog 11 #[.slice a len cap] w fun e w' => FewPost w len F e w' := by
  have HA : Hid (LnArg w a len cap F) := h
  clear h
  go_enter Try.func11, Try.ntmps11
  go_wp2
  go_loopw [3, 4, 5, 8] (fun s _ _ v wr => ∃ (i : Nat) (n : Nat), i ≤ len ∧ i ≤ 61 ∧ n ≤ 3000 ∧ s = .int .i64 n ∧ v = .int .i64 i ∧ Hid (Below w.heap.size w wr ∧ ∀ j, j < i → (F j).S.length ≤ 3000 ∧ (F j).C.length ≤ 3000)) (fun _ _ _ v _ => len - (intOf v).toNat)
  case atStart => exact ⟨0, 0, Nat.zero_le _, by omega, by omega, rfl, rfl, Below.refl _ _, fun j hj => absurd hj (by omega)⟩
  case round =>
    obtain ⟨i, n, hi, hi2, hn, rfl, rfl, HB⟩ := hrel
    by_cases hlt : i < len
    · obtain ⟨b, off, rfl, hc⟩ := (HA.out.old HB.out.1).2.2 (by omega)
      obtain ⟨c0, c1, c2, -, hb⟩ := hc i hlt
      have hsm := hb.sm
      have hcm := hb.cm
      have HSC : Hid (∀ x y : Nat, (F i).S.length = x → (F i).C.length = y → (F i).S.length ≤ x ∧ (F i).C.length ≤ y) := fun x y h1 h2 => ⟨by omega, by omega⟩
      obtain ⟨sn, hsn⟩ : ∃ sn, (F i).S.length = sn := ⟨_, rfl⟩
      obtain ⟨cn, hcn⟩ : ∃ cn, (F i).C.length = cn := ⟨_, rfl⟩
      have HL : Hid ((F i).S.length = sn ∧ (F i).C.length = cn) := ⟨hsn, hcn⟩
      rw [hsn] at c1 hsm
      rw [hcn] at c2 hcm
      clear hsn hcn hc hb HSC
      generalize (F i).ps = ps at *
      generalize (F i).sa = sa at *
      generalize (F i).sc = sc at *
      generalize (F i).ca = ca at *
      generalize (F i).cc = cc at *
      have HB2 : Hid (Below w.heap.size w (wr.alloc (.cells #[.int .i64 ps, .slice sa sn sc, .slice ca cn cc] 35))) := HB.out.1.trans ((below_new wr _).mono HB.out.1.size)
      by_cases hgt : 3000 < n + (sn + cn)
      · have hg1 : (3000 : Int) < (n : Int) + ((sn : Int) + (cn : Int)) := by omega
        go_wp2
        go_ret
        exact ⟨false, rfl, (fun h => by cases h), HB2.out⟩
      · have hg1 : ¬ (3000 : Int) < (n : Int) + ((sn : Int) + (cn : Int)) := by omega
        by_cases h60 : 60 < i
        · have hg2 : (60 : Int) < (i : Int) := by omega
          go_wp2
          go_ret
          exact ⟨false, rfl, (fun h => by cases h), HB2.out⟩
        · have hg2 : ¬ (60 : Int) < (i : Int) := by omega
          go_wp2
          go_roundw
          case rel =>
            refine ⟨i + 1, n + (sn + cn), by omega, by omega, by omega, by go_num, by go_num, HB2.out, fun j hj => ?_⟩
            by_cases hji : j < i
            · exact HB.out.2 j hji
            · obtain rfl : j = i := by omega
              have := HL.out
              omega
          case measure => simp [intOf]; omega
    · obtain rfl : i = len := by omega
      go_wp2
      go_ret
      exact ⟨true, rfl, fun _ => ⟨hi2, HB.out.2⟩, HB.out.1⟩
end Go.Proofs.Ytjheipfcehddhaa
