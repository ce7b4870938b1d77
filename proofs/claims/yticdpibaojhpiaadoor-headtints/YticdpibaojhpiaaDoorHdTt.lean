/- The law HeadTints, walked. -/
import Derived.Test.YticdpibaojhpiaaDoorHdRt
import Derived.Test.YticdpibaojhpiaaDoorHdRu
import Derived.Deep.Slices
namespace Go.Proofs.YticdpibaojhpiaaDoor
open Go.ChangeShapes Go.WideShapes Go.ChangeAt Go.RowKit
theorem rrtints_yes (W H C D : Int) (L : Bool) (a : Option Addr) (m cap : Nat) (b : List Int) (w : World) (hn : b.length = 3 * m) (hb : Bytes b) (hr : Row w a b) (hm : mayN W H C D) (ho : tnOk C D m) (hms : m ≤ 65536) :
    Calls Tryd.prog 20 #[HdV W H C D L, .slice a (3 * m) cap] w fun e w' => TtPost w m b 0 e w' := by
  by_cases h3 : C = 3
  · exact rrtints_y2 W H C D L a m cap b w hn hb hr hm ho hms h3
  · exact rrtints_y1 W H C D L a m cap b w hn hb hr hm ho hms h3
set_option maxHeartbeats 1600000 in
theorem rrtints_any (W H C D : Int) (L : Bool) (a : Option Addr) (n cap : Nat) (b : List Int) (w : World) (hn : b.length = n) (hnb : n ≤ 140737488351232) (hb : Bytes b) (hr : Row w a b) :
    Calls Tryd.prog 20 #[HdV W H C D L, .slice a n cap] w fun e w' => TtPost w (ttN W H C D b) (ttL W H C D b) (ttE W H C D b) e w' := by
  have HB0 : Hid (Qh w W H C D L _) := Qh.box w W H C D L
  have CM := rmay_any W H C D L (w.alloc (.cells #[.int .i64 W, .int .i64 H, .int .i64 C, .int .i64 D, .bool L] 23))
  by_cases hm : mayN W H C D
  · have hbd := isPr_bd hm.2.2.1
    by_cases ho : ttOk W H C D b
    · rw [ttN, ttL, ttE, if_pos ho, if_pos ho, if_pos hm, if_pos ho]
      obtain ⟨m, hm3⟩ : ∃ m, n = 3 * m := ⟨n / 3, by have := ho.2.1; omega⟩
      have hq : b.length / 3 = m := by omega
      rw [hq]
      subst hm3
      have h3 := ho.2.2
      rw [hq] at h3
      exact rrtints_yes W H C D L a m cap b w hn hb hr hm h3 (by have := tn_le (by omega) h3; omega)
    · rw [ttN, ttL, ttE, if_neg ho, if_neg ho, if_pos hm, if_neg ho]
      rw [decide_eq_true hm] at CM
      obtain ⟨P, hP⟩ : ∃ P : Int, P = 2 ^ D.toNat := ⟨_, rfl⟩
      have hsh : wrap64 (2 ^ D.toNat) = P := by rw [hP]; exact shl_D (by omega)
      have hcs : n % 3 ≠ 0 ∨ n % 3 = 0 ∧ (C = 0 ∨ C = 4 ∨ ((n / 3 : Nat) : Int) < 1 ∨ 256 < ((n / 3 : Nat) : Int) ∨ (C = 3 ∧ P < ((n / 3 : Nat) : Int))) := by
        by_cases h3 : n % 3 = 0
        · refine .inr ⟨h3, ?_⟩
          rw [hP]
          exact Classical.byContradiction fun k => ho ⟨hm, by rw [hn]; exact h3, by rw [hn]; exact (ref_tt hm).2 k⟩
        · exact .inl h3
      have hrem : (n : Int).tmod 3 = ((n % 3 : Nat) : Int) := by rw [Int.tmod_eq_emod_of_nonneg (by omega)]; omega
      have hdiv : (n : Int).tdiv 3 = ((n / 3 : Nat) : Int) := by rw [Int.tdiv_eq_ediv_of_nonneg (by omega)]; omega
      have hdiv2 : (n : Int) / 3 = ((n / 3 : Nat) : Int) := by omega
      have hrem2 : (n : Int) % 3 = ((n % 3 : Nat) : Int) := by omega
      have hR0 : (n % 3 ≠ 0 ∧ ((n % 3 : Nat) : Int) ≠ 0) ∨ ((n % 3 : Nat) : Int) = 0 := by omega
      generalize ((n / 3 : Nat) : Int) = N3 at *
      have hD1 : 1 ≤ D := by omega
      have hD2 : D ≤ 16 := by omega
      clear hn hb hr hm ho hP hbd
      unfold HdV at *
      by_cases k0 : C = 0
      · subst k0
        clear hcs hR0
        go_enter Tryd.func20, Tryd.ntmps20
        go_wp2_with fail
        refine CM.mono ?_
        clear CM
        rintro e w1 ⟨rfl, hb1⟩
        have HQ1 : Hid (Qh w W H 0 D L w1) := HB0.out.old hb1
        obtain ⟨c0, c1, c2, c3, c4⟩ := HQ1.out.five
        clear hb1 HB0
        go_wp2
        go_ret2
        exact ttPost_nil HQ1.out.1
      by_cases k4 : C = 4
      · subst k4
        clear hcs hR0
        go_enter Tryd.func20, Tryd.ntmps20
        go_wp2_with fail
        refine CM.mono ?_
        clear CM
        rintro e w1 ⟨rfl, hb1⟩
        have HQ1 : Hid (Qh w W H 4 D L w1) := HB0.out.old hb1
        obtain ⟨c0, c1, c2, c3, c4⟩ := HQ1.out.five
        clear hb1 HB0
        go_wp2
        go_ret2
        exact ttPost_nil HQ1.out.1
      have e0 : (C == 0) = false := by simpa using k0
      have e4 : (C == 4) = false := by simpa using k4
      rcases hR0 with ⟨hr1, hr2⟩ | hr0
      · have hne : ((((n % 3 : Nat) : Int)) != 0) = true := by simpa using hr2
        have hne2 : ((((n % 3 : Nat) : Int)) == 0) = false := by simpa using hr2
        generalize ((n % 3 : Nat) : Int) = R3 at *
        clear hcs hr1 hr2
        go_enter Tryd.func20, Tryd.ntmps20
        go_wp2_with fail
        refine CM.mono ?_
        clear CM
        rintro e w1 ⟨rfl, hb1⟩
        have HQ1 : Hid (Qh w W H C D L w1) := HB0.out.old hb1
        obtain ⟨c0, c1, c2, c3, c4⟩ := HQ1.out.five
        clear hb1 HB0
        go_wp2
        go_ret2
        exact ttPost_nil HQ1.out.1
      · rw [hr0] at hrem hrem2
        have hcs2 : N3 < 1 ∨ (¬ N3 < 1 ∧ 256 < N3) ∨ (¬ N3 < 1 ∧ ¬ 256 < N3 ∧ C = 3 ∧ P < N3) := by
          rcases hcs with h | ⟨_, h | h | h | h | h⟩
          · exact absurd (by omega : n % 3 = 0) h
          · exact absurd h k0
          · exact absurd h k4
          · exact .inl h
          · by_cases q : N3 < 1
            · exact .inl q
            · exact .inr (.inl ⟨q, h⟩)
          · by_cases q : N3 < 1
            · exact .inl q
            · by_cases q2 : 256 < N3
              · exact .inr (.inl ⟨q, q2⟩)
              · exact .inr (.inr ⟨q, q2, h⟩)
        clear hcs hr0
        rcases hcs2 with h1 | ⟨h1, h2⟩ | ⟨h1, h2, h3, h5⟩
        · go_enter Tryd.func20, Tryd.ntmps20
          go_wp2_with fail
          refine CM.mono ?_
          clear CM
          rintro e w1 ⟨rfl, hb1⟩
          have HQ1 : Hid (Qh w W H C D L w1) := HB0.out.old hb1
          obtain ⟨c0, c1, c2, c3, c4⟩ := HQ1.out.five
          clear hb1 HB0
          go_wp2
          go_ret2
          exact ttPost_nil HQ1.out.1
        · go_enter Tryd.func20, Tryd.ntmps20
          go_wp2_with fail
          refine CM.mono ?_
          clear CM
          rintro e w1 ⟨rfl, hb1⟩
          have HQ1 : Hid (Qh w W H C D L w1) := HB0.out.old hb1
          obtain ⟨c0, c1, c2, c3, c4⟩ := HQ1.out.five
          clear hb1 HB0
          go_wp2
          go_ret2
          exact ttPost_nil HQ1.out.1
        · subst h3
          have d1 : decide (N3 < 1) = false := decide_eq_false h1
          have d2 : decide (256 < N3) = false := decide_eq_false h2
          have d5 : decide (P < N3) = true := decide_eq_true h5
          go_enter Tryd.func20, Tryd.ntmps20
          go_wp2_with fail
          refine CM.mono ?_
          clear CM
          rintro e w1 ⟨rfl, hb1⟩
          have HQ1 : Hid (Qh w W H 3 D L w1) := HB0.out.old hb1
          obtain ⟨c0, c1, c2, c3, c4⟩ := HQ1.out.five
          clear hb1 HB0
          go_wp2
          go_ret2
          exact ttPost_nil HQ1.out.1
  · have ho : ¬ ttOk W H C D b := fun k => hm k.1
    rw [ttN, ttL, ttE, if_neg ho, if_neg ho, if_neg hm]
    rw [decide_eq_false hm] at CM
    clear hn hb hr hm ho
    unfold HdV at *
    go_enter Tryd.func20, Tryd.ntmps20
    go_wp2_with fail
    refine CM.mono ?_
    clear CM
    rintro e w1 ⟨rfl, hb1⟩
    have HQ1 : Hid (Qh w W H C D L w1) := HB0.out.old hb1
    clear hb1 HB0
    go_wp2
    go_ret2
    exact ttPost_nil HQ1.out.1
/-- What is known of colours that came in. -/
def TArg (W : World) (a : Option Addr) (len cap : Nat) : Prop := ∃ zs : List Int, Bytes zs ∧ zs.length = 3 * len ∧ 3 * len ≤ 140737488351232 ∧ len ≤ cap ∧ Row W a zs
theorem Tryd.bytes59 : Tryd.prog.bytesOf 59 = 3 := by kernel_rfl
theorem Tryd.cells59 : Tryd.prog.cellsOf 59 = 3 := by kernel_rfl
theorem flat3 (F : Nat → Int) (n : Nat) : ((List.range (3 * n)).map F).length = 3 * n := by simp
theorem open_tints {H : Type} {enc : TypeId × Value → H} {W : World} {a : Option Addr} {len cap j : Nat} {d : DataW H} {p : List MemPlace} {ts : List TypeId} {ds : List (DataW H)}
    (h0 : DataW.Trod enc Tryd.prog W 0 (fun _ => true) true 35 (.slice a len cap) d p) (hsz : (DataW.weightsEach Tryd.prog ts ds).all (· ≤ reachBytes) = true) (ht : ts[j]? = some 35) (hd : ds[j]? = some d) : TArg W a len cap := by
  obtain ⟨fuel, hf⟩ := h0
  rcases Deep.open_slice Tryd.underlying35 hf with ⟨hcs, _⟩ | ⟨x, l, c, m, n, D, Pl, hcs, _, hl, hm, hmm, hdx, hx⟩
  · simp [Value.cells] at hcs
    obtain ⟨rfl, rfl, rfl⟩ := hcs
    exact ⟨[], Bytes.nil, rfl, by omega, Nat.le_refl _, .inl rfl⟩
  · simp [Value.cells] at hcs
    obtain ⟨rfl, rfl, rfl⟩ := hcs
    have hml : len ≤ m := by rw [hmm]; simp; exact hl
    simp only [Prod.mk.injEq] at hdx
    obtain ⟨hd', _⟩ := hdx
    rw [hd'] at hd
    have hr := sized_slice hsz (j := j) (t := 35) (e := 59) ht hd Tryd.underlying35
    rw [Tryd.bytes59] at hr
    simp only [List.length_map, List.length_range, reachBytes] at hr
    have each : ∀ i, i < len → ∃ q : Int × Int × Int, (W.cell? (x.add (i * 3)) = some (.int .u8 q.1) ∧ W.cell? (x.add (i * 3 + 1)) = some (.int .u8 q.2.1) ∧ W.cell? (x.add (i * 3 + 2)) = some (.int .u8 q.2.2)) ∧ (0 ≤ q.1 ∧ q.1 < 256) ∧ (0 ≤ q.2.1 ∧ q.2.1 < 256) ∧ (0 ≤ q.2.2 ∧ q.2.2 < 256) := by
      intro i hi
      obtain ⟨cs', h1, h2⟩ := hx i (by omega)
      rw [Tryd.cells59] at h1
      obtain ⟨_, hlen, hcell⟩ := World.cells?_some h1
      obtain ⟨xs, k, hk, hxy, _, hxl, hff⟩ := DataW.trod_struct Tryd.underlying59 h2
      match xs, hxl, cs', hlen, hxy with
      | [y0, y1, y2], _, [v0, v1, v2], _, hxy =>
        have g0 := hff 0 _ rfl
        have g1 := hff 1 _ rfl
        have g2 := hff 2 _ rfl
        simp [Tryd.cells5] at g0 g1 g2
        obtain ⟨k0, e0, _, w0⟩ := DataW.trod_int Tryd.underlying5 g0
        obtain ⟨k1, e1, _, w1⟩ := DataW.trod_int Tryd.underlying5 g1
        obtain ⟨k2, e2, _, w2⟩ := DataW.trod_int Tryd.underlying5 g2
        simp at e0 e1 e2
        subst e0 e1 e2
        have c0 := hcell 0 (by omega)
        have c1 := hcell 1 (by omega)
        have c2 := hcell 2 (by omega)
        rw [Deep.add_add] at c0 c1 c2
        have b0 := bounds_u8 w0
        have b1 := bounds_u8 w1
        have b2 := bounds_u8 w2
        exact ⟨(k0, k1, k2), ⟨by simpa using c0, by simpa using c1, by simpa using c2⟩, (by omega : 0 ≤ k0 ∧ k0 < 256), (by omega : 0 ≤ k1 ∧ k1 < 256), (by omega : 0 ≤ k2 ∧ k2 < 256)⟩
    have hne : Inhabited (Int × Int × Int) := ⟨(0, 0, 0)⟩
    obtain ⟨F, hF⟩ := Deep.choose_lt each
    refine ⟨(List.range (3 * len)).map fun i => if i % 3 = 0 then (F (i / 3)).1 else if i % 3 = 1 then (F (i / 3)).2.1 else (F (i / 3)).2.2, ?_, by simp, by omega, hl, ?_⟩
    · intro z hz
      simp only [List.mem_map, List.mem_range] at hz
      obtain ⟨i, hi, rfl⟩ := hz
      have h := (hF (i / 3) (by omega)).2
      split
      · exact h.1
      · split
        · exact h.2.1
        · exact h.2.2
    · by_cases hz : len = 0
      · subst hz; exact .inl rfl
      · obtain ⟨bb, off, spot⟩ := x
        have hc := (hF 0 (by omega)).1.1
        have hspot : spot = none := by simpa [Addr.add] using World.cell?_spot hc
        subst hspot
        refine .inr ⟨bb, off, rfl, fun i hi => ?_⟩
        simp only [List.length_map, List.length_range] at hi
        have h := (hF (i / 3) (by omega)).1
        simp only [Addr.add_lit] at h
        simp only [List.getElem?_map, List.getElem?_range hi, Option.map_some, Option.getD_some]
        rcases (show i % 3 = 0 ∨ i % 3 = 1 ∨ i % 3 = 2 by omega) with e | e | e
        · rw [if_pos e, ← h.1, show i = i / 3 * 3 by omega]; simp
        · rw [if_neg (by omega), if_pos e, ← h.2.1, show off + i = off + (i / 3 * 3 + 1) by omega]
        · rw [if_neg (by omega), if_neg (by omega), ← h.2.2, show off + i = off + (i / 3 * 3 + 2) by omega]
set_option maxHeartbeats 1600000 in
theorem htints_walk (W H C D : Int) (L : Bool) (a : Option Addr) (n cap : Nat) (a' : Option Addr) (n' cap' : Nat) (w : World) (ht : Tab w) (_ : HdW W H C D) (ha : BArg w a n cap) (ha' : TArg w a' n' cap') :
    Calls Tryd.prog 5 #[HdV W H C D L, .slice a n cap, .slice a' n' cap'] w fun e w' => e = .returned (.bool true) ∧ Below w.heap.size w w' := by
  obtain ⟨b, bb, nb, lb, kb, zb, rb⟩ := ha
  obtain ⟨l, bl, nl, hl3, ll, rl⟩ := ha'
  have HT : Hid (Tab w) := ht
  have HC1 : Hid (∀ w1, Below w.heap.size w w1 → Calls Tryd.prog 19 #[HdV W H C D L, .slice a n cap] w1 fun e w' => TtPost w1 (ttN W H C D b) (ttL W H C D b) (ttE W H C D b) e w') := fun w1 h => rtints_any W H C D L a n cap b w1 (HT.out.old h) nb (by omega) bb (rb.old h)
  have HC2 : Hid (∀ w1, Below w.heap.size w w1 → Calls Tryd.prog 20 #[HdV W H C D L, .slice a n cap] w1 fun e w' => TtPost w1 (ttN W H C D b) (ttL W H C D b) (ttE W H C D b) e w') := fun w1 h => rrtints_any W H C D L a n cap b w1 nb (by omega) bb (rb.old h)
  have HC3 : Hid (∀ w1, Below w.heap.size w w1 → Calls Tryd.prog 22 #[.slice a' n' cap'] w1 fun e w' => NewS w1 l e w') := fun w1 h => wtints_any a' n' cap' l w1 nl hl3 bl (rl.old h)
  have HC4 : Hid (∀ w1, Below w.heap.size w w1 → Calls Tryd.prog 23 #[.slice a' n' cap'] w1 fun e w' => NewS w1 l e w') := fun w1 h => rwtints_any a' n' cap' l w1 nl hl3 bl (rl.old h)
  have HLe : Hid ((ttL W H C D b).length = 3 * ttN W H C D b ∧ ttN W H C D b ≤ 65536) := by
    show _ ∧ _
    unfold ttL ttN
    by_cases ho : ttOk W H C D b
    · rw [if_pos ho, if_pos ho]
      have hbd := isPr_bd ho.1.2.2.1
      have h1 := ho.2.1
      have h2 := tn_le (by omega) ho.2.2
      omega
    · rw [if_neg ho, if_neg ho]; exact ⟨rfl, by omega⟩
  clear ht bb nb lb kb zb rb bl nl ll rl
  generalize ttN W H C D b = TN at *
  generalize ttL W H C D b = TL at *
  generalize ttE W H C D b = TE at *
  obtain ⟨w0, hw0⟩ : ∃ w0, w0 = w.alloc (.cells #[.int .i64 W, .int .i64 H, .int .i64 C, .int .i64 D, .bool L] 23) := ⟨_, rfl⟩
  have HB0 : Hid (Qh w W H C D L w0) := by
    show Qh _ _ _ _ _ _ _
    rw [hw0]
    exact Qh.box ..
  have F := fixed_any w0 (HT.out.old HB0.out.1)
  unfold HdV at *
  go_enter Tryd.func5, Tryd.ntmps5
  go_wp2_with fail
  rw [← hw0]
  refine F.mono ?_
  clear F hw0
  rintro e w1 ⟨rfl, hb1⟩
  have HB1 : Hid (Qh w W H C D L w1) := HB0.out.old hb1
  obtain ⟨g0, g1, g2, g3, g4⟩ := HB1.out.five
  clear hb1 HB0
  have CC := HC1.out w1 HB1.out.1
  go_wp2_with fail
  refine CC.mono ?_
  clear CC g0 g1 g2 g3 g4
  rintro e w2 ⟨a1, c1, rfl, r1, b2⟩
  have HB2 : Hid (Qh w W H C D L w2 ∧ Row w2 a1 TL) := ⟨HB1.out.old b2, r1⟩
  obtain ⟨g0, g1, g2, g3, g4⟩ := HB2.out.1.five
  clear r1 b2 HB1
  have CC := HC2.out w2 HB2.out.1.1
  go_wp2_with fail
  refine CC.mono ?_
  clear CC g0 g1 g2 g3 g4
  rintro e w3 ⟨a2, c2, rfl, r2, b3⟩
  have HB3 : Hid (Below w.heap.size w w3 ∧ Row w3 a1 TL ∧ Row w3 a2 TL) := ⟨(HB2.out.1.old b3).1, HB2.out.2.old b3, r2⟩
  clear r2 b3 HB2
  have CC := sameT_any a1 a2 TN c1 c2 TL w3 HLe.out.1 HLe.out.2 HB3.out.2.1 HB3.out.2.2
  go_wp2_with fail
  refine CC.mono ?_
  clear CC
  rintro e w4 ⟨rfl, b4⟩
  have HB4 : Hid (Below w.heap.size w w4) := HB3.out.1.trans (b4.mono HB3.out.1.size)
  clear b4 HB3
  have CC := HC3.out w4 HB4.out
  go_wp2_with fail
  refine CC.mono ?_
  clear CC
  rintro e w5 ⟨a5, c5, g5, rfl, s5, -, b5⟩
  have HB5 : Hid (Below w.heap.size w w5 ∧ Row w5 a5 l) := ⟨HB4.out.trans (b5.mono HB4.out.size), s5.row rfl⟩
  clear s5 b5 HB4
  have CC := HC4.out w5 HB5.out.1
  go_wp2_with fail
  refine CC.mono ?_
  clear CC
  rintro e w6 ⟨a6, c6, g6, rfl, s6, -, b6⟩
  have HB6 : Hid (Below w.heap.size w w6 ∧ Row w6 a5 l ∧ Row w6 a6 l) := ⟨HB5.out.1.trans (b6.mono HB5.out.1.size), HB5.out.2.old b6, s6.row rfl⟩
  clear s6 b6 HB5
  go_wp2_with fail
  refine (same_any a5 a6 l.length c5 c6 l _ rfl HB6.out.2.1 HB6.out.2.2).mono ?_
  rintro e w7 ⟨rfl, rfl⟩
  go_wp2
  go_ret
  exact ⟨rfl, HB6.out.1⟩
end Go.Proofs.YticdpibaojhpiaaDoor
