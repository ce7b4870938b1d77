/- Blocks: what bytes tell, by the document. -/
import Derived.Test.YtkfokfjmdkondaaBk10
namespace Go.Proofs.Ytkfokfjmdkondaa
open Go.RowKit
/-- The document's run at block r. -/
def RC (w : World) (r : Nat) (vo vr : Value) (dn : Bool) (seen : Int) : Prop := w.heap[r]? = some (.cells #[vo, vr, .bool dn, .int .i64 seen] 29 (0, 0))
section
variable {w : World} {r : Nat} {vo vr : Value} {dn : Bool} {seen : Int}
theorem RC.cells (h : RC w r vo vr dn seen) : w.cell? ⟨r, 0, none⟩ = some vo ∧ w.cell? ⟨r, 1, none⟩ = some vr ∧ w.cell? ⟨r, 2, none⟩ = some (.bool dn) ∧ w.cell? ⟨r, 3, none⟩ = some (.int .i64 seen) ∧ ∀ j, w.frozen? ⟨r, j, none⟩ = false := by
  unfold RC at h
  refine ⟨?_, ?_, ?_, ?_, fun j => ?_⟩ <;> simp [World.cell?, World.frozen?, h]
theorem RC.set0 (h : RC w r vo vr dn seen) (x : Value) : RC (w.setCell ⟨r, 0, none⟩ x) r x vr dn seen := by
  unfold RC at h ⊢; rw [heap_setCell_same w r 0 _ _ _ h]; rfl
theorem RC.set1 (h : RC w r vo vr dn seen) (x : Value) : RC (w.setCell ⟨r, 1, none⟩ x) r vo x dn seen := by
  unfold RC at h ⊢; rw [heap_setCell_same w r 1 _ _ _ h]; rfl
theorem RC.set2 (h : RC w r vo vr dn seen) (x : Bool) : RC (w.setCell ⟨r, 2, none⟩ (.bool x)) r vo vr x seen := by
  unfold RC at h ⊢; rw [heap_setCell_same w r 2 _ _ _ h]; rfl
theorem RC.set3 (h : RC w r vo vr dn seen) (x : Int) : RC (w.setCell ⟨r, 3, none⟩ (.int .i64 x)) r vo vr dn x := by
  unfold RC at h ⊢; rw [heap_setCell_same w r 3 _ _ _ h]; rfl
theorem RC.same {w' : World} (h : RC w r vo vr dn seen) (hs : w'.heap[r]? = w.heap[r]?) : RC w' r vo vr dn seen := hs.trans h
theorem RC.lt (h : RC w r vo vr dn seen) : r < w.heap.size := lt_of_block h
theorem RC.ne (h : RC w r vo vr dn seen) {e : TypeId} {v' : Value} {g : Option Nat} {xs : List Value} (hs : Sl w e v' g xs) (he : e ≠ 29) : g ≠ some r := by
  intro hk
  obtain ⟨c, e2⟩ := hs.tagB r hk
  unfold RC at h
  rw [h] at e2
  simp only [Option.some.injEq, Obj.cells.injEq] at e2
  exact he e2.2.1.symm
end
theorem results_cell1 {fn : Func} {p : Tmp} {ty : TypeId} (h : fn.results = #[.cell p ty]) (tmps : Array Value) (P : Program) (w : World) :
    (results fn tmps).run P w = ((asAddr (tmps.getD p undef)).run P w).andThen fun a w₁ => (loadVar ty a).run P w₁ := by
  simp only [results, h]
  simp [Sem.run_bind]
def OfP (w : World) (zs : List Int) (e : Ending) (w' : World) : Prop :=
  ∃ vo vr go gr, e = .returned (.agg #[vo, vr, .bool (bgo bs0 zs).2.done, .int .i64 (bgo bs0 zs).2.seen]) ∧ Sl w' 5 vo go (vals (bgo bs0 zs).1) ∧ Sl w' 5 vr gr (vals (bgo bs0 zs).2.rest) ∧ (∀ k, go = some k → w.heap.size ≤ k) ∧ (∀ k, gr = some k → w.heap.size ≤ k) ∧ Below w.heap.size w w'
structure OfRel (w : World) (zs : List Int) (t : Nat) (out : List Int) (seen : Nat) (a' : Option Addr) (c' : Nat) (vo : Value) (go : Option Nat) (wr : World) : Prop where
  tle : t ≤ zs.length
  say : ∃ L, bgo bs0 zs = (out ++ (bgo ⟨L, false, seen, []⟩ (zs.drop t)).1, (bgo ⟨L, false, seen, []⟩ (zs.drop t)).2) ∧ (L = 0 ∨ zs.drop t = [])
  sn : seen ≤ t
  ol : out.length ≤ t
  cle : zs.length - t ≤ c'
  cm : c' ≤ 9223372036854775807
  c0 : a' = none → c' = 0
  row : Row w a' (zs.drop t)
  rc : RC wr (w.heap.size + 1) vo (.slice none 0 0) false seen
  r0 : RC wr w.heap.size (.slice none 0 0) (.slice none 0 0) false 0
  sl : Sl wr 5 vo go (vals out)
  new : ∀ k, go = some k → w.heap.size + 2 ≤ k
  be : Below w.heap.size w wr
theorem bgo_end (k : Nat) (r xs : List Int) : bgo ⟨0, false, k, r⟩ (0 :: xs) = ([], ⟨0, true, k + 1, r ++ xs⟩) := by
  rw [bgo_zero rfl rfl]
  exact bgo_done rfl xs
section
variable {w : World} {zs : List Int} {t : Nat} {out : List Int} {seen : Nat} {a' : Option Addr} {c' : Nat} {vo : Value} {go : Option Nat} {wr : World}
theorem below_set4 {B : Nat} {w wr : World} (h : Below B w wr) (r : Nat) (hr : B ≤ r) (v0 v1 v2 v3 : Value) : Below B w ((((wr.setCell ⟨r, 0, none⟩ v0).setCell ⟨r, 1, none⟩ v1).setCell ⟨r, 2, none⟩ v2).setCell ⟨r, 3, none⟩ v3) :=
  (((h.setCell (p := ⟨r, 0, none⟩) hr _).setCell (p := ⟨r, 1, none⟩) hr _).setCell (p := ⟨r, 2, none⟩) hr _).setCell (p := ⟨r, 3, none⟩) hr _
theorem Sl.set4 {e : TypeId} {v : Value} {g : Option Nat} {xs : List Value} (h : Sl wr e v g xs) (r : Nat) (hr : g ≠ some r) (v0 v1 v2 v3 : Value) : Sl ((((wr.setCell ⟨r, 0, none⟩ v0).setCell ⟨r, 1, none⟩ v1).setCell ⟨r, 2, none⟩ v2).setCell ⟨r, 3, none⟩ v3) e v g xs :=
  h.same fun k hk => by
    have hkr : k ≠ r := fun e => hr (by rw [hk, e])
    rw [Below.heap_setCell _ _ _ _ hkr, Below.heap_setCell _ _ _ _ hkr, Below.heap_setCell _ _ _ _ hkr, Below.heap_setCell _ _ _ _ hkr]
/-- The bytes end within a block, or behind one. -/
theorem OfRel.fin (h : OfRel w zs t out seen a' c' vo go wr) (hend : zs.drop t = []) : OfP w zs (.returned (.agg #[vo, .slice none 0 0, .bool false, .int .i64 seen])) ((((wr.setCell ⟨w.heap.size, 0, none⟩ vo).setCell ⟨w.heap.size, 1, none⟩ (.slice none 0 0)).setCell ⟨w.heap.size, 2, none⟩ (.bool false)).setCell ⟨w.heap.size, 3, none⟩ (.int .i64 seen)) := by
  obtain ⟨L, hg, _⟩ := h.say
  rw [hend] at hg
  simp only [bgo, List.append_nil] at hg
  refine ⟨vo, .slice none 0 0, go, none, by rw [hg], ?_, by rw [hg]; exact Sl.nil _ _, fun k hk => by have := h.new k hk; omega, (by intro k hk; cases hk), below_set4 h.be _ (Nat.le_refl _) _ _ _ _⟩
  rw [hg]
  exact h.sl.set4 _ (fun e => by have := h.new _ e; omega) _ _ _ _
end
set_option maxHeartbeats 1600000 in
set_option maxRecDepth 100000 in
theorem rof10_any (zs : List Int) (av : Option Addr) (m c : Nat) (w : World) (hm : zs.length = m) (hmc : m ≤ c) (hcm : c ≤ 9223372036854775807) (hc0 : av = none → c = 0) (hby : Bytes zs) (hrow : Row w av zs) (hsum : zs.length ≤ 140737488351232) :
    Calls Try.prog 10 #[.slice av m c] w fun e w' => OfP w zs e w' := by
  have HS : Hid (∀ wr, RC wr (w.heap.size + 1) (.slice none 0 0) (.slice none 0 0) false (0 : Nat) → RC wr w.heap.size (.slice none 0 0) (.slice none 0 0) false 0 → Below w.heap.size w wr → OfRel w zs 0 [] 0 av c (.slice none 0 0) none wr) := fun wr h1 h2 h3 =>
    ⟨Nat.zero_le _, ⟨0, by simp [bs0], .inl rfl⟩, Nat.le_refl _, Nat.le_refl _, by omega, hcm, hc0, by simpa using hrow, h1, h2, Sl.nil _ _, (by intro k hk; cases hk), h3⟩
  have HL : Hid (zs.length ≤ 140737488351232 ∧ zs.length = m ∧ Bytes zs) := ⟨hsum, hm, hby⟩
  have HV : Hid (Value.slice av m c = .slice av (zs.length - 0) c) := by rw [hm]; rfl
  clear hm hmc hcm hc0 hrow hsum hby
  go_enter Try.func10, Try.ntmps10
  go_wp2
  go_loopg [0, 4] zs.length (fun fu v0 _ wr => ∃ (t : Nat) (out : List Int) (seen : Nat) (a' : Option Addr) (c' : Nat) (vo : Value) (go : Option Nat), fu + t = zs.length ∧ Hid (v0 = .slice a' (zs.length - t) c') ∧ Hid (OfRel w zs t out seen a' c' vo go wr))
  case atStart =>
    refine ⟨0, [], 0, av, c, .slice none 0 0, none, by omega, HV.out, HS.out _ ?_ ?_ (((Below.refl _ w).alloc (Nat.le_refl _) _).alloc (by simp) _)⟩
    · have := World.alloc_heap_new (w.alloc (.cells #[.slice none 0 0, .slice none 0 0, .bool false, .int .i64 0] 29)) (.cells #[.slice none 0 0, .slice none 0 0, .bool false, .int .i64 0] 29)
      rw [World.size_alloc] at this
      exact this
    · unfold RC
      rw [Below.heap_alloc _ _ _ (by simp)]; exact World.alloc_heap_new w _
  case round =>
    clear HS HV
    obtain ⟨t, out, seen, a', c', vo, go, hfu, H0, HR⟩ := hrel
    obtain ⟨M, hM⟩ : ∃ M, zs.length - t = M := ⟨_, rfl⟩
    rw [H0.out, hM]
    have HM : Hid (zs.length - t = M ∧ gk + t = zs.length ∧ t ≤ zs.length) := ⟨hM, hfu, HR.out.tle⟩
    have hMc : M ≤ c' := by have := HR.out.cle; omega
    have hc2 := HR.out.cm
    obtain ⟨q0, q1, q2, q3, qf⟩ := HR.out.rc.cells
    obtain ⟨p0, p1, p2, p3, pf⟩ := HR.out.r0.cells
    obtain ⟨at', ct, hv, hl1, hl2, hl3⟩ := HR.out.sl.shape
    rw [vals_len] at hv hl1
    have HSl : Hid (Sl wr 5 (.slice at' out.length ct) go (vals out)) := by have := HR.out.sl; rw [hv] at this; exact this
    rw [hv] at q0
    have hsn : seen ≤ 140737488351232 := by have := HR.out.sn; have := HR.out.tle; have := HL.out; omega
    clear hM hfu H0 hl2 hl3
    by_cases hM0 : M = 0
    · have hend : zs.drop t = [] := by rw [List.drop_eq_nil_iff]; have := HM.out; omega
      have HP : Hid (RC ((((wr.setCell ⟨w.heap.size, 0, none⟩ (.slice at' out.length ct)).setCell ⟨w.heap.size, 1, none⟩ (.slice none 0 0)).setCell ⟨w.heap.size, 2, none⟩ (.bool false)).setCell ⟨w.heap.size, 3, none⟩ (.int .i64 seen)) w.heap.size (.slice at' out.length ct) (.slice none 0 0) false seen ∧ OfP w zs (.returned (.agg #[.slice at' out.length ct, .slice none 0 0, .bool false, .int .i64 seen])) ((((wr.setCell ⟨w.heap.size, 0, none⟩ (.slice at' out.length ct)).setCell ⟨w.heap.size, 1, none⟩ (.slice none 0 0)).setCell ⟨w.heap.size, 2, none⟩ (.bool false)).setCell ⟨w.heap.size, 3, none⟩ (.int .i64 seen))) := by
        have := HR.out.fin hend
        rw [hv] at this
        exact ⟨(((HR.out.r0.set0 _).set1 _).set2 _).set3 _, this⟩
      clear hend hv
      subst hM0
      go_wp2
      obtain ⟨z0, z1, z2, z3, zf⟩ := HP.out.1.cells
      have HPF := HP.out.2
      clear HP
      generalize (((wr.setCell ⟨w.heap.size, 0, none⟩ (.slice at' out.length ct)).setCell ⟨w.heap.size, 1, none⟩ (.slice none 0 0)).setCell ⟨w.heap.size, 2, none⟩ (.bool false)).setCell ⟨w.heap.size, 3, none⟩ (.int .i64 seen) = wf at *
      refine bodyPost_ret (v := .agg #[.slice at' out.length ct, .slice none 0 0, .bool false, .int .i64 seen]) ?_ rfl HPF
      rw [results_cell1 rfl]
      clear HPF
      go_simp
    · have hM1 : 0 < M := by omega
      have hne : zs.drop t ≠ [] := by intro e; rw [List.drop_eq_nil_iff] at e; have := HM.out; omega
      have hrw : Row wr a' (zs.drop t) := HR.out.row.old HR.out.be
      obtain ⟨b, off, rfl⟩ : ∃ b off, a' = some ⟨b, off, none⟩ := by
        rcases hrw with h | ⟨b, off, h, _⟩
        · exact absurd h hne
        · exact ⟨b, off, h⟩
      have hck : wr.cell? ⟨b, off, none⟩ = some (.int .u8 ((zs.drop t)[0]?.getD 0)) := by
        rcases hrw with h | ⟨b', off', h, hcc⟩
        · exact absurd h hne
        · simp at h
          obtain ⟨rfl, rfl⟩ := h
          have := hcc 0 (List.length_pos_iff.2 hne)
          simpa using this
      obtain ⟨x, hx⟩ : ∃ x : Nat, (zs.drop t)[0]?.getD 0 = (x : Int) := ⟨((zs.drop t)[0]?.getD 0).toNat, by have := (HL.out.2.2.drop t).at 0; omega⟩
      have hxb : x ≤ 255 := by have := (HL.out.2.2.drop t).at 0; omega
      have hxs : zs.drop t = (x : Int) :: zs.drop (t + 1) := by
        have hi : t < zs.length := by have := HM.out; omega
        have e := List.drop_eq_getElem_cons hi
        have e0 : (zs.drop t)[0]?.getD 0 = zs[t] := by simp [hi]
        rw [← hx, e0]; exact e
      have HXS : Hid (zs.drop t = (x : Int) :: zs.drop (t + 1)) := hxs
      have HRo : Hid (Row w (if c' = 1 then (some ⟨b, off, none⟩) else Option.map (fun x : Addr => x.add 1) (some ⟨b, off, none⟩)) (zs.drop (t + 1))) := by
        have := HR.out.row.cut 1 c' (by rw [List.length_drop]; have := HM.out; omega) (by rw [List.length_drop]; have := HM.out; omega)
        rwa [List.drop_drop] at this
      rw [hx] at hck
      clear hx hxs hne hrw hM0
      go_upto_region 4 with fail
      go_cut [0] (fun v wx => wx = wr ∧ ∃ a1 c1, v = .slice a1 (M - 1) c1 ∧ Hid (M - 1 ≤ c1 ∧ c1 ≤ 9223372036854775807 ∧ (a1 = none → c1 = 0) ∧ Row w a1 (zs.drop (t + 1))))
      case first =>
        have h1i : (1 : Int) ≤ (M : Int) := by omega
        have h1c : (1 : Int) ≤ (c' : Int) := by omega
        by_cases hc1 : c' = 1
        · have HRo1 := HRo.out
          rw [if_pos hc1] at HRo1
          have HE : Hid (Row w (some ⟨b, off, none⟩) (zs.drop (t + 1))) := HRo1
          obtain rfl : M = 1 := by omega
          clear HRo1 HRo
          subst hc1
          go_wp2
          go_meet
          exact ⟨rfl, some ⟨b, off, none⟩, 0, rfl, ⟨by omega, by omega, fun _ => rfl, HE.out⟩⟩
        · have HRo1 := HRo.out
          rw [if_neg hc1, Option.map_some, Addr.add_lit] at HRo1
          have HE : Hid (M - 1 ≤ c' - 1 ∧ c' - 1 ≤ 9223372036854775807 ∧ ((some ⟨b, off + 1, none⟩ : Option Addr) = none → c' - 1 = 0) ∧ Row w (some ⟨b, off + 1, none⟩) (zs.drop (t + 1))) := ⟨by omega, by omega, (by intro h; cases h), HRo1⟩
          have hc1i : ¬ (c' : Int) = 1 := by omega
          clear HRo1 HRo
          go_wp2
          go_meet
          exact ⟨rfl, some ⟨b, off + 1, none⟩, c' - 1, rfl, HE.out⟩
      case rest =>
        obtain ⟨hwc, a1, c1, rfl, HC1⟩ := hcut
        rw [hwc]
        clear hwc wc
        clear HRo hck
        obtain ⟨K, hK⟩ : ∃ K, M - 1 = K := ⟨_, rfl⟩
        have HK : Hid (M - 1 = K ∧ 0 < M) := ⟨hK, hM1⟩
        rw [hK] at HC1 ⊢
        have hKc : K ≤ c1 := HC1.out.1
        have hc1m : c1 ≤ 9223372036854775807 := HC1.out.2.1
        clear hK hMc hc2 hM1
        by_cases hx0 : x = 0
        · subst hx0
          obtain ⟨W1, hW1⟩ : ∃ W1, (wr.setCell ⟨w.heap.size + 1, 3, none⟩ (.int .i64 ((seen : Int) + 1))).setCell ⟨w.heap.size + 1, 2, none⟩ (.bool true) = W1 := ⟨_, rfl⟩
          have hb1 : Below w.heap.size w W1 := by rw [← hW1]; exact (HR.out.be.setCell (p := ⟨w.heap.size + 1, 3, none⟩) (by simp) _).setCell (p := ⟨w.heap.size + 1, 2, none⟩) (by simp) _
          have hrc1 : RC W1 (w.heap.size + 1) (.slice at' out.length ct) (.slice none 0 0) true ((seen : Int) + 1) := by
            have := HR.out.rc
            rw [hv] at this
            rw [← hW1]; exact (this.set3 _).set2 _
          have hr01 : RC W1 w.heap.size (.slice none 0 0) (.slice none 0 0) false 0 := by
            rw [← hW1]; exact HR.out.r0.same (by rw [Below.heap_setCell _ _ _ _ (by show w.heap.size ≠ w.heap.size + 1; omega), Below.heap_setCell _ _ _ _ (by show w.heap.size ≠ w.heap.size + 1; omega)])
          have hsl1 : Sl W1 5 (.slice at' out.length ct) go (vals out) := by
            rw [← hW1]
            refine HSl.out.same fun k hk => ?_
            have hkn := HR.out.new k hk
            rw [Below.heap_setCell _ _ _ _ (by show k ≠ w.heap.size + 1; omega), Below.heap_setCell _ _ _ _ (by show k ≠ w.heap.size + 1; omega)]
          have hW1s : W1.heap.size = wr.heap.size := by rw [← hW1]; simp [World.setCell]
          have HRW : Hid (Row W1 a1 (zs.drop (t + 1)) ∧ (zs.drop (t + 1)).length = K ∧ (a1 = none → c1 = 0)) := ⟨HC1.out.2.2.2.old hb1, by rw [List.length_drop]; have := HM.out; have := HK.out; omega, HC1.out.2.2.1⟩
          have HE : Hid (∀ v7 g7 w7, Sl w7 5 v7 g7 (vals (zs.drop (t + 1))) → (∀ k, g7 = some k → W1.heap.size ≤ k) → Below W1.heap.size W1 w7 → RC w7 (w.heap.size + 1) (.slice at' out.length ct) (.slice none 0 0) true ((seen : Int) + 1) ∧ RC (w7.setCell ⟨w.heap.size + 1, 1, none⟩ v7) (w.heap.size + 1) (.slice at' out.length ct) v7 true ((seen : Int) + 1) ∧ RC (w7.setCell ⟨w.heap.size + 1, 1, none⟩ v7) w.heap.size (.slice none 0 0) (.slice none 0 0) false 0 ∧
              OfP w zs (.returned (.agg #[.slice at' out.length ct, v7, .bool true, .int .i64 ((seen : Int) + 1)])) (((((w7.setCell ⟨w.heap.size + 1, 1, none⟩ v7).setCell ⟨w.heap.size, 0, none⟩ (.slice at' out.length ct)).setCell ⟨w.heap.size, 1, none⟩ v7).setCell ⟨w.heap.size, 2, none⟩ (.bool true)).setCell ⟨w.heap.size, 3, none⟩ (.int .i64 ((seen : Int) + 1)))) := by
            intro v7 g7 w7 h1 h2 h3
            have hrc7 := hrc1.same (h3.block _ hrc1.lt)
            have hr07 := hr01.same (h3.block _ hr01.lt)
            have hg7 : ∀ k, g7 = some k → w.heap.size + 2 ≤ k := fun k hk => by have := h2 k hk; have := hrc1.lt; omega
            refine ⟨hrc7, hrc7.set1 v7, hr07.same (Below.heap_setCell _ _ _ _ (by show w.heap.size ≠ w.heap.size + 1; omega)), ?_⟩
            obtain ⟨L, hg, hL⟩ := HR.out.say
            have hL0 : L = 0 := by
              rcases hL with h | h
              · exact h
              · rw [HXS.out] at h; cases h
            subst hL0
            rw [HXS.out, show (((0 : Nat)) : Int) = 0 from rfl, bgo_end] at hg
            simp only [List.append_nil, List.nil_append] at hg
            refine ⟨.slice at' out.length ct, v7, go, g7, by rw [hg]; simp, ?_, ?_, fun k hk => by have := HR.out.new k hk; omega, fun k hk => by have := hg7 k hk; omega, below_set4 ((hb1.trans (h3.mono hb1.size)).setCell (p := ⟨w.heap.size + 1, 1, none⟩) (by simp) _) _ (Nat.le_refl _) _ _ _ _⟩
            · rw [hg]
              refine Sl.set4 (hsl1.same fun k hk => ?_) _ (fun e => by have := HR.out.new _ e; omega) _ _ _ _
              have hkn := HR.out.new k hk
              rw [Below.heap_setCell _ _ _ _ (by show k ≠ w.heap.size + 1; omega)]
              exact h3.block k (hsl1.lt hk)
            · rw [hg]
              refine Sl.set4 (h1.same fun k hk => ?_) _ (fun e => by have := hg7 _ e; omega) _ _ _ _
              exact Below.heap_setCell _ _ _ _ (by show k ≠ w.heap.size + 1; have := hg7 k hk; omega)
          have hlK : K ≤ 140737488351232 := by have := HK.out; have := HM.out; have := HL.out; omega
          clear hb1 hrc1 hr01 hsl1 HR HSl hv hW1s p0 p1 p2 p3
          obtain ⟨OL, hOL⟩ : ∃ OL, out.length = OL := ⟨_, rfl⟩
          rw [hOL] at q0 HE hl1
          clear hOL
          go_wp2_with (at_builtin; refine wpList_copy rfl _ _ rfl a1 K c1 (zs.drop (t + 1)) rfl rfl HRW.out.2.2 HRW.out.2.1 HRW.out.1 hlK ?_; intro a7 c7 w7 g7 hs7 hg7 hb7; obtain ⟨y1, y2, y3, y4⟩ := HE.out _ g7 w7 hs7 hg7 hb7; clear hs7 hg7 hb7; obtain ⟨d0, d1, d2, d3, df⟩ := y1.cells; obtain ⟨e0, e1, e2, e3, ef⟩ := y2.cells; obtain ⟨f0, f1, f2, f3, ff⟩ := y3.cells)
          obtain ⟨z0, z1, z2, z3, zf⟩ := ((((y3.set0 (.slice at' OL ct)).set1 (.slice a7 K c7)).set2 true).set3 ((seen : Int) + 1)).cells
          clear y1 y2 y3
          generalize ((((w7.setCell ⟨w.heap.size + 1, 1, none⟩ (.slice a7 K c7)).setCell ⟨w.heap.size, 0, none⟩ (.slice at' OL ct)).setCell ⟨w.heap.size, 1, none⟩ (.slice a7 K c7)).setCell ⟨w.heap.size, 2, none⟩ (.bool true)).setCell ⟨w.heap.size, 3, none⟩ (.int .i64 ((seen : Int) + 1)) = wf at *
          refine bodyPost_ret (v := .agg #[.slice at' OL ct, .slice a7 K c7, .bool true, .int .i64 ((seen : Int) + 1)]) ?_ rfl y4
          rw [results_cell1 rfl]
          clear y4
          go_simp
        · have hx0i : ¬ (x : Int) = 0 := by omega
          have hl3 : 0 ≤ (x : Int) := by omega
          go_upto_region 10 with fail
          go_cut [4] (fun v wx => wx = wr.setCell ⟨w.heap.size + 1, 3, none⟩ (.int .i64 ((seen : Int) + 1)) ∧ ∃ N : Nat, v = .int .i64 N ∧ N ≤ x ∧ N ≤ K ∧ (N = x ∨ N = K))
          case first =>
            rcases (show (x : Int) < (K : Int) ∨ K < x ∨ x = K by omega) with hlt | hlt | hlt
            · go_wp2
              go_meet
              exact ⟨rfl, x, rfl, by omega, by omega, .inl rfl⟩
            · have hlt2 : (K : Int) < (x : Int) := by omega
              go_wp2
              go_meet
              exact ⟨rfl, K, rfl, by omega, by omega, .inr rfl⟩
            · subst hlt
              go_wp2
              go_meet
              exact ⟨rfl, x, rfl, by omega, by omega, .inl rfl⟩
          case rest =>
            obtain ⟨hwc, N, rfl, hNx, hNK, hNo⟩ := hcut
            rw [hwc]
            clear hwc wc
            obtain ⟨W1, hW1⟩ : ∃ W1, wr.setCell ⟨w.heap.size + 1, 3, none⟩ (.int .i64 ((seen : Int) + 1)) = W1 := ⟨_, rfl⟩
            have hb1 : Below w.heap.size w W1 := by rw [← hW1]; exact HR.out.be.setCell (p := ⟨w.heap.size + 1, 3, none⟩) (by simp) _
            have hrc1 : RC W1 (w.heap.size + 1) (.slice at' out.length ct) (.slice none 0 0) false ((seen : Int) + 1) := by
              have := HR.out.rc
              rw [hv] at this
              rw [← hW1]; exact this.set3 _
            have hr01 : RC W1 w.heap.size (.slice none 0 0) (.slice none 0 0) false 0 := by
              rw [← hW1]; exact HR.out.r0.same (Below.heap_setCell _ _ _ _ (by show w.heap.size ≠ w.heap.size + 1; omega))
            have hsl1 : Sl W1 5 (.slice at' out.length ct) go (vals out) := by
              rw [← hW1]
              refine HSl.out.same fun k hk => ?_
              have hkn := HR.out.new k hk
              rw [Below.heap_setCell _ _ _ _ (by show k ≠ w.heap.size + 1; omega)]
            have HS1 : Hid (Sl W1 5 (.slice at' out.length ct) go (vals out)) := hsl1
            have hrT : Row W1 a1 ((zs.drop (t + 1)).take N) := (HC1.out.2.2.2.take N).old hb1
            have HRT : Hid (Row W1 a1 ((zs.drop (t + 1)).take N) ∧ ((zs.drop (t + 1)).take N).length = N ∧ (a1 = none → c1 = 0)) := ⟨hrT, by rw [List.length_take, List.length_drop]; have := HM.out; have := HK.out; omega, HC1.out.2.2.1⟩
            have HE : Hid (∀ v7 g7 w7, Sl w7 5 v7 g7 (vals (out ++ (zs.drop (t + 1)).take N)) → (g7 = go ∨ ∃ k, g7 = some k ∧ W1.heap.size ≤ k) → W1.grownBy w7 go → RC w7 (w.heap.size + 1) (.slice at' out.length ct) (.slice none 0 0) false ((seen : Int) + 1) ∧ RC (w7.setCell ⟨w.heap.size + 1, 0, none⟩ v7) (w.heap.size + 1) v7 (.slice none 0 0) false ((seen : Int) + 1) ∧
                OfRel w zs (t + 1 + N) (out ++ (zs.drop (t + 1)).take N) (seen + 1 + N) (if c1 = N then a1 else Option.map (fun x => x.add N) a1) (c1 - N) v7 g7 ((w7.setCell ⟨w.heap.size + 1, 0, none⟩ v7).setCell ⟨w.heap.size + 1, 3, none⟩ (.int .i64 ((seen : Int) + 1 + N)))) := by
              intro v7 g7 w7 h1 h2 h3
              have hng : ∀ r, r < w.heap.size + 2 → some r ≠ go := fun r hr e => by have := HR.out.new r e.symm; omega
              have hrc7 := hrc1.same (h3.block _ hrc1.lt (hng _ (by omega)))
              have hr07 := hr01.same (h3.block _ hr01.lt (hng _ (by omega)))
              have hb7 : Below w.heap.size w w7 := hb1.grown h3 hb1.size (fun k e => by have := HR.out.new k e; omega)
              have hg7 : ∀ k, g7 = some k → w.heap.size + 2 ≤ k := by
                intro k hk
                rcases h2 with e | ⟨j, e, hj⟩
                · exact HR.out.new k (by rw [← e, hk])
                · rw [e] at hk; cases hk; have := hrc1.lt; omega
              have hN1 : ((zs.drop (t + 1)).take N).length = N := HRT.out.2.1
              refine ⟨hrc7, hrc7.set0 v7, ?_⟩
              refine ⟨by have := HM.out; have := HK.out; omega, ?_, by have := HR.out.sn; omega, by rw [List.length_append, hN1]; have := HR.out.ol; omega, by have := HM.out; have := HK.out; omega, by omega, ?_, ?_, ?_, ?_, ?_, hg7, ?_⟩
              · obtain ⟨L, hg, hL⟩ := HR.out.say
                have hL0 : L = 0 := by
                  rcases hL with h | h
                  · exact h
                  · rw [HXS.out] at h; cases h
                subst hL0
                have hd : decide ((x : Int) = 0) = false := by simp; exact hx0
                rw [HXS.out, bgo_zero rfl rfl] at hg
                simp only [hd, Int.toNat_natCast] at hg
                rw [bgo_chunk ⟨x, false, seen + 1, []⟩ N (zs.drop (t + 1)) rfl hNx (by rw [List.length_drop]; have := HM.out; have := HK.out; omega)] at hg
                simp only [List.drop_drop] at hg
                refine ⟨x - N, ?_, ?_⟩
                · rw [hg, List.append_assoc]
                · rcases hNo with h | h
                  · exact .inl (by omega)
                  · exact .inr (by rw [List.drop_eq_nil_iff]; have := HM.out; have := HK.out; omega)
              · intro hnone
                by_cases hc : c1 = N
                · omega
                · rw [if_neg hc] at hnone
                  cases a1 with
                  | none => have := HC1.out.2.2.1 rfl; omega
                  | some y => cases hnone
              · have := HC1.out.2.2.2.cut N c1 (by rw [List.length_drop]; have := HM.out; have := HK.out; omega) (by rw [List.length_drop]; have := HM.out; have := HK.out; omega)
                rwa [List.drop_drop] at this
              · have := (hrc7.set0 v7).set3 ((seen : Int) + 1 + N)
                rw [show (((seen + 1 + N : Nat)) : Int) = (seen : Int) + 1 + N by omega]
                exact this
              · exact hr07.same (by rw [Below.heap_setCell _ _ _ _ (by show w.heap.size ≠ w.heap.size + 1; omega), Below.heap_setCell _ _ _ _ (by show w.heap.size ≠ w.heap.size + 1; omega)])
              · refine h1.same fun k hk => ?_
                have hkn := hg7 k hk
                rw [Below.heap_setCell _ _ _ _ (by show k ≠ w.heap.size + 1; omega), Below.heap_setCell _ _ _ _ (by show k ≠ w.heap.size + 1; omega)]
              · exact (hb7.setCell (p := ⟨w.heap.size + 1, 0, none⟩) (by simp) _).setCell (p := ⟨w.heap.size + 1, 3, none⟩) (by simp) _
            have HOl : Hid (out.length + N ≤ 140737488351232) := by show _ ≤ _; have := HR.out.ol; have := HM.out; have := HK.out; have := HL.out; omega
            obtain ⟨i0, i1, i2, i3, if0⟩ := hrc1.cells
            rw [hW1]
            have hse2 : seen + N ≤ 281474976710656 := by omega
            clear hb1 hrc1 hr01 hsl1 hrT HR HSl hv hW1 p0 p1 p2 p3 q0 q1 q2 q3
            obtain ⟨OL, hOL⟩ : ∃ OL, out.length = OL := ⟨_, rfl⟩
            have HOE : Hid (out.length = OL) := hOL
            rw [hOL] at i0 HE HS1 hl1
            clear hOL
            have hNKi : (N : Int) ≤ (K : Int) := by omega
            have hNci : (N : Int) ≤ (c1 : Int) := by omega
            have hNc : N ≤ c1 := by omega
            go_wp2
            go_region_law (first
              | (refine step_more rfl _ _ rfl (.slice at' OL ct) go out rfl (HS1.out.same fun _ _ => rfl) a1 N c1 ((zs.drop (t + 1)).take N) rfl HRT.out.2.2 HRT.out.2.1 (HRT.out.1.same fun _ _ _ => rfl) (by have := HOl.out; omega) ?_; intro v7 w7 g7 hs7 hg7 hgr7; obtain ⟨a7, c7, hv7, -⟩ := hs7.shape; generalize (vals (out ++ (zs.drop (t + 1)).take N)).length = z7 at hv7; subst hv7; obtain ⟨y1, y2, y3⟩ := HE.out _ g7 w7 hs7 hg7 ⟨hgr7.os, hgr7.tape, hgr7.output, hgr7.size, hgr7.block⟩; obtain ⟨d0, d1, d2, d3, df⟩ := y1.cells; obtain ⟨e0, e1, e2, e3, ef⟩ := y2.cells)
              | fail)
            all_goals
              have HF : Hid (_) := y3
              clear hs7 hg7 hgr7 y1 y2 y3 HE HS1 HRT
              by_cases hcN : c1 = N
              · have hF := HF.out
                rw [if_pos hcN] at hF
                have HF2 : Hid (_) := hF
                obtain rfl : K = c1 := by omega
                clear hF HF
                subst hcN
                go_wp2
                go_roundg (zs.length - (t + 1 + K))
                case rel => exact ⟨t + 1 + K, _, _, a1, K - K, _, g7, by have := HM.out; have := HK.out; omega, (by rw [show zs.length - (t + 1 + K) = 0 by have := HM.out; have := HK.out; omega, Nat.sub_self] : Value.slice a1 0 0 = .slice a1 (zs.length - (t + 1 + K)) (K - K)), HF2.out⟩
                case measure => have := HM.out; have := HK.out; omega
              · have hF := HF.out
                rw [if_neg hcN] at hF
                have HF2 : Hid (_) := hF
                have hcNi : ¬ (c1 : Int) = N := by omega
                clear hF HF
                go_wp2
                go_roundg (zs.length - (t + 1 + N))
                case rel => exact ⟨t + 1 + N, _, _, _, c1 - N, _, g7, by have := HM.out; have := HK.out; omega, (by rw [show zs.length - (t + 1 + N) = K - N by have := HM.out; have := HK.out; omega] : Value.slice (Option.map (fun x => x.add N) a1) (K - N) (c1 - N) = .slice (Option.map (fun x => x.add N) a1) (zs.length - (t + 1 + N)) (c1 - N)), HF2.out⟩
                case measure => have := HM.out; have := HK.out; omega
end Go.Proofs.Ytkfokfjmdkondaa
