/- The receiver: release. -/
import Derived.Test.YtmfciheenemapaaRqD
namespace Go.Proofs.Ytmfciheenemapaa
open Go.RowKit
theorem grow_trans {a b c : World} {g : Option Nat} (h : Below a.heap.size a b) (k : b.grownBy c g) : a.grownBy c g :=
  ⟨k.os.trans h.os, k.tape.trans h.tape, k.output.trans h.output, Nat.le_trans h.size k.size, fun j hj hr => (k.block j (Nat.lt_of_lt_of_le hj h.size) hr).trans (h.block j hj)⟩
theorem below_allocR (w : World) (o : Obj) : Below w.heap.size w (w.alloc o) := (Below.refl _ _).alloc (Nat.le_refl _) _
theorem cell_newR (w : World) (v : Value) (t : TypeId) : ∀ j u, [v][j]? = some u → (w.alloc (.cells #[v] t)).cell? ((⟨w.heap.size, 0, none⟩ : Addr).add j) = some u := by
  intro j u hj
  match j, hj with
  | 0, hj => simp at hj; subst hj; rw [Addr.add_lit]; have := heap_alloc_new w (.cells #[v] t); simp only [World.cell?]; rw [this]; rfl
/-- What release leaves. -/
def ReP (w : World) (b m : Nat) (n W : Int) (x : List Pt × Int × List (Int × Pt)) (e : Ending) (w' : World) : Prop :=
  ∃ v g, e = .returned v ∧ Sl w' 32 v g (pvl x.1) ∧ (∀ k, g = some k → w.heap.size ≤ k) ∧ F2 b m w w' ∧ Rc w' b m n W x.2.1 x.2.2
theorem RlI.stop {w w1 : World} {b m : Nat} {n W nx : Int} {H : List (Int × Pt)} {j : Nat} {P : List Pt} {v : Value} {g : Option Nat} {wr : World} (h : RlI w1 b m n W nx H j P v g wr) (hb : Below w.heap.size w w1) (he : relN (nx + j) (H.drop j) = ([], nx + j, H.drop j)) :
    ReP w b m n W (relN nx H) (.returned v) wr := by
  rw [h.eq, he]
  exact ⟨v, g, rfl, by simpa using h.sl, fun k hk => Nat.le_trans hb.size (h.gf k hk), (F2.of_below hb).trans h.fr, h.rc⟩
set_option maxHeartbeats 6400000 in
theorem release_any {w : World} {b m : Nat} {n W nx : Int} {H : List (Int × Pt)} (h : Rc w b m n W nx H) : Calls Try.prog 24 #[.pointer (some ⟨b, 0, none⟩)] w fun e w' => ReP w b m n W (relN nx H) e w' := by
  obtain ⟨i0, hi, hz0, hz1, hz2⟩ := info_parts Try.infoBs
  have HO := rorder_any h
  have HO : Hid _ := HO
  have hbw : b < w.heap.size := lt_of_block h.c
  have hmw : m < w.heap.size := h.m.lt
  have HR : Hid (Rc w b m n W nx H) := h
  clear h
  go_enter Try.func24, Try.ntmps24
  go_wp2
  go_step3
  go_wp2
  go_step3
  go_wp2_with (go_at_call 25; refine Calls.mono HO.out ?_; rintro e w1 ⟨v1, rfl, hrow, hb1⟩; obtain ⟨g1, hsl1, hg1⟩ := Sl.of_owns hrow; obtain ⟨a1, c1, hv1, -⟩ := hsl1.shape; subst hv1; have HB1 : Hid (Below w.heap.size w w1 ∧ ∀ k, g1 = some k → w.heap.size ≤ k) := ⟨hb1, hg1⟩; have HS1 : Hid (Sl w1 3 _ g1 _) := hsl1; clear hrow hsl1 hg1 hb1)
  have HI : Hid (RlI w1 b m n W nx H 0 [] (.slice none 0 0) none w1) :=
    ⟨HR.out.old HB1.out.1, Nat.zero_le _, by simpa using HR.out.old HB1.out.1, rfl, Sl.nil _ _, (fun k hk => by cases hk), F2.refl _ _ _, by simp⟩
  have HN : Hid (((H.map (·.1)).map encZ).length = H.length) := by show _ = _; simp
  rw [HN.out] at HS1
  try rw [HN.out]
  clear HO
  go_loopw [3, 5, 9] (fun v _ t wr => ∃ (j : Nat) (P : List Pt) (g : Option Nat) (v' : Value), t = .int .i64 j ∧ v' = v ∧ Hid (RlI w1 b m n W nx H j P v' g wr)) (fun _ _ t _ => H.length - (intOf t).toNat)
  case atStart => exact ⟨0, [], none, _, rfl, rfl, HI.out⟩
  case round =>
    clear HI
    obtain ⟨j, P, g, v, rfl, rfl, HL⟩ := hrel
    by_cases hlt : j < H.length
    · obtain ⟨⟨kk, q⟩, hd⟩ : ∃ p, H.drop j = p :: H.drop (j + 1) := ⟨_, List.drop_eq_getElem_cons hlt⟩
      have hb1 : b < w1.heap.size := Nat.lt_of_lt_of_le hbw HB1.out.1.size
      have hm1 : m < w1.heap.size := Nat.lt_of_lt_of_le hmw HB1.out.1.size
      have hgj : H[j]? = some (kk, q) := by
        have := congrArg List.head? hd
        rw [List.head?_drop] at this
        exact this
      obtain ⟨ob, off, rfl, hoc⟩ : ∃ ob off, a1 = some ⟨ob, off, none⟩ ∧ wr.cell? ⟨ob, off + j, none⟩ = some (.int .i64 kk) := by
        have hs := HS1.out
        rcases hs with ⟨e, _, _⟩ | ⟨ob, off, cap, cur, e, eg, hh, h2, h3, h4, h5⟩
        · simp only [Value.slice.injEq] at e; omega
        · have e' := e
          simp only [Value.slice.injEq] at e'
          refine ⟨ob, off, e'.1, ?_⟩
          have hge := HB1.out.2 ob eg
          have hk := HL.out.fr.block ob (lt_of_block hh) (by omega) (by omega)
          have h6 := h5 j (by simpa using hlt)
          simp only [World.cell?, hk, hh]
          rw [h6]
          simp [hgj, encZ]
      have hrc := HL.out.rc
      obtain ⟨k0, k1, k2, k3, kf⟩ := rc_cells hrc.c
      have hwf := hrc.wf (kk, q) (by rw [hd]; simp)
      simp only at hwf
      by_cases hk : kk = nx + j
      · subst hk
        have hkw : (Lit.int .i64 (nx + (j : Int))).wf = true := WalkArith.wf_i64 ⟨by omega, by omega⟩
        have hlk := hrc.m.look hkw
        rw [hd] at hlk
        have e2 : hGet ((nx + (j : Int), q) :: H.drop (j + 1)) (nx + j) = q := by show (if nx + (j : Int) = nx + j then _ else _) = _; rw [if_pos rfl]
        rw [e2] at hlk
        have HLK : Hid _ := hlk
        have hsl := HL.out.sl.same (w' := wr.alloc (.cells #[ptV q] 32)) (fun k hk => (below_allocR wr _).block k (HL.out.sl.lt hk))
        have HSL : Hid _ := hsl
        have hplen : (pvl P).length = j := by unfold pvl; rw [List.length_map]; exact HL.out.pl
        have hl64 : j < 64 := by have := HR.out.len; omega
        have hgf := HL.out.gf
        have hfrs := HL.out.fr.size
        have hgf : Hid _ := hgf
        have hno : hHas (H.drop (j + 1)) (nx + (j : Int)) = false := by
          have hup := hrc.up
          rw [hd] at hup
          exact hup.2.no (by simp only; omega)
        have hbr : b < wr.heap.size := Nat.lt_of_lt_of_le hb1 hfrs
        have hmr : m < wr.heap.size := Nat.lt_of_lt_of_le hm1 hfrs
        obtain ⟨n0, n1, n2, n3, n4, n5⟩ := hrc.nb
        clear e2 hlk hsl hrc
        go_upto_region 6 with fail
        have hlk := HLK.out
        obtain ⟨qa, qc, qz⟩ := q
        unfold ptV at hlk HSL
        simp only at hlk
        go_upto_region 7 with (first | (at_builtin; go_must (refine wpList_append_sl rfl _ _ 35 rfl 32 i0 (.slice none 0 0) 24 Try.underlying35 hi hz0 hz1 hz2 rfl _ g (pvl P) rfl HSL.out ⟨wr.heap.size, 0, none⟩ 1 1 [.slice qa qz.length qc] rfl rfl (cell_newR wr _ _) (by intro u hu; simp at hu; subst hu; rfl) (by omega) (by unfold maxLen; omega) ?_); intro v3 w3 g3 hs3 hg3 hgr3))
        have hgr3' := grow_trans (below_allocR wr _) hgr3
        have cb3 : w3.heap[b]? = wr.heap[b]? := hgr3'.block b hbr (fun e => by have := hgf.out b e.symm; omega)
        have cm3 : w3.heap[m]? = wr.heap[m]? := hgr3'.block m hmr (fun e => by have := hgf.out m e.symm; omega)
        obtain ⟨es, cl, hmt⟩ := HL.out.rc.m.tag
        have hbm : b ≠ m := by rintro rfl; have := HL.out.rc.c; rw [this] at hmt; cases hmt
        obtain ⟨q0, q1, q2, q3, qf⟩ := rc_cells (cb3.trans HL.out.rc.c)
        have HM3 : Hid (HM w3 m ((nx + (j : Int), ⟨qa, qc, qz⟩) :: H.drop (j + 1))) := by
          have := HL.out.rc.m.same cm3
          rw [hd] at this
          exact this
        have hg4 : g3 = g ∨ ∃ k, g3 = some k ∧ wr.heap.size ≤ k := by
          rcases hg3 with e | ⟨k, e, hk⟩
          · exact .inl e
          · exact .inr ⟨k, e, Nat.le_trans (below_allocR wr _).size hk⟩
        have HG3 : Hid (Sl w3 32 v3 g3 (pvl P ++ [.slice qa qz.length qc]) ∧ (g3 = g ∨ ∃ k, g3 = some k ∧ wr.heap.size ≤ k) ∧ wr.grownBy w3 g ∧ w3.heap[b]? = wr.heap[b]?) := ⟨hs3, hg4, hgr3', cb3⟩
        have hb3 : b < w3.heap.size := Nat.lt_of_lt_of_le hbr hgr3'.size
        clear hs3 hg3 hgr3 hgr3' hg4 cb3 cm3 hmt k0 k1 k2 k3 kf HSL HLK hlk
        go_upto_region 8 with (first | (at_delete; refine wpList_delete_own _ rfl _ _ 49 3 rfl 32 hkeyed Try.underlying49 hR m _ _ rfl HM3.out _ (.int .i64 (nx + (j : Int))) rfl (Maps.keyOf_int_mk Try.underlying3 hkw) ?_; intro w4 hm4 ht4))
        rw [hD_del hno] at hm4
        have e9 : nx + ((j + 1 : Nat) : Int) = nx + (j : Int) + 1 := by omega
        have HS : Hid (RlI w1 b m n W nx H (j + 1) (P ++ [⟨qa, qc, qz⟩]) v3 g3 (w4.setCell ⟨b, 2, none⟩ (.int .i64 (nx + (j : Int) + 1)))) := by
          have := HL.out.step hlt hd hb1 hm1 HG3.out.1 HG3.out.2.1 HG3.out.2.2.1 (HM.fit hm4) ht4.grown
          rw [e9] at this
          exact this
        obtain ⟨r0, r1, r2, r3, rf⟩ := rc_cells ((ht4.grown.block b hb3 (by simpa using hbm)).trans (HG3.out.2.2.2.trans HL.out.rc.c))
        have rf2 := rf 2
        clear hm4 ht4 HL HG3 HM3 q0 q1 q2 q3 qf rf e9
        go_wp2
        go_roundw
        case rel => exact ⟨j + 1, P ++ [(⟨qa, qc, qz⟩ : Pt)], g3, v3, by go_num, rfl, HS⟩
        case measure => simp [intOf]; omega
      · have HE : Hid (ReP w b m n W (relN nx H) (.returned v) wr) := HL.out.stop HB1.out.1 (by rw [hd]; show (if kk = nx + (j : Int) then _ else _) = _; rw [if_neg hk])
        have hk' : (kk == nx + (j : Int)) = false := by simpa using hk
        clear HL
        go_wp2
        try rw [Exit.noGoto_ret]
        go_ret
        exact HE.out
    · have hn : H.drop j = [] := by rw [List.drop_eq_nil_iff]; omega
      have HE : Hid (ReP w b m n W (relN nx H) (.returned v) wr) := HL.out.stop HB1.out.1 (by rw [hn]; rfl)
      clear HL hn
      go_wp2
      try rw [Exit.noGoto_ret]
      go_ret
      exact HE.out
end Go.Proofs.Ytmfciheenemapaa
