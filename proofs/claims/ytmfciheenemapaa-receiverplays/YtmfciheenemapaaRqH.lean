/- The receiver: Ranges. -/
import Derived.Test.YtmfciheenemapaaRqG
import Derived.StillTail
import Derived.StillTactics
namespace Go.Proofs.Ytmfciheenemapaa
open Go.RowKit
set_option maxHeartbeats 6400000 in
theorem ranges_any {w : World} {b m : Nat} {n W nx : Int} {H : List (Int × Pt)} (h : Rc w b m n W nx H) : Calls Try.prog 19 #[.pointer (some ⟨b, 0, none⟩)] w fun e w' => RgP w (rgN [] (H.map (·.1))) e w' := by
  have HO := rorder_any h
  have HO : Hid _ := HO
  have HR : Hid (Rc w b m n W nx H) := h
  clear h
  obtain ⟨L, hL⟩ : ∃ L, H.map (·.1) = L := ⟨_, rfl⟩
  have HL : Hid (H.length = L.length ∧ ∀ i ∈ L, 0 ≤ i ∧ i < 1048577) := by
    refine ⟨by rw [← hL, List.length_map], fun i hi => ?_⟩
    rw [← hL] at hi
    obtain ⟨p, hp, rfl⟩ := List.mem_map.1 hi
    exact HR.out.wf p hp
  have HLn : L.length ≤ 64 := by rw [← HL.out.1]; exact HR.out.len
  rw [HL.out.1, hL] at HO
  rw [hL]
  clear hL
  go_enter Try.func19, Try.ntmps19
  go_wp2
  go_step3
  go_wp2
  go_step3
  go_wp2_with (go_at_call 25; refine Calls.mono HO.out ?_; rintro e w1 ⟨v1, rfl, hrow, hb1⟩; obtain ⟨g1, hsl1, hg1⟩ := Sl.of_owns hrow; obtain ⟨a1, c1, hv1, -⟩ := hsl1.shape; subst hv1; have HB1 : Hid (Below w.heap.size w w1 ∧ ∀ k, g1 = some k → w.heap.size ≤ k) := ⟨hb1, hg1⟩; have HS1 : Hid (Sl w1 3 _ g1 _) := hsl1; clear hrow hsl1 hg1 hb1)
  have HI : Hid (RgI w1 L 0 [] (.slice none 0 0) w1) := ⟨Nat.zero_le _, World.ownsRow_nil _ _ _ _, Below.refl _ _, by simp, by simp⟩
  have HN : Hid ((L.map encZ).length = L.length) := by show _ = _; simp
  rw [HN.out] at HS1
  try rw [HN.out]
  clear HO HR
  go_loopw [3, 5, 6, 12] (fun v _ _ t wr => ∃ (j : Nat) (G : List (Int × Int)) (v' : Value), t = .int .i64 j ∧ v' = v ∧ Hid (RgI w1 L j G v' wr)) (fun _ _ _ t _ => L.length - (intOf t).toNat)
  case atStart => exact ⟨0, [], _, rfl, rfl, HI.out⟩
  case round =>
    clear HI
    obtain ⟨j, G, v, rfl, rfl, HQ⟩ := hrel
    by_cases hlt : j < L.length
    · obtain ⟨i, hd⟩ : ∃ i, L.drop j = i :: L.drop (j + 1) := ⟨_, List.drop_eq_getElem_cons hlt⟩
      have hgj : L[j]? = some i := by
        have := congrArg List.head? hd
        rw [List.head?_drop] at this
        exact this
      obtain ⟨ob, off, rfl, hoc⟩ : ∃ ob off, a1 = some ⟨ob, off, none⟩ ∧ wr.cell? ⟨ob, off + j, none⟩ = some (.int .i64 i) := by
        have hs := HS1.out
        rcases hs with ⟨e, _, _⟩ | ⟨ob, off, cap, cur, e, eg, hh, h2, h3, h4, h5⟩
        · simp only [Value.slice.injEq] at e; omega
        · have e' := e
          simp only [Value.slice.injEq] at e'
          refine ⟨ob, off, e'.1, ?_⟩
          have hk := HQ.out.be.block ob (lt_of_block hh)
          have h6 := h5 j (by simpa using hlt)
          simp only [World.cell?, hk, hh]
          rw [h6]
          simp [hgj, encZ]
      have hib := HL.out.2 i (List.mem_of_getElem? hgj)
      rcases List.eq_nil_or_concat G with hG | ⟨A, ⟨x, y⟩, hG⟩
      · subst hG
        have hv : v = .slice none 0 0 ∨ ∃ g cap, v = .slice (some ⟨g, 0, none⟩) 0 cap := by
          rcases HQ.out.own.2 with ⟨e, _⟩ | ⟨g, cap, cur, e, _⟩
          · exact .inl e
          · exact .inr ⟨g, cap, e⟩
        obtain ⟨a', c', rfl⟩ : ∃ a' c', v = .slice a' 0 c' := by
          rcases hv with e | ⟨g, cap, e⟩
          · exact ⟨none, 0, e⟩
          · exact ⟨_, cap, e⟩
        have hbs := HQ.out.be.size
        have hne : ((-1 : Int) ≥ 0) = False := by simp
        go_wp2_with (first | (at_builtin; go_must (refine wpList_push_rg rfl _ _ rfl w1.heap.size (.slice a' 0 c') 0 [] i (i + 1) rfl rfl HQ.out.own (by omega) hbs ?_); intro v3 w3 hown hgr))
        have HS : Hid (RgI w1 L (j + 1) ([] ++ [(i, i + 1)]) v3 w3) := HQ.out.more hd hlt (.inl rfl) hown hgr
        clear hown hgr HQ hv
        go_wp2
        go_roundw
        case rel => exact ⟨j + 1, [] ++ [(i, i + 1)], v3, by go_num, rfl, HS⟩
        case measure => simp [intOf]; omega
      · have hG' : G = A ++ [(x, y)] := by rw [hG, List.concat_eq_append]
        subst hG'
        have h4 := HQ.out.g4
        obtain ⟨g, cap, rfl⟩ : ∃ g cap, v = .slice (some ⟨g, 0, none⟩) (A.length + 1) cap := by
          rcases HQ.out.own.2 with ⟨e, e2⟩ | ⟨g, cap, cur, e, _⟩
          · simp at e2
          · exact ⟨g, cap, by rw [e]; simp⟩
        have hown : wr.ownsRow w1.heap.size 48 2 (.slice (some ⟨g, 0, none⟩) (A.length + 1) cap) (A.length + 1) (gv (A ++ [(x, y)])) := by have := HQ.out.own; rw [List.length_append] at this; exact this
        have hcy : wr.cell? ⟨g, A.length * 2 + 1, none⟩ = some (.int .i64 y) := by
          rw [hown.cellAt _ (by omega)]
          rw [gv_append, List.getElem?_append_right (by rw [gv_len]; omega), gv_len, show A.length * 2 + 1 - A.length * 2 = 1 by omega]
          rfl
        have hfz := hown.frozenAt (A.length * 2 + 1)
        have hA : A.length ≤ 3 := by rw [List.length_append] at h4; simpa using h4
        have hbs := HQ.out.be.size
        have HOW : Hid _ := hown
        clear h4 hown hG
        by_cases hyi : y = i
        · subst hyi
          have hyy : (y == y) = true := by simp
          have HS : Hid (RgI w1 L (j + 1) (A ++ [(x, y + 1)]) (.slice (some ⟨g, 0, none⟩) (A.length + 1) cap) (wr.drew.setCell ⟨g, A.length * 2 + 1, none⟩ (.int .i64 (y + 1)))) := HQ.out.drew.grow hd hlt
          clear HQ HOW
          go_upto_region 10 with fail
          refine wp_region_still_tail 8 (by kernel_rfl) (by kernel_rfl) ?_
          simp only [List.take_succ_cons, List.take_zero, List.drop_succ_cons, List.drop_zero]
          rw [show ({ wr with drawn := wr.drawn + 1 } : World) = wr.drew from rfl]
          have hl1 : (A.length : Int) < (A.length : Int) + 1 := by omega
          repeat still_step
          refine wpStill_nil ?_
          go_wp2
          go_roundw
          case rel => exact ⟨j + 1, A ++ [(x, y + 1)], _, by go_num, rfl, HS⟩
          case measure => simp [intOf]; omega
        · have hyn : (y == i) = false := by simpa using hyi
          by_cases h4 : A.length = 3
          · have HE : Hid (RgP w (rgN [] L) (.returned (.slice (some ⟨g, 0, none⟩) (A.length + 1) cap)) wr) := HQ.out.stop HB1.out.1 (by rw [hd]; simp [rgN, hyi, h4])
            have h4' : (A.length : Int) + 1 = 4 := by omega
            have hcy7 : wr.cell? ⟨g, 7, none⟩ = some (.int .i64 y) := by rw [h4] at hcy; exact hcy
            clear HQ HOW
            go_wp2
            try rw [Exit.noGoto_ret]
            go_ret
            exact HE.out
          · have h4' : ((A.length : Int) + 1 == 4) = false := by simp; omega
            go_wp2_with (first | (at_builtin; go_must (refine wpList_push_rg rfl _ _ rfl w1.heap.size (.slice (some ⟨g, 0, none⟩) (A.length + 1) cap) (A.length + 1) (A ++ [(x, y)]) i (i + 1) rfl rfl HOW.out (by omega) hbs ?_); intro v3 w3 hown hgr))
            have HS : Hid (RgI w1 L (j + 1) (A ++ [(x, y)] ++ [(i, i + 1)]) v3 w3) := HQ.out.more hd hlt (.inr ⟨⟨(x, y), by simp, hyi⟩, by rw [List.length_append]; simp; omega⟩) (by rw [List.length_append]; exact hown) hgr
            clear hown hgr HQ HOW
            go_wp2
            go_roundw
            case rel => exact ⟨j + 1, A ++ [(x, y)] ++ [(i, i + 1)], v3, by go_num, rfl, HS⟩
            case measure => simp [intOf]; omega
    · have hn : L.drop j = [] := by rw [List.drop_eq_nil_iff]; omega
      have HE : Hid (RgP w (rgN [] L) (.returned v) wr) := HQ.out.stop HB1.out.1 (by rw [hn]; rfl)
      clear HQ hn
      go_wp2
      try rw [Exit.noGoto_ret]
      go_ret
      exact HE.out
end Go.Proofs.Ytmfciheenemapaa
