/- The document's receiver: Ranges, walked; New. -/
import Derived.Test.YtmfciheenemapaaRqV
namespace Go.Proofs.Ytmfciheenemapaa
open Go.RowKit
structure XrI (w : World) (N T k : Nat) (S : Nat → Bool) (G : List (Int × Int)) (v : Value) (wr : World) : Prop where
  own : wr.ownsRow w.heap.size 48 2 v G.length (gv G)
  be : Below w.heap.size w wr
  eq : (keysX S N T).foldl rgF [] = (keysX S N k).foldl rgF G
  ln : G.length ≤ k
theorem XrI.skip {w wr : World} {N T k : Nat} {S : Nat → Bool} {G : List (Int × Int)} {v : Value} (h : XrI w N T k S G v wr) (hk : k < N) (hS : S k = false) : XrI w N T (k + 1) S G v wr :=
  ⟨h.own, h.be, by rw [h.eq, keysX_step S N k hk, hS]; rfl, by have := h.ln; omega⟩
theorem XrI.more {w wr w2 : World} {N T k : Nat} {S : Nat → Bool} {G : List (Int × Int)} {v v' : Value} (h : XrI w N T k S G v wr) (hk : k < N) (hS : S k = true) (hF : rgF G (k : Int) = G ++ [((k : Int), (k : Int) + 1)])
    (ho : w2.ownsRow w.heap.size 48 2 v' (G.length + 1) (gv (G ++ [((k : Int), (k : Int) + 1)]))) (hg : (wr.alloc (.cells #[.int .i64 (k : Int), .int .i64 ((k : Int) + 1)] 48)).grownBy w2 v.ownBlock) : XrI w N T (k + 1) S (G ++ [((k : Int), (k : Int) + 1)]) v' w2 := by
  refine ⟨by rw [List.length_append]; exact ho, ?_, ?_, ?_⟩
  · exact (h.be.trans ((below_allocR wr _).mono h.be.size)).grown hg (Nat.le_trans h.be.size (below_allocR wr _).size) (fun k hk => (own_lt h.own k hk).1)
  · rw [h.eq, keysX_step S N k hk, hS]
    simp only [if_true, List.cons_append, List.nil_append, List.foldl_cons]
    rw [hF]
  · have := h.ln; rw [List.length_append]; simp; omega
theorem XrI.grow {w wr : World} {N T k : Nat} {S : Nat → Bool} {A : List (Int × Int)} {x : Int} {g cap : Nat} (h : XrI w N T k S (A ++ [(x, (k : Int))]) (.slice (some ⟨g, 0, none⟩) (A.length + 1) cap) wr) (hk : k < N) (hS : S k = true) : XrI w N T (k + 1) S (A ++ [(x, (k : Int) + 1)]) (.slice (some ⟨g, 0, none⟩) (A.length + 1) cap) (wr.setCell ⟨g, A.length * 2 + 1, none⟩ (.int .i64 ((k : Int) + 1))) := by
  have hown : wr.ownsRow w.heap.size 48 2 (.slice (some ⟨g, 0, none⟩) (A.length + 1) cap) (A.length + 1) (gv (A ++ [(x, (k : Int))])) := by have := h.own; rw [List.length_append] at this; exact this
  refine ⟨?_, h.be.setCell (by exact (own_lt hown g rfl).1) _, ?_, by have := h.ln; rw [List.length_append] at this ⊢; simp at this ⊢; omega⟩
  · have := hown.stored (A.length * 2 + 1) (.int .i64 ((k : Int) + 1))
    rw [gv_last] at this
    rw [List.length_append]
    exact this.1
  · rw [h.eq, keysX_step S N k hk, hS]
    simp only [if_true, List.cons_append, List.nil_append, List.foldl_cons]
    congr 1
    simp [rgF]
def XrP (w : World) (G : List (Int × Int)) (e : Ending) (w' : World) : Prop := ∃ a n c, e = .returned (.slice a n c) ∧ n = G.length ∧ RgR w' a G ∧ Below w.heap.size w w'
theorem RgR.take4 {w : World} {a : Option Addr} {G : List (Int × Int)} (h : RgR w a G) : RgR w a (G.take 4) := by
  rcases h with h | ⟨b, off, ha, hc⟩
  · exact .inl (by rw [h]; rfl)
  · refine .inr ⟨b, off, ha, fun i hi => ?_⟩
    rw [List.length_take] at hi
    have := hc i (by omega)
    unfold gx gy at this ⊢
    rw [List.getElem?_take_of_lt (by omega)]
    exact this
theorem XrI.stop {w wr : World} {N T : Nat} {S : Nat → Bool} {G : List (Int × Int)} {a : Option Addr} {c : Nat} (h : XrI w N T N S G (.slice a G.length c) wr) : XrP w (rgN [] (keysX S N T)) (.returned (.slice a (min G.length 4) c)) wr := by
  have e := h.eq
  rw [keysX_end, List.foldl_nil] at e
  rw [rgN_fold _ _ (by simp), e]
  obtain ⟨a', c', hv, hr, _⟩ := owns_rgR h.own
  simp only [Value.slice.injEq, true_and] at hv
  obtain ⟨rfl, rfl⟩ := hv
  exact ⟨a, _, c, rfl, by rw [List.length_take]; omega, hr.take4, h.be⟩
set_option maxRecDepth 20000 in
set_option maxHeartbeats 6400000 in
theorem xranges_any {w : World} {c cb ib N : Nat} {W : Int} {A : Nat → Pt} {S : Nat → Bool} {T : Nat} (h : Rx w c cb ib N W A S) (hT : FstX N T S) : Calls Try.prog 20 #[.pointer (some ⟨c, 0, none⟩)] w fun e w' => XrP w (rgN [] (keysX S N T)) e w' := by
  have HX : Hid (Rx w c cb ib N W A S) := h
  have C1 := xnext_any h hT
  have hN := h.nb.1
  have hTN := hT.1
  clear h hT
  go_enter Try.func20, Try.ntmps20
  go_wp2_with (first | (go_at_call 15; refine Calls.mono C1 ?_; clear C1; rintro e w' ⟨rfl, rfl⟩))
  have HI : Hid (XrI w' N T T S [] (.slice none 0 0) w') := ⟨World.ownsRow_nil _ _ _ _, Below.refl _ _, rfl, Nat.zero_le _⟩
  go_loopw [3, 4, 5] (fun ov iv _ wr => ∃ (k : Nat) (G : List (Int × Int)) (v' : Value), T ≤ k ∧ k ≤ N ∧ iv = .int .i64 (k : Int) ∧ v' = ov ∧ Hid (XrI w' N T k S G v' wr)) (fun _ iv _ _ => N - (intOf iv).toNat)
  case atStart => exact ⟨T, [], _, Nat.le_refl _, hTN, rfl, rfl, HI.out⟩
  case round =>
    clear HI
    obtain ⟨k, G, v, hk1, hk2, rfl, rfl, HQ⟩ := hrel
    have hX := HX.out.old HQ.out.be
    obtain ⟨k0, k1, k2⟩ := rx_cells hX.ce
    by_cases hlt : k < N
    · obtain ⟨-, y2, -, -⟩ := hX.cm.cells hlt
      have hlt' : (k : Int) < (N : Int) := by omega
      cases hS : S k
      · rw [hS] at y2
        have HS : Hid (XrI w' N T (k + 1) S G v wr) := HQ.out.skip hlt hS
        clear HQ hX
        go_wp2
        go_roundw
        case rel => exact ⟨k + 1, G, v, by omega, by omega, by go_num, rfl, HS⟩
        case measure => simp [intOf]; omega
      · rw [hS] at y2
        have hbs := HQ.out.be.size
        rcases List.eq_nil_or_concat G with hG | ⟨B, ⟨x, y⟩, hG⟩
        · subst hG
          obtain ⟨a', c', rfl⟩ : ∃ a' c', v = .slice a' 0 c' := by
            rcases HQ.out.own.2 with ⟨e, _⟩ | ⟨g, cap, cur, e, _⟩
            · exact ⟨none, 0, e⟩
            · exact ⟨_, cap, e⟩
          clear hX
          go_wp2_with (first | (at_builtin; go_must (refine wpList_push_rg rfl _ _ rfl w'.heap.size (.slice a' 0 c') 0 [] (k : Int) ((k : Int) + 1) rfl rfl HQ.out.own (by omega) hbs ?_); intro v3 w3 hown hgr))
          have HS : Hid (XrI w' N T (k + 1) S ([] ++ [((k : Int), (k : Int) + 1)]) v3 w3) := HQ.out.more hlt hS rfl hown hgr
          clear hown hgr HQ
          go_wp2
          go_roundw
          case rel => exact ⟨k + 1, [] ++ [((k : Int), (k : Int) + 1)], v3, by omega, by omega, by go_num, rfl, HS⟩
          case measure => simp [intOf]; omega
        · have hG' : G = B ++ [(x, y)] := by rw [hG, List.concat_eq_append]
          subst hG'
          have hln := HQ.out.ln
          obtain ⟨g, cap, rfl⟩ : ∃ g cap, v = .slice (some ⟨g, 0, none⟩) (B.length + 1) cap := by
            rcases HQ.out.own.2 with ⟨e, e2⟩ | ⟨g, cap, cur, e, _⟩
            · simp at e2
            · exact ⟨g, cap, by rw [e]; simp⟩
          have hown : wr.ownsRow w'.heap.size 48 2 (.slice (some ⟨g, 0, none⟩) (B.length + 1) cap) (B.length + 1) (gv (B ++ [(x, y)])) := by have := HQ.out.own; rw [List.length_append] at this; exact this
          have hcy : wr.cell? ⟨g, B.length * 2 + 1, none⟩ = some (.int .i64 y) := by
            rw [hown.cellAt _ (by omega)]
            rw [gv_append, List.getElem?_append_right (by rw [gv_len]; omega), gv_len, show B.length * 2 + 1 - B.length * 2 = 1 by omega]
            rfl
          have hfz := hown.frozenAt (B.length * 2 + 1)
          have hB : B.length ≤ 300 := by rw [List.length_append] at hln; simp at hln; omega
          have HOW : Hid _ := hown
          clear hown hG hln hX
          by_cases hyk : y = (k : Int)
          · subst hyk
            have hyy : ((k : Int) == (k : Int)) = true := by simp
            have HS : Hid (XrI w' N T (k + 1) S (B ++ [(x, (k : Int) + 1)]) (.slice (some ⟨g, 0, none⟩) (B.length + 1) cap) (wr.setCell ⟨g, B.length * 2 + 1, none⟩ (.int .i64 ((k : Int) + 1)))) := HQ.out.grow hlt hS
            clear HQ HOW
            go_wp2
            go_roundw
            case rel => exact ⟨k + 1, B ++ [(x, (k : Int) + 1)], _, by omega, by omega, by go_num, rfl, HS⟩
            case measure => simp [intOf]; omega
          · have hyn : (y == (k : Int)) = false := by simpa using hyk
            go_wp2_with (first | (at_builtin; go_must (refine wpList_push_rg rfl _ _ rfl w'.heap.size (.slice (some ⟨g, 0, none⟩) (B.length + 1) cap) (B.length + 1) (B ++ [(x, y)]) (k : Int) ((k : Int) + 1) rfl rfl HOW.out (by omega) hbs ?_); intro v3 w3 hown hgr))
            have HS : Hid (XrI w' N T (k + 1) S (B ++ [(x, y)] ++ [((k : Int), (k : Int) + 1)]) v3 w3) := HQ.out.more hlt hS (by unfold rgF; simp [hyk]) (by rw [List.length_append]; exact hown) hgr
            clear hown hgr HQ HOW
            go_wp2
            go_roundw
            case rel => exact ⟨k + 1, B ++ [(x, y)] ++ [((k : Int), (k : Int) + 1)], v3, by omega, by omega, by go_num, rfl, HS⟩
            case measure => simp [intOf]; omega
    · obtain rfl : k = N := by omega
      obtain ⟨a', c', hv, -, -⟩ := owns_rgR HQ.out.own
      subst hv
      have hlc : G.length ≤ c' ∧ c' ≤ maxLen := by
        rcases HQ.out.own.2 with ⟨e, e2⟩ | ⟨g, cap, cur, e, _, _, h1, h2, _⟩
        · simp only [Value.slice.injEq] at e; unfold maxLen; omega
        · simp only [Value.slice.injEq] at e; omega
      have HE : Hid (XrP w' (rgN [] (keysX S k T)) (.returned (.slice a' (min G.length 4) c')) wr) := HQ.out.stop
      have hnone : a' = none → G.length = 0 ∧ c' = 0 := fun e0 => by
        rcases HQ.out.own.2 with ⟨e, e2⟩ | ⟨g, cap, cur, e, _⟩
        · simp only [Value.slice.injEq] at e; exact ⟨e.2.1, e.2.2⟩
        · rw [e0] at e; simp at e
      have hG3 : G.length ≤ 300 := by have := HQ.out.ln; omega
      have hcN : (G.length : Int) ≤ (c' : Int) := by omega
      clear HQ hX
      generalize G.length = gl at *
      by_cases h4 : gl ≤ 4
      · rw [Nat.min_eq_left h4] at HE
        have e1 : min (gl : Int) 4 = (gl : Int) := by omega
        cases a' with
        | none =>
          obtain ⟨rfl, rfl⟩ := hnone rfl
          go_wp2
          go_ret
          exact HE.out
        | some q =>
          obtain ⟨qb, qo, qs⟩ := q
          go_wp2
          go_ret
          exact HE.out
      · rw [Nat.min_eq_right (by omega)] at HE
        have e1 : min (gl : Int) 4 = 4 := by omega
        have e2 : (4 : Int) ≤ (c' : Int) := by omega
        cases a' with
        | none => have := (hnone rfl).1; omega
        | some q =>
          obtain ⟨qb, qo, qs⟩ := q
          go_wp2
          go_ret
          exact HE.out
end Go.Proofs.Ytmfciheenemapaa
