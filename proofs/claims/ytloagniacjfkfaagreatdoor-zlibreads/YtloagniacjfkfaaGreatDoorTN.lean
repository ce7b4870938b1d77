/- zlib: two bytes ahead of any: the head is taken, or refused, as the document says. -/
import Derived.Test.YtloagniacjfkfaaGreatDoorTM
import Derived.Test.YtloagniacjfkfaaGreatDoorQZ
namespace Go.Proofs.YtloagniacjfkfaaGreatDoor
open Go.RowKit
theorem Sl.two (wr : World) (p q : Int) : Sl (wr.alloc (.cells #[.int .u8 p, .int .u8 q] 5)) 5 (.slice (some ⟨wr.heap.size, 0, none⟩) 2 2) (some wr.heap.size) (vals [p, q]) := by
  refine .inr ⟨wr.heap.size, 0, 2, #[.int .u8 p, .int .u8 q], rfl, rfl, heap_newZ wr _, by simp, by simp [vals], by unfold maxLen; omega, fun i hi => ?_⟩
  have hi : i < 2 := by simpa [vals] using hi
  rcases i with _ | _ | i
  · simp [vals]
  · simp [vals]
  · omega
theorem wpList_two {wr : World} {ops : Array Oper} {rest : List Oper} {o : Oper} {a : Act} {Q : Exit → Act → World → Prop} (hgd : o.guard = none) (s x : Operand)
    (ho : o.op = .call { callee := .builtin .append, args := #[s, x], argTypes := #[22, 22] }) (p q : Int)
    (ad : Option Addr) (m c : Nat) (zs : List Int) (hs : a.eval s = .slice (some ⟨wr.heap.size, 0, none⟩) 2 2) (hx : a.eval x = .slice ad m c) (hc : ad = none → c = 0) (hm : zs.length = m) (hr : Row wr ad zs) (hlen : m ≤ 1000)
    (h : ∀ a' c' w' g', Sl w' 5 (.slice a' (m + 2) c') g' (vals (p :: q :: zs)) → Below wr.heap.size wr w' → wpList Tryz.prog ops Q rest (a.put o.dst (.slice a' (m + 2) c')) w') : wpList Tryz.prog ops Q (o :: rest) a (wr.alloc (.cells #[.int .u8 p, .int .u8 q] 5)) := by
  obtain ⟨i0, hi, hz0, hz1, hz2⟩ := info_parts Tryz.info5
  have hB : Below wr.heap.size wr (wr.alloc (.cells #[.int .u8 p, .int .u8 q] 5)) := (Below.refl _ _).alloc (Nat.le_refl _) _
  cases ad with
  | none =>
    have hb : zs = [] := by
      rcases hr with h | ⟨b, off, h, _⟩
      · exact h
      · cases h
    have hc0 := hc rfl
    subst hb hc0
    simp at hm
    subst hm
    refine wpList_append_sl_none hgd s x 22 ho 5 i0 Tryz.underlying22 hi _ 2 2 hs (Nat.le_refl _) hx ?_
    exact h _ 2 _ (some wr.heap.size) (Sl.two wr p q) hB
  | some y =>
    refine wpList_append_sl hgd s x 22 ho 5 i0 (.int .u8 0) 1 Tryz.underlying22 hi hz0 hz1 hz2 rfl _ _ (vals [p, q]) hs (Sl.two wr p q) y m c (vals zs) hx (by rw [vals_len]; exact hm) (news_row (hr.alloc _)) (vals_one zs) (by simp [vals]; omega) (by simp [vals]; unfold maxLen; omega) ?_
    intro v' w' g' h1 h2 h3
    obtain ⟨a', c', hv, _⟩ := h1.shape
    have he : vals [p, q] ++ vals zs = vals (p :: q :: zs) := by simp [vals]
    rw [he] at h1 hv
    have hl : (vals (p :: q :: zs)).length = m + 2 := by rw [vals_len, List.length_cons, List.length_cons, hm]
    rw [hl] at hv
    subst hv
    exact h a' c' w' g' h1 ⟨h3.os.trans hB.os, h3.tape.trans hB.tape, h3.output.trans hB.output, Nat.le_trans hB.size h3.size, fun k hk => (h3.block k (by simp; omega) (by simp; omega)).trans (hB.block k hk)⟩
set_option maxHeartbeats 400000 in
theorem zclear_any (E : Int) (w : World) : Calls Tryz.prog 13 #[.int .i64 E] w fun e w' => e = .returned (.int .i64 (if E = 2 then 0 else E)) ∧ w' = w := by
  by_cases h : E = 2
  · subst h
    go_enter Tryz.func13, Tryz.ntmps13
    go_wp2
    go_ret
    exact ⟨rfl, rfl⟩
  · have hb : (E == 2) = false := by simpa using h
    rw [if_neg h]
    go_enter Tryz.func13, Tryz.ntmps13
    go_wp2
    go_ret
    exact ⟨rfl, rfl⟩
set_option maxHeartbeats 3200000 in
set_option maxRecDepth 20000 in
theorem zhead_walk (p q : Int) (a : Option Addr) (len cap : Nat) (w : World) (hord : Ord w) (hsec : Sec w) (wp : (Lit.int .u8 p).wf = true) (wq : (Lit.int .u8 q).wf = true) (ha : BArg w a len cap) :
    Calls Tryz.prog 7 #[.int .u8 p, .int .u8 q, .slice a len cap] w fun e w' => e = .returned (.bool true) ∧ Below w.heap.size w w' := by
  have hp := bounds_u8 wp
  have hq := bounds_u8 wq
  clear wp wq
  obtain ⟨A, hA, hAl, hn, hc, hc0, hAr⟩ := ha
  have HA : Hid (Bytes A ∧ Row w a A ∧ (a = none → cap = 0) ∧ Ord w ∧ Sec w ∧ A.length = len) := ⟨hA, hAr, hc0, hord, hsec, hAl⟩
  clear hA hAr hc0 hord hsec hAl
  by_cases hbig : 300 < (len : Int)
  · go_enter Tryz.func7, Tryz.ntmps7
    go_wp2_with (go_at_call 9; refine (zfixed_any _ HA.out.2.2.2.1 HA.out.2.2.2.2.1).mono ?_; rintro e w1 ⟨rfl, hbel⟩)
    go_ret
    exact ⟨rfl, hbel⟩
  obtain ⟨bs, hbs⟩ : ∃ bs, p :: q :: A = bs := ⟨_, rfl⟩
  have HS : Hid (p :: q :: A = bs ∧ bs.length = len + 2 ∧ Bytes bs) := by
    refine ⟨hbs, by rw [← hbs, List.length_cons, List.length_cons, HA.out.2.2.2.2.2], ?_⟩
    rw [← hbs]
    intro z hz
    rcases List.mem_cons.1 hz with h | h
    · rw [h]; omega
    · rcases List.mem_cons.1 h with h | h
      · rw [h]; omega
      · exact HA.out.1 z h
  clear hbs
  go_enter Tryz.func7, Tryz.ntmps7
  go_wp2_with fail
  refine (zfixed_any _ HA.out.2.2.2.1 HA.out.2.2.2.2.1).mono ?_
  rintro e w1 ⟨rfl, b1⟩
  have HO1 : Hid (Ord w1) := HA.out.2.2.2.1.below b1 HA.out.2.2.2.1.pos
  have HB1 : Hid (Below w.heap.size w w1) := b1
  clear b1
  have hl3 : len ≤ 300 := by omega
  go_wp2_with (at_builtin; refine wpList_two rfl _ _ rfl p q a len cap A rfl rfl HA.out.2.2.1 HA.out.2.2.2.2.2 (HA.out.2.1.old HB1.out) (by omega) ?_; intro a2 c2 w2 g2 hs2 b2)
  obtain ⟨_, _, hv2, hl2, hm2, hn2⟩ := hs2.shape
  have hvl : (vals (p :: q :: A)).length = len + 2 := by rw [vals_len, List.length_cons, List.length_cons, HA.out.2.2.2.2.2]
  rw [hvl] at hv2 hl2
  simp only [Value.slice.injEq] at hv2
  obtain ⟨rfl, _, rfl⟩ := hv2
  have hr2 := hs2.row rfl
  rw [HS.out.1] at hr2
  unfold maxLen at hm2
  have HB2 : Hid (Below w.heap.size w w2) := HB1.out.trans (b2.mono HB1.out.size)
  have C1 := zall_any a2 (len + 2) c2 bs 400 3000 w2 HS.out.2.1 hr2 HS.out.2.2 hl2 (by omega) hn2 (by omega) (by omega) (by omega) (HO1.out.below b2 HO1.out.pos)
  clear hs2 b2 hvl hr2 hl2 hm2 hn2
  refine C1.mono ?_
  rintro e w3 hp3
  obtain ⟨z, S, d, ax, cx, L, rfl, _, _, hz, _, _, _, b3⟩ := hp3.open
  have HB3 : Hid (Below w.heap.size w w3) := HB2.out.trans (b3.mono HB2.out.size)
  have HZ : Hid (ZSays (3000 : Int).toNat bs z) := hz
  obtain ⟨ER, hER⟩ : ∃ ER, z.er = ER := ⟨_, rfl⟩
  have HER : Hid (z.er = ER) := hER
  obtain ⟨ZL, hZL⟩ : ∃ ZL, z.out.length = ZL := ⟨_, rfl⟩
  rw [hER, hZL]
  clear C1 hp3 hz b3 hER hZL HB1 HB2 HO1
  go_wp2_with (at_builtin; refine wpList_two rfl _ _ rfl p q a len cap A rfl rfl HA.out.2.2.1 HA.out.2.2.2.2.2 (HA.out.2.1.old HB3.out) (by omega) ?_; intro a4 c4 w4 g4 hs4 b4)
  obtain ⟨_, _, hv4, hl4, hm4, hn4⟩ := hs4.shape
  have hvl : (vals (p :: q :: A)).length = len + 2 := by rw [vals_len, List.length_cons, List.length_cons, HA.out.2.2.2.2.2]
  rw [hvl] at hv4 hl4
  simp only [Value.slice.injEq] at hv4
  obtain ⟨rfl, _, rfl⟩ := hv4
  have hr4 := hs4.row rfl
  rw [HS.out.1] at hr4
  unfold maxLen at hm4
  have HB4 : Hid (Below w.heap.size w w4) := HB3.out.trans (b4.mono HB3.out.size)
  have C2 := zof_any a4 (len + 2) c4 bs 3000 w4 HS.out.2.1 hl4 (by omega) (by omega) HS.out.2.2 hr4 (by omega)
  clear hs4 b4 hvl hr4 hl4 hm4 hn4 HB3
  refine C2.mono ?_
  rintro e w5 ⟨vo, go, ar, cr, out, rest, E, dn, rfl, hso, _, b5, hcmp⟩
  obtain ⟨ao, co, hvo, _⟩ := hso.shape
  obtain ⟨OL, hOL⟩ : ∃ OL, (vals out).length = OL := ⟨_, rfl⟩
  rw [hOL] at hvo
  subst hvo
  obtain ⟨_, hEe, _, _⟩ := hcmp.cmp z HZ.out
  have HE : Hid (ER = if E = 2 then 0 else E) := HER.out.symm.trans hEe
  have HB5 : Hid (Below w.heap.size w w5) := HB4.out.trans (b5.mono HB4.out.size)
  obtain ⟨RL, hRL⟩ : ∃ RL, rest.length = RL := ⟨_, rfl⟩
  rw [hRL]
  clear C2 hcmp hEe b5 HB4 hRL hso hOL
  have HCl : Hid (∀ W, Calls Tryz.prog 13 #[.int .i64 E] W fun e w' => e = .returned (.int .i64 ER) ∧ w' = W) := by
    intro W; rw [HE.out]; exact zclear_any E W
  go_wp2_with (go_at_call 13; refine (HCl.out _).mono ?_; rintro e w6 ⟨rfl, hw6⟩; rw [hw6]; clear hw6 w6)
  go_ret
  refine ⟨ret_bool (by simp), ?_⟩
  exact HB5.out.alloc HB5.out.size _
end Go.Proofs.YtloagniacjfkfaaGreatDoor
