/- A chunk's data, read. -/
import Derived.Test.YtpjcdfinlclhoaaGreatDoorCn6
namespace Go.Proofs.YtpjcdfinlclhoaaGreatDoor
open Go.RowKit
/-- 'append(s, x...)', bytes: and nothing behind nil is nil. -/
theorem wpList_more2 {w : World} {ops : Array Oper} {rest : List Oper} {o : Oper} {a : Act} {Q : Exit → Act → World → Prop} (hgd : o.guard = none) (s x : Operand)
    (ho : o.op = .call { callee := .builtin .append, args := #[s, x], argTypes := #[22, 22] })
    (v : Value) (g : Option Nat) (zs : List Int) (hs : a.eval s = v) (hsl : Sl w 5 v g (vals zs))
    (ad : Option Addr) (m c : Nat) (ys : List Int) (hx : a.eval x = .slice ad m c) (hc : ad = none → c = 0) (hm : ys.length = m) (hr : Row w ad ys) (hlen : zs.length + m ≤ 140737488351232)
    (h : ∀ v' w' g', Sl w' 5 v' g' (vals (zs ++ ys)) → (g' = g ∨ ∃ k, g' = some k ∧ w.heap.size ≤ k) → w.grownBy w' g → (v = .slice none 0 0 → ys = [] → v' = .slice none 0 0) → wpList Tryz.prog ops Q rest (a.put o.dst v') w') : wpList Tryz.prog ops Q (o :: rest) a w := by
  by_cases hq : v = .slice none 0 0 ∧ ys = []
  · obtain ⟨hv0, rfl⟩ := hq
    obtain rfl : m = 0 := by simpa using hm.symm
    have hg0 : g = none ∧ zs = [] := by
      rcases hsl with ⟨_, h1, h2⟩ | ⟨b, off, cap, cur, h1, _⟩
      · exact ⟨h1, by simpa [vals] using h2⟩
      · rw [hv0] at h1; cases h1
    obtain ⟨rfl, rfl⟩ := hg0
    cases ad with
    | none =>
      have hc0 := hc rfl
      subst hc0
      obtain ⟨i0, hi, hz0, hz1, hz2⟩ := info_parts Tryz.info5
      refine wpList_append_sl_none hgd s x 22 ho 5 i0 Tryz.underlying22 hi none 0 0 (by rw [hs, hv0]) (Nat.le_refl _) hx ?_
      exact h _ w none (Sl.nil _ _) (.inl rfl) ⟨rfl, rfl, rfl, Nat.le_refl _, fun _ _ _ => rfl⟩ (fun _ _ => rfl)
    | some y =>
      obtain ⟨i0, hi, hz0, hz1, hz2⟩ := info_parts Tryz.info5
      refine wpList_append_own w hgd s x 22 ho w.heap.size 5 i0 (.int .u8 0) 1 1 Tryz.underlying22 hi hz0 hz1 hz2 rfl (by decide) _ 0 [] (by rw [hs, hv0]) (World.ownsRow_nil _ _ _ _) y 0 c [] hx rfl (by intro j u hj; simp at hj) (by intro u hu; simp at hu) (by unfold maxLen; omega) (by omega) (Nat.le_refl _) ?_
      intro v' w' hown hgrow hiff
      obtain rfl := hiff.2 ⟨rfl, rfl⟩
      exact h _ w' none (Sl.nil _ _) (.inl rfl) hgrow (fun _ _ => rfl)
  · exact wpList_more hgd s x ho v g zs hs hsl ad m c ys hx hc hm hr hlen fun v' w' g' h1 h2 h3 => h v' w' g' h1 h2 h3 (fun h4 h5 => absurd ⟨h4, h5⟩ hq)
theorem step_more2 {w : World} {ops : Array Oper} {o : Oper} {a : Act} {K : Act → World → Prop} {Q : Exit → Act → World → Prop} {E : Prop} (hgd : o.guard = none) (s x : Operand)
    (ho : o.op = .call { callee := .builtin .append, args := #[s, x], argTypes := #[22, 22] })
    (v : Value) (g : Option Nat) (zs : List Int) (hs : a.eval s = v) (hsl : Sl w 5 v g (vals zs))
    (ad : Option Addr) (m c : Nat) (ys : List Int) (hx : a.eval x = .slice ad m c) (hc : ad = none → c = 0) (hm : ys.length = m) (hr : Row w ad ys) (hlen : zs.length + m ≤ 140737488351232)
    (h : ∀ v' w' g', Sl w' 5 v' g' (vals (zs ++ ys)) → (g' = g ∨ ∃ k, g' = some k ∧ w.heap.size ≤ k) → w.grownBy w' g → (v = .slice none 0 0 → ys = [] → v' = .slice none 0 0) → K (a.put o.dst v') w') : if Region.wanted o (yielded ops a.tmps) = true then Oper.wp Tryz.prog o a w K Q else E :=
  step_of_list hgd (wpList_more2 hgd s x ho v g zs hs hsl ad m c ys hx hc hm hr hlen fun v' w' g' h1 h2 h3 h4 => ⟨rfl, h v' w' g' h1 h2 h3 h4⟩)
section
variable {w : World} {p : Nat} {er : Int} {X : List Int} {kd : ByteArray} {vd : Value} {bg en : Bool}
def DtPost (B : Nat) (w : World) (p : Nat) (er : Int) (s n : Nat) (X : List Int) (kd : ByteArray) (vd : Value) (g : Option Nat) (D : List Int) (bg en : Bool) (S : BitVec 32) (bs : List Int) (e : Ending) (w' : World) : Prop :=
  ∃ N vd' g' a' c', N = min (n - s) bs.length ∧ e = .returned (.slice a' (bs.length - N) c') ∧ Rst B w' p (bs.drop N) a' c' ∧
    CC w' p (if s + N = n then 4 else 3) er (if s + N = n then 0 else ((s + N : Nat) : Int)) X kd n vd' bg en ((crcM S (bs.take N)).toNat : Int) ∧ Sl w' 5 vd' g' (vals (D ++ bs.take N)) ∧ (g' = g ∨ ∃ k, g' = some k ∧ w.heap.size ≤ k) ∧ Fr w w' p g ∧ (vd = .slice none 0 0 → bs.take N = [] → vd' = .slice none 0 0)
set_option maxHeartbeats 6400000 in
set_option maxRecDepth 20000 in
theorem rdata_any (B s n : Nat) (hs : s ≤ n) (hn : n ≤ 1048576) (S : BitVec 32) (bs : List Int) (hbb : Bytes bs) (av : Option Addr) (m c : Nat) (hm : bs.length = m) (hrs : Rst B w p bs av c) (g : Option Nat) (D : List Int) (hsl : Sl w 5 vd g (vals D)) (hD : D.length + m ≤ 140737488351232) (hg : ∀ k, g = some k → B ≤ k) (h : CC w p 3 er (s : Int) X kd n vd bg en (S.toNat : Int)) :
    Calls Tryz.prog 36 #[.pointer (some ⟨p, 0, none⟩), .slice av m c] w fun e w' => DtPost B w p er s n X kd vd g D bg en S bs e w' := by
  obtain ⟨hmc, hcm, hc0, hrow, -⟩ := id hrs
  rw [hm] at hmc
  obtain ⟨N, hN⟩ : ∃ N, min (n - s) m = N := ⟨_, rfl⟩
  have hNm : N ≤ m ∧ N ≤ n - s ∧ N ≤ c := by omega
  have hmin : min ((n : Int) - s) (m : Int) = (N : Int) := by omega
  obtain ⟨ap, cp, hv, hle, hle2, hnn⟩ := hsl.shape
  rw [vals_len] at hv hle
  subst hv
  have hgp := h.ne hsl (by decide)
  have hTl : (bs.take N).length = N := by rw [List.length_take]; omega
  obtain ⟨S', hS'⟩ : ∃ S', crcM S (bs.take N) = S' := ⟨_, rfl⟩
  have HM : Hid (∀ w8, Row w8 av (bs.take N) → Calls Tryz.prog 55 #[.int .u32 (S.toNat : Int), .slice av N c] w8 fun e w' => e = .returned (.int .u32 (S'.toNat : Int)) ∧ w' = w8) := by
    intro w8 hr
    rw [← hS']
    exact more_any S av N c (bs.take N) w8 hTl (by omega) (hbb.takeC N) hr
  have HSL : Hid (Sl w 5 (.slice ap D.length cp) g (vals D)) := hsl
  have HC : Hid (CC w p 3 er (s : Int) X kd n (.slice ap D.length cp) bg en (S.toNat : Int)) := h
  have HR : Hid (Row w av (bs.take N) ∧ (bs.take N).length = N ∧ (vals (D ++ bs.take N)).length = D.length + N) := ⟨hrow.take N, hTl, by rw [vals_len, List.length_append, hTl]⟩
  have HZ : Hid (∀ w7 v7 g7, Sl w7 5 v7 g7 (vals (D ++ bs.take N)) → (g7 = g ∨ ∃ k, g7 = some k ∧ w.heap.size ≤ k) → Fr w w7 p g → CC w7 p 3 er (s : Int) X kd n (.slice ap D.length cp) bg en (S.toNat : Int) → CC (w7.setCell ⟨p, 9, none⟩ v7) p 3 er (s : Int) X kd n v7 bg en (S.toNat : Int) ∧ Sl (w7.setCell ⟨p, 9, none⟩ v7) 5 v7 g7 (vals (D ++ bs.take N)) ∧ Fr w (w7.setCell ⟨p, 9, none⟩ v7) p g) := by
    intro w7 v7 g7 h1 h2 h3 h4
    refine ⟨h4.set9 v7, h1.same fun k hk => Below.heap_setCell _ _ _ _ ?_, h3.snoc _ _⟩
    rintro rfl
    exact h4.ne h1 (by decide) hk
  have HRW : Hid (∀ w8, Fr w w8 p g → Row w8 av (bs.take N)) := by
    intro w8 f8
    refine (hrow.take N).same fun x hx hb => f8.block _ ((hrow.take N).lt x hx hb) ?_ ?_
    · exact (hrs.2.2.2.2 x hx (by rintro rfl; simp at hb)).1
    · intro e
      have := hg _ e.symm
      have := (hrs.2.2.2.2 x hx (by rintro rfl; simp at hb)).2
      omega
  have HRs : Hid (∀ w8, Fr w w8 p g → Rst B w8 p (bs.drop N) (if c = N then av else Option.map (fun x => x.add N) av) (c - N)) := fun w8 f8 => (hrs.cut N (by omega)).frame f8 hg
  have HGP : Hid (g ≠ some p) := hgp
  obtain ⟨k0, k1, k2, k7, k8, k9, k10, k11, k12, fz⟩ := h.cells
  have hns : (0 : Int) ≤ (n : Int) - s := by omega
  have hNi : (N : Int) ≤ (m : Int) := by omega
  have hNc : (N : Int) ≤ (c : Int) := by omega
  have HSS : Hid (crcM S (bs.take N) = S') := hS'
  clear h hsl hrow hrs hbb hgp hnn hle2 hTl hS'
  go_enter Tryz.func36, Tryz.ntmps36
  go_wp2
  go_region
  go_wp2
  go_region_law (first
    | (refine step_more2 rfl _ _ rfl (.slice ap D.length cp) g D rfl (HSL.out.same fun _ _ => rfl) av N c (bs.take N) rfl hc0 HR.out.2.1 (HR.out.1.same fun _ _ _ => rfl) (by omega) ?_; intro v7 w7 g7 hs7 hg7 hgr7 hnl7; obtain ⟨a7, c7, hv7, -⟩ := hs7.shape; rw [HR.out.2.2] at hv7; subst hv7; have HNL : Hid (Value.slice ap D.length cp = .slice none 0 0 → bs.take N = [] → Value.slice a7 (D.length + N) c7 = .slice none 0 0) := hnl7; clear hnl7; have f7 : Fr w w7 p g := ⟨hgr7.os, hgr7.tape, hgr7.output, hgr7.size, fun k hk _ h2 => hgr7.block k hk h2⟩; have z7 : CC w7 p 3 er (s : Int) X kd n (.slice ap D.length cp) bg en (S.toNat : Int) := HC.out.same (hgr7.block p HC.out.lt (fun e => HGP.out e.symm)); obtain ⟨q0, q1, q2, q7, q8, q9, q10, q11, q12, qf⟩ := z7.cells)
    | fail)
  all_goals
    obtain ⟨z8, s8, f8⟩ := HZ.out w7 _ g7 hs7 hg7 f7 z7
    clear hs7 hgr7 f7 z7 HZ HSL HC
    obtain ⟨w8, hw8⟩ : ∃ w8, w7.setCell ⟨p, 9, none⟩ (.slice a7 (D.length + N) c7) = w8 := ⟨_, rfl⟩
    rw [hw8] at z8 s8 f8
    obtain ⟨u0, u1, u2, u7, u8, u9, u10, u11, u12, uf⟩ := z8.cells
    have HM8 : Hid (∀ j, Calls Tryz.prog 55 #[.int .u32 (S.toNat : Int), .slice av N c] (w8.drewN j) fun e w' => e = .returned (.int .u32 (S'.toNat : Int)) ∧ w' = w8.drewN j) := fun j => HM.out (w8.drewN j) ((HRW.out w8 f8).same fun _ _ _ => rfl)
    have HK : Hid (CC w8 p 3 er (s : Int) X kd n (.slice a7 (D.length + N) c7) bg en (S.toNat : Int) ∧ Sl w8 5 (.slice a7 (D.length + N) c7) g7 (vals (D ++ bs.take N)) ∧ Fr w w8 p g) := ⟨z8, s8, f8⟩
    clear z8 s8 f8 HM HRW q0 q1 q2 q7 q8 q9 q10 q11 q12
    go_wp2
    go_region_with (go_at_call 55; refine Calls.mono (HM8.out _) ?_; rintro e w9 ⟨rfl, hw9⟩; rw [hw9]; clear hw9)
    obtain ⟨w9, hw9⟩ : ∃ w9, (w8.drewN 1).setCell ⟨p, 12, none⟩ (.int .u32 (S'.toNat : Int)) = w9 := ⟨_, rfl⟩
    have HK1 : Hid (CC w9 p 3 er (s : Int) X kd n (.slice a7 (D.length + N) c7) bg en (S'.toNat : Int) ∧ Sl w9 5 (.slice a7 (D.length + N) c7) g7 (vals (D ++ bs.take N)) ∧ Fr w w9 p g) := by
      have hz : CC (w8.drewN 1) p 3 er (s : Int) X kd n (.slice a7 (D.length + N) c7) bg en (S.toNat : Int) := HK.out.1.same rfl
      have hf : Fr w (w8.drewN 1) p g := ⟨HK.out.2.2.os, HK.out.2.2.tape, HK.out.2.2.output, HK.out.2.2.size, HK.out.2.2.block⟩
      rw [← hw9]
      exact ⟨hz.set12 _, HK.out.2.1.same fun k hk => Below.heap_setCell _ _ _ _ (fun e => HK.out.1.ne HK.out.2.1 (by decide) (by rw [hk, e])), hf.snoc _ _⟩
    rw [hw9]
    obtain ⟨x0, x1, x2, x7, x8, x9, x10, x11, x12, xf⟩ := HK1.out.1.cells
    obtain ⟨w10, hw10⟩ : ∃ w10, w9.setCell ⟨p, 2, none⟩ (.int .i64 ((s : Int) + N)) = w10 := ⟨_, rfl⟩
    have HK2 : Hid (CC w10 p 3 er ((s : Int) + N) X kd n (.slice a7 (D.length + N) c7) bg en (S'.toNat : Int) ∧ Sl w10 5 (.slice a7 (D.length + N) c7) g7 (vals (D ++ bs.take N)) ∧ Fr w w10 p g) := by
      rw [← hw10]
      exact ⟨HK1.out.1.set2 _, HK1.out.2.1.same fun k hk => Below.heap_setCell _ _ _ _ (fun e => HK1.out.1.ne HK1.out.2.1 (by decide) (by rw [hk, e])), HK1.out.2.2.snoc _ _⟩
    obtain ⟨y0, y1, y2, y7, y8, y9, y10, y11, y12, yf⟩ := HK2.out.1.cells
    have E : Hid (∀ _j : Nat, Calls Tryz.prog 50 #[.pointer (some ⟨p, 0, none⟩), .int .i64 4] w10.drew fun e w' => e = .returned (.tuple #[]) ∧ CC w' p 4 er 0 X kd n (.slice a7 (D.length + N) c7) bg en (S'.toNat : Int) ∧ Fr w10.drew w' p none) := fun _ => enter_any 4 (HK2.out.1.same rfl)
    clear HK HK1 HM8 hw8 hw9
    by_cases hE : s + N = n
    · have hEi : (s : Int) + N = (n : Int) := by omega
      rw [hEi] at hw10 y2
      have HQ : Hid (∀ w12, CC w12 p 4 er 0 X kd n (.slice a7 (D.length + N) c7) bg en (S'.toNat : Int) → Fr w10.drew w12 p none → DtPost B w p er s n X kd (.slice ap D.length cp) g D bg en S bs (.returned (.slice (if c = N then av else Option.map (fun x => x.add N) av) (m - N) (c - N))) w12) := by
        intro w12 h12 f12
        have fA : Fr w w12 p g := HK2.out.2.2.trans (⟨f12.os, f12.tape, f12.output, f12.size, fun k hk h1 _ => f12.block k hk h1 (by simp)⟩ : Fr w10 w12 p g) (.inl rfl)
        refine ⟨N, _, g7, _, _, by rw [hm, hN], by rw [hm], HRs.out w12 fA, ?_, HK2.out.2.1.same (fun k hk => f12.block k (HK2.out.2.1.lt hk) (fun e => HK2.out.1.ne HK2.out.2.1 (by decide) (by rw [hk, e])) (by simp)), hg7, fA, HNL.out⟩
        rw [if_pos hE, if_pos hE, HSS.out]
        exact h12
      clear HRs HR
      by_cases hcN : c = N
      · have hm0 : m - N = 0 := by omega
        rw [if_pos hcN, show c - N = 0 by omega, hm0] at HQ
        obtain rfl : N = c := hcN.symm
        go_wp2
        go_region
        go_wp2_with (go_at_call 50; refine (E.out 1).mono ?_; rintro e w12 ⟨rfl, h12, f12⟩)
        go_ret
        exact HQ.out w12 h12 f12
      · rw [if_neg hcN] at HQ
        go_wp2
        go_region
        go_wp2_with (go_at_call 50; refine (E.out 1).mono ?_; rintro e w12 ⟨rfl, h12, f12⟩)
        go_ret
        exact HQ.out w12 h12 f12
    · have hEi : ¬ (s : Int) + N = (n : Int) := by omega
      have HQ : Hid (∀ w12, CC w12 p 3 er ((s + N : Nat) : Int) X kd n (.slice a7 (D.length + N) c7) bg en (S'.toNat : Int) → Fr w10.drew w12 p none → DtPost B w p er s n X kd (.slice ap D.length cp) g D bg en S bs (.returned (.slice (if c = N then av else Option.map (fun x => x.add N) av) (m - N) (c - N))) w12) := by
        intro w12 h12 f12
        have fA : Fr w w12 p g := HK2.out.2.2.trans (⟨f12.os, f12.tape, f12.output, f12.size, fun k hk h1 _ => f12.block k hk h1 (by simp)⟩ : Fr w10 w12 p g) (.inl rfl)
        refine ⟨N, _, g7, _, _, by rw [hm, hN], by rw [hm], HRs.out w12 fA, ?_, HK2.out.2.1.same (fun k hk => f12.block k (HK2.out.2.1.lt hk) (fun e => HK2.out.1.ne HK2.out.2.1 (by decide) (by rw [hk, e])) (by simp)), hg7, fA, HNL.out⟩
        rw [if_neg hE, if_neg hE, HSS.out]
        exact h12
      clear HRs HR
      by_cases hcN : c = N
      · have hm0 : m - N = 0 := by omega
        rw [if_pos hcN, show c - N = 0 by omega, hm0] at HQ
        obtain rfl : N = c := hcN.symm
        go_wp2
        go_region
        go_wp2
        go_ret
        exact HQ.out _ (HK2.out.1.same rfl) ⟨rfl, rfl, rfl, Nat.le_refl _, fun _ _ _ _ => rfl⟩
      · rw [if_neg hcN] at HQ
        go_wp2
        go_region
        go_wp2
        go_ret
        exact HQ.out _ (HK2.out.1.same rfl) ⟨rfl, rfl, rfl, Nat.le_refl _, fun _ _ _ _ => rfl⟩
end
end Go.Proofs.YtpjcdfinlclhoaaGreatDoor
