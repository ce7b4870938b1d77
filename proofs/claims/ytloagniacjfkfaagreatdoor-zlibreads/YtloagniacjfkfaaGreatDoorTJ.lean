/- Joined: Ro6 Rp6. -/
import Derived.Test.YtloagniacjfkfaaGreatDoorTI
/- The document's run over all blocks: what stands beside the machine. -/
namespace Go.Proofs.YtloagniacjfkfaaGreatDoor
open Go.RowKit
theorem wpList_more_int {w : World} {ops : Array Oper} {rest : List Oper} {o : Oper} {a : Act} {Q : Exit → Act → World → Prop} (hgd : o.guard = none) (s x : Operand)
    (ho : o.op = .call { callee := .builtin .append, args := #[s, x], argTypes := #[57, 57] })
    (wr : World) (z : Int) (hw : w = wr.alloc (.cells #[.int .i64 z] 3)) (v : Value) (g : Option Nat) (l : List Int) (hs : a.eval s = v) (hsl : Sl wr 3 v g (ivals l)) (hx : a.eval x = .slice (some ⟨wr.heap.size, 0, none⟩) 1 1)
    (hlen : l.length ≤ 1000000)
    (h : ∀ v' w' g', Sl w' 3 v' g' (ivals (l ++ [z])) → (g' = g ∨ ∃ k, g' = some k ∧ wr.heap.size ≤ k) → w.grownBy w' g → wpList Tryz.prog ops Q rest (a.put o.dst v') w') : wpList Tryz.prog ops Q (o :: rest) a w := by
  subst hw
  obtain ⟨i0, hi, hz0, hz1, hz2⟩ := info_parts Tryz.info3
  refine wpList_append_sl hgd s x _ ho 3 i0 (.int .i64 0) 8 Tryz.underlying57 hi hz0 hz1 hz2 rfl v g (ivals l) hs (hsl.same fun q hq => Below.heap_alloc wr _ q (hsl.lt hq)) ⟨wr.heap.size, 0, none⟩ 1 1 [.int .i64 z] hx rfl (cell_one_new _ _ _) (by intro y hy; simp at hy; subst hy; rfl) (by rw [ivals_len]; omega) (by rw [ivals_len]; unfold maxLen; omega) ?_
  intro v' w' g' h1 h2 h3
  refine h v' w' g' (by rw [ivals_append]; exact h1) ?_ h3
  rcases h2 with e | ⟨q, e, hq⟩
  · exact .inl e
  · refine .inr ⟨q, e, ?_⟩
    simp at hq
    omega
section
variable {limN : Nat} {s s1 : St} {l B out : List Int}
theorem Says.sub {l1 : List Int} {last : Bool} {E : Int} (h : Sub limN s l s1 l1) (h1 : Says limN s1 l1 last E out B) : Says limN s l last E out B := by
  refine ⟨fun e => ⟨Nat.le_trans (h1.1 e).1 h.2, ?_⟩, fun e => ?_, fun e e2 => h.1 _ (h1.2.2 e e2)⟩
  · have := (h1.1 e).2
    cases last with
    | true => obtain ⟨s2, a, b, c⟩ := this; exact ⟨s2, a, b, h.1 _ c⟩
    | false => obtain ⟨s2, a, b, c⟩ := this; exact ⟨s2, a, b, fun r hr => h.1 _ (c r hr)⟩
  · obtain ⟨s2, l2, a, b, c⟩ := h1.2.1 e
    exact ⟨s2, l2, a, b, h.1 _ c⟩
theorem head_said (hs : Sub limN s l s1 B) (h0 : s1.now = 0) (ho : s1.out = out) :
    (B.length < 3 → ∃ (s2 : St) (l2 : List Int), s2.now ≤ 10 ∧ s2.out = out ∧ Runs limN s l (.stop s2 l2)) ∧
    (3 ≤ B.length → (bV B 1 2 = 0 → ∃ s2 : St, s2.now = 1 ∧ s2.out = out ∧ s2.last = decide (bV B 0 1 = 1) ∧ Sub limN s l s2 ((B.drop 3).drop ((B.drop 3).length % 8))) ∧
      (bV B 1 2 = 1 → ∃ s2 : St, s2.now = 7 ∧ s2.la = some fixL ∧ s2.da = some fixD ∧ s2.out = out ∧ s2.last = decide (bV B 0 1 = 1) ∧ Sub limN s l s2 (B.drop 3)) ∧
      (bV B 1 2 = 2 → ∃ s2 : St, s2.now = 3 ∧ s2.out = out ∧ s2.last = decide (bV B 0 1 = 1) ∧ Sub limN s l s2 (B.drop 3)) ∧
      (2 < bV B 1 2 → Runs limN s l (.fail 3 out))) := by
  subst ho
  have hi : item limN s1 B = itHead s1 B := by unfold item; rw [h0]; rfl
  unfold itHead at hi
  refine ⟨fun h => ?_, fun h => ⟨fun k => ?_, fun k => ?_, fun k => ?_, fun k => ?_⟩⟩
  · rw [if_pos h] at hi
    exact ⟨s1, B, by omega, rfl, hs.1 _ (.short (by omega) hi)⟩
  · rw [if_neg (by omega), if_pos k] at hi
    have := hs.ok (by omega) hi
    rw [List.drop_drop, List.length_drop]
    refine ⟨_, ?_, ?_, ?_, this⟩ <;> rfl
  · rw [if_neg (by omega), if_neg (by omega), if_pos k] at hi
    have := hs.ok (by omega) hi
    refine ⟨_, ?_, ?_, ?_, ?_, ?_, this⟩ <;> rfl
  · rw [if_neg (by omega), if_neg (by omega), if_neg (by omega), if_pos k] at hi
    have := hs.ok (by omega) hi
    refine ⟨_, ?_, ?_, ?_, this⟩ <;> rfl
  · rw [if_neg (by omega), if_neg (by omega), if_neg (by omega), if_neg (by omega)] at hi
    exact hs.1 _ (.bad (by omega) hi)
/-- What a run that has ended tells. -/
def OfE (limN : Nat) (l out B : List Int) (E : Int) (dn : Bool) : Prop :=
  (dn = true → E = 0 ∧ ∃ s1 : St, s1.now = 11 ∧ s1.out = out ∧ Runs limN St.start l (.stop s1 (B.drop (B.length % 8)))) ∧
  (dn = false → E = 2 → ∃ (s1 : St) (l1 : List Int), s1.now ≤ 10 ∧ s1.out = out ∧ Runs limN St.start l (.stop s1 l1)) ∧ (dn = false → E ≠ 0 → E ≠ 2 → Runs limN St.start l (.fail E out))
theorem OfE.of {E : Int} {last : Bool} (h : Says limN St.start l last E out B) : OfE limN l out B E (last && decide (E = 0)) ∧ ((last && decide (E = 0)) = false → E = 0 → ∃ s1 : St, s1.now = 0 ∧ s1.out = out ∧ Sub limN St.start l s1 B) := by
  refine ⟨⟨fun h1 => ?_, fun h1 h2 => h.2.1 h2, fun h1 h2 h3 => h.2.2 h2 h3⟩, fun h1 h2 => ?_⟩
  · simp only [Bool.and_eq_true, decide_eq_true_eq] at h1
    obtain ⟨rfl, h2⟩ := h1
    exact ⟨h2, (h.1 h2).2⟩
  · subst h2
    have : last = false := by simpa using h1
    subst this
    obtain ⟨e0, s1, a, b, c⟩ := h.1 rfl
    exact ⟨s1, a, b, c, e0⟩
end
section
variable {w : World} {r : Nat} {vb vo vk : Value} {all lim E : Int} {dn : Bool} {gb go gq : Option Nat} {B out : List Int}
theorem RunC.set5 (h : RunC w r vb vo vk all lim E dn) (b : Bool) : RunC (w.setCell ⟨r, 5, none⟩ (.bool b)) r vb vo vk all lim E b := by
  unfold RunC at h ⊢
  rw [heap_setCell_same w r 5 _ _ _ h]
  rfl
theorem RunC.set6 (h : RunC w r vb vo vk all lim E dn) (v : Value) : RunC (w.setCell ⟨r, 6, none⟩ v) r vb vo v all lim E dn := by
  unfold RunC at h ⊢
  rw [heap_setCell_same w r 6 _ _ _ h]
  rfl
theorem RunAt.setD (h : RunAt w r gb go gq B out lim E dn) (b : Bool) : RunAt (w.setCell ⟨r, 5, none⟩ (.bool b)) r gb go gq B out lim E b := by
  obtain ⟨vb, vo, vk, all, ks, h1, h2, h3, h4, h5⟩ := h
  exact ⟨vb, vo, vk, all, ks, h1.set5 b, h2.same fun k hk => Below.heap_setCell _ _ _ _ (h1.ne h2 (by decide) k hk), h3.same fun k hk => Below.heap_setCell _ _ _ _ (h1.ne h3 (by decide) k hk), h4.same fun k hk => Below.heap_setCell _ _ _ _ (h1.ne h4 (by decide) k hk), h5⟩
end
end Go.Proofs.YtloagniacjfkfaaGreatDoor
/- The document's run over all blocks. -/
namespace Go.Proofs.YtloagniacjfkfaaGreatDoor
open Go.RowKit
section
variable {w : World} {r : Nat} {gb go gq : Option Nat} {B out : List Int} {lim : Int} {dn : Bool}
/-- Between two blocks. -/
def OfR (w : World) (r : Nat) (gb : Option Nat) (lim : Int) (l : List Int) (fu : Nat) (wr : World) : Prop :=
  ∃ go gq B out E dn, RunAt wr r gb go gq B out lim E dn ∧ out.length ≤ lim.toNat ∧ Bit B ∧ B.length ≤ 1000000 ∧ Below w.heap.size w wr ∧ (∀ k, go = some k → w.heap.size ≤ k) ∧ (∀ k, gq = some k → w.heap.size ≤ k) ∧ OfE lim.toNat l out B E dn ∧
    (E = 0 → dn = false → B.length + 1 ≤ fu ∧ B.length ≤ 100000 ∧ ∃ s1 : St, s1.now = 0 ∧ s1.out = out ∧ Sub lim.toNat St.start l s1 B)
def OfPost (w : World) (lim : Int) (l : List Int) (e : Ending) (w' : World) : Prop :=
  ∃ r gb go gq B out E dn, e = .returned (.pointer (some ⟨r, 0, none⟩)) ∧ w.heap.size ≤ r ∧ RunAt w' r gb go gq B out lim E dn ∧ out.length ≤ lim.toNat ∧ Bit B ∧ B.length ≤ 1000000 ∧ Below w.heap.size w w' ∧ OfE lim.toNat l out B E dn ∧ (dn = false → E ≠ 0)
/-- A block's work, behind the switch. -/
def SwB (w : World) (r : Nat) (gb gq : Option Nat) (lim : Int) (l : List Int) (last : Bool) (m : Nat) (wr : World) : Prop :=
  ∃ go B out E, RunAt wr r gb go gq B out lim E false ∧ Says lim.toNat St.start l last E out B ∧ out.length ≤ lim.toNat ∧ Bit B ∧ B.length ≤ 1000000 ∧ (E = 0 → B.length ≤ m) ∧ Below w.heap.size w wr ∧ (∀ k, go = some k → w.heap.size ≤ k)
theorem SwB.of {s2 : St} {l l2 : List Int} {m : Nat} {w5 wx : World} (hsub : Sub lim.toNat St.start l s2 l2) (h : BkPost w5 r gb go gq lim false s2 l2 (.returned (.tuple #[])) wx) (hb : Below w.heap.size w w5) (hr : w.heap.size ≤ r) (hgo : ∀ k, go = some k → w.heap.size ≤ k) (hm : l2.length ≤ m) : SwB w r gb gq lim l s2.last m wx := by
  obtain ⟨_, go', B', out', E', k1, k2, k3, k4, k5, k6, k7⟩ := h
  refine ⟨go', B', out', E', k1, Says.sub hsub k2, k3, k4, k5, fun e => Nat.le_trans (k2.1 e).1 hm, Fr.below hb k6 hr hgo hb.size, fun k hk => ?_⟩
  rcases k7 with e | ⟨j, e, hj⟩
  · exact hgo k (by rw [← e]; exact hk)
  · rw [e] at hk; cases hk; exact Nat.le_trans hb.size hj
set_option maxHeartbeats 6400000 in
set_option maxRecDepth 20000 in
theorem rofI_any (a : Option Addr) (n cap : Nat) (zs : List Int) (lim : Int) (w : World) (hn : zs.length = n) (hs : n ≤ 6000) (hb : Bytes zs) (hr : Row w a zs) (hlim : lim ≤ 1000000) :
    Calls Tryz.prog 25 #[.slice a n cap, .int .i64 lim] w fun e w' => OfPost w lim (bitsL zs) e w' := by
  have HB := bits_any a n cap zs w hn hs hb hr
  obtain ⟨l, hl⟩ : ∃ l, bitsL zs = l := ⟨_, rfl⟩
  have hbl : Bit l := by rw [← hl]; exact bitsL_bit zs
  have hll : l.length ≤ 48000 := by rw [← hl, bitsL_len]; omega
  rw [hl] at HB ⊢
  clear hl hr
  go_enter Tryz.func25, Tryz.ntmps25
  go_wp2_with fail
  refine HB.mono ?_
  rintro e w1 ⟨ab, cb, gb, rfl, hsl, hgb, hbe⟩
  obtain ⟨R, hR⟩ : ∃ R, w1.heap.size = R := ⟨_, rfl⟩
  have H0 : Hid (OfR w R gb lim l (l.length + 1) (w1.alloc (.cells #[.slice ab l.length cb, .int .i64 0, .slice none 0 0, .int .i64 lim, .int .i64 0, .bool false, .slice none 0 0] 59))) := by
    have hba : Below w1.heap.size w1 (w1.alloc (.cells #[.slice ab l.length cb, .int .i64 0, .slice none 0 0, .int .i64 lim, .int .i64 0, .bool false, .slice none 0 0] 59)) := (Below.refl _ _).alloc (Nat.le_refl _) _
    refine ⟨none, none, l, [], 0, false, ⟨_, _, _, 0, [], by rw [← hR]; exact heap_alloc_new _ _, hsl.same fun k hk => hba.block k (hsl.lt hk), Sl.nil _ _, Sl.nil _ _, .inl rfl, by simp; omega⟩, Nat.zero_le _, hbl, by omega, hbe.trans (hba.mono hbe.size), (by intro k hk; cases hk), (by intro k hk; cases hk), ⟨(fun h => by cases h), (fun _ h => by cases h), fun _ h => absurd rfl h⟩, fun _ _ => ⟨Nat.le_refl _, by omega, St.start, rfl, rfl, Sub.refl _ _ _⟩⟩
  have HG : Hid (w.heap.size ≤ R ∧ (∀ k, gb = some k → w.heap.size ≤ k)) := ⟨by rw [← hR]; exact hbe.size, hgb⟩
  clear HB hsl hgb hbe
  go_upto_block 0 with fail
  generalize w1.alloc (.cells #[.slice ab l.length cb, .int .i64 0, .slice none 0 0, .int .i64 lim, .int .i64 0, .bool false, .slice none 0 0] 59) = w2 at H0 ⊢
  clear hR
  go_cut [6, 7, 8, 9] (fun _ _ _ _ wx => Hid (OfPost w lim l (.returned (.pointer (some ⟨R, 0, none⟩))) wx))
  case first =>
    go_wp2_with fail
    go_loopg [6, 7, 8, 9] (l.length + 1) (fun fu _ _ _ _ wx => Hid (OfR w R gb lim l fu wx))
    case atStart => exact H0.out
    case round =>
      clear H0
      obtain ⟨go, gq, B, out, E, dn, ra, hol, hbB, hlB, hbe, hgo, hgq, hofe, hgoes⟩ := hrel
      have k4 := ra.cE
      obtain ⟨vb, vo, vk, all, ks, r1, r2, r3, r4, r5⟩ := id ra
      have k5 := r1.cells.2.2.2.2.1
      have k0 := r1.cells.1
      have k6 := r1.cells.2.2.2.2.2.1
      have fz := r1.cells.2.2.2.2.2.2
      by_cases hE : E = 0
      · subst hE
        cases dn with
        | true =>
          have HP : Hid (OfPost w lim l (.returned (.pointer (some ⟨R, 0, none⟩))) wr) := ⟨R, gb, go, gq, B, out, 0, true, rfl, HG.out.1, ra, hol, hbB, hlB, hbe, hofe, (fun h => by cases h)⟩
          clear ra r1 r2 r3 r4 r5 hbe hgo hgq hofe hgoes
          go_wp2
          go_meet
          exact HP.out
        | false =>
          obtain ⟨hfu, hlB2, s1, h0, hso, hsub⟩ := hgoes rfl rfl
          have HHD : Hid _ := head_said hsub h0 hso
          obtain ⟨abx, cbx, hvb, _⟩ := r2.shape
          rw [ivals_len] at hvb
          subst hvb
          by_cases hsh : B.length < 3
          · have hshi : (B.length : Int) < 3 := by omega
            have HP : Hid (OfPost w lim l (.returned (.pointer (some ⟨R, 0, none⟩))) (wr.setCell ⟨R, 4, none⟩ (.int .i64 2))) := by
              refine ⟨R, gb, go, gq, B, out, 2, false, rfl, HG.out.1, ra.setE 2, hol, hbB, hlB, hbe.setCell HG.out.1 _, ⟨(fun h => by cases h), fun _ _ => HHD.out.1 hsh, fun _ _ h => absurd rfl h⟩, fun _ h => by cases h⟩
            clear ra r1 r2 r3 r4 r5 hbe hgo hgq hofe hgoes hsub HHD
            go_wp2
            go_meet
            exact HP.out
          · have hshi : ¬ (B.length : Int) < 3 := by omega
            have HTa := rtake6 1 (by decide) hbB ra
            have HKS : Hid (KsOk gq gb ks B ∧ ∃ ak ck, vk = .slice ak ks.length ck) := ⟨r5, by obtain ⟨x, y, h, _⟩ := r4.shape; rw [ivals_len] at h; exact ⟨x, y, h⟩⟩
            have hc0 := bV_small hbB 0 1
            have hc1 := bV_small hbB 1 2
            obtain ⟨b0, hb0⟩ : ∃ b0, bV B 0 1 = b0 := ⟨_, rfl⟩
            obtain ⟨kd, hkd⟩ : ∃ kd, bV B 1 2 = kd := ⟨_, rfl⟩
            have e1 : tkR 0 B 1 = ((b0 : Int), B.drop 1, 0) := by unfold tkR; rw [if_neg (by decide), if_neg (by omega), hb0]
            have e2 : tkR 0 (B.drop 1) 2 = ((kd : Int), B.drop 3, 0) := by
              unfold tkR
              rw [if_neg (by decide), if_neg (by rw [List.length_drop]; omega), List.drop_drop, ← hkd]
              unfold bV
              rw [List.drop_zero]
            rw [e1] at HTa
            have HE2 : Hid (tkR 0 (B.drop 1) 2 = ((kd : Int), B.drop 3, 0)) := e2
            have HHD2 : Hid _ := HHD.out.2 (by omega)
            rw [hb0, hkd] at HHD2
            have hbk : b0 < 2 ∧ kd < 4 := by rw [hb0] at hc0; rw [hkd] at hc1; exact ⟨by simpa using hc0, by simpa using hc1⟩
            have HM : Hid (out.length ≤ lim.toNat ∧ Below w.heap.size w wr ∧ (∀ k, go = some k → w.heap.size ≤ k) ∧ (∀ k, gq = some k → w.heap.size ≤ k)) := ⟨hol, hbe, hgo, hgq⟩
            clear e1 e2 hb0 hkd hc0 hc1 HHD ra r1 r2 r3 r4 r5 hbe hgo hgq hofe hgoes hsub
            go_wp2_with fail
            refine HTa.mono ?_
            rintro e w3 ⟨⟨rfl, a3, f3⟩, c3⟩
            simp only at a3
            have HTb := rtake6 2 (by decide) (hbB.drop 1) a3
            have HC3 : Hid (w3.cell? ⟨R, 6, none⟩ = some vk) := c3.trans k6
            clear c3
            rw [HE2.out] at HTb
            have HF3 : Hid (Fr wr w3 R none) := f3
            clear HTa a3 f3
            go_wp2_with fail
            refine HTb.mono ?_
            rintro e w4 ⟨⟨rfl, a4, f4⟩, c4⟩
            simp only at a4
            have HC4 : Hid (w4.cell? ⟨R, 6, none⟩ = some vk) := c4.trans HC3.out
            clear c4
            have hb3 := hbB.drop 3
            have hl3 : (B.drop 3).length = B.length - 3 := by rw [List.length_drop]
            obtain ⟨B3, hB3⟩ : ∃ B3, B.drop 3 = B3 := ⟨_, rfl⟩
            rw [hB3] at a4 hb3 hl3 HHD2
            obtain ⟨vb4, vo4, vk4, all4, ks4, g1, g2, g3, g4, g5⟩ := id a4
            have p6 := g1.cells.2.2.2.2.2.1
            have pf := g1.cells.2.2.2.2.2.2
            have HF4 : Hid (Below w.heap.size w w4) := Fr.below (Fr.below HM.out.2.1 HF3.out HG.out.1 (by intro q hq; cases hq) HM.out.2.1.size) f4 HG.out.1 (by intro q hq; cases hq) (Nat.le_trans HM.out.2.1.size HF3.out.size)
            have HG4 : Hid (RunC w4 R vb4 vo4 vk4 all4 lim 0 false ∧ Sl w4 3 vb4 gb (ivals B3) ∧ Sl w4 5 vo4 go (vals out) ∧ Sl w4 3 vk4 gq (ivals ks4) ∧ KsOk gq gb ks4 B3) := ⟨g1, g2, g3, g4, g5⟩
            have HKL : Hid (ks4.length + 1 + B3.length ≤ 200000) := by
              obtain ⟨ak, ck, hvk, _⟩ := g4.shape
              rw [ivals_len] at hvk
              obtain ⟨hk, ax, cx, hx⟩ := HKS.out
              have h1 : some vk = some vk4 := HC4.out.symm.trans p6
              rw [hvk, hx] at h1
              simp only [Option.some.injEq, Value.slice.injEq] at h1
              have := hk.2
              show _ ≤ _
              omega
            obtain ⟨ak, ck, hvk, _⟩ := g4.shape
            rw [ivals_len] at hvk
            subst hvk
            clear HC3 HC4 HKS HTb a4 f4 g1 g2 g3 g4 g5 HF3 HE2 k0 k4 k5 k6 fz hB3
            go_wp2_with (at_builtin; refine wpList_more_int rfl _ _ rfl w4 (kd : Int) rfl (.slice ak ks4.length ck) gq ks4 rfl HG4.out.2.2.2.1 rfl (by have := HG4.out.2.2.2.2.2; omega) ?_)
            intro v5 w5 gq5 hsl5 hg5 hgr5
            obtain ⟨a5, c5, hv5, -⟩ := hsl5.shape
            obtain ⟨z5, hz5⟩ : ∃ z, v5 = .slice a5 z c5 := ⟨_, hv5⟩
            clear hv5
            subst hz5
            have hr5 : RunC w5 R vb4 vo4 (.slice ak ks4.length ck) all4 lim 0 false := HG4.out.1.same ((hgr5.block R (by have := HG4.out.1.lt; simp; omega) (fun e => HG4.out.1.ne HG4.out.2.2.2.1 (by decide) R e.symm rfl)).trans (Below.heap_alloc _ _ _ HG4.out.1.lt))
            have p6' := hr5.cells.2.2.2.2.2.1
            have pf' := hr5.cells.2.2.2.2.2.2
            have HW5 : Hid (RunAt (w5.setCell ⟨R, 6, none⟩ (.slice a5 z5 c5)) R gb go gq5 B3 out lim 0 false ∧ Below w.heap.size w (w5.setCell ⟨R, 6, none⟩ (.slice a5 z5 c5)) ∧ (∀ k, gq5 = some k → w.heap.size ≤ k)) := by
              obtain ⟨d1, d2, d3, d4, d5⟩ := HG4.out
              have n2 := d1.ne d2 (by decide)
              have n3 := d1.ne d3 (by decide)
              have old : ∀ k, k < w4.heap.size → some k ≠ gq → k ≠ R → (w5.setCell ⟨R, 6, none⟩ (.slice a5 z5 c5)).heap[k]? = w4.heap[k]? := fun k hk h1 h2 => by
                rw [Below.heap_setCell _ _ _ _ h2]
                exact (hgr5.block k (by simp; omega) h1).trans (Below.heap_alloc _ _ _ hk)
              have hgs := hgr5.size
              simp at hgs
              have hgq5 : ∀ k, gq5 = some k → k ≠ R := by
                intro k hk e
                rcases hg5 with e2 | ⟨j, e2, hj⟩
                · exact d1.ne d4 (by decide) k (e2 ▸ hk) e
                · rw [e2] at hk; cases hk; have := d1.lt; omega
              refine ⟨⟨_, _, _, all4, ks4 ++ [(kd : Int)], hr5.set6 _, d2.same fun k hk => old k (d2.lt hk) ?_ (n2 k hk), d3.same fun k hk => old k (d3.lt hk) (fun e => Sl.ne d3 d4 (by decide) k hk e.symm) (n3 k hk), hsl5.same fun k hk => Below.heap_setCell _ _ _ _ (hgq5 k hk), ?_, ?_⟩, ?_, ?_⟩
              · intro e
                rcases d5.1 with h | h
                · rw [h] at e; cases e
                · exact h (by rw [← e, hk])
              · rcases hg5 with e2 | ⟨j, e2, hj⟩
                · rw [e2]; exact d5.1
                · refine .inr fun e => ?_
                  have := d2.lt (e.symm.trans e2)
                  omega
              · rw [List.length_append, List.length_singleton]
                exact HKL.out
              · refine ⟨hgr5.os.trans HF4.out.os, hgr5.tape.trans HF4.out.tape, hgr5.output.trans HF4.out.output, ?_, fun k hk => ?_⟩
                · have := HF4.out.size
                  simp only [World.setCell, Array.size_modify]
                  omega
                · have h1 := HF4.out.size
                  refine (old k (by omega) (fun e => ?_) (by have := HG.out.1; omega)).trans (HF4.out.block k hk)
                  have := HM.out.2.2.2 k e.symm
                  omega
              · intro k hk
                rcases hg5 with e2 | ⟨j, e2, hj⟩
                · exact HM.out.2.2.2 k (e2 ▸ hk)
                · rw [e2] at hk; cases hk
                  have := HF4.out.size
                  omega
            clear hsl5 hg5 hgr5 hr5 HG4 HF4 p6 pf
            go_upto_block 2 with fail
            generalize w5.setCell ⟨R, 6, none⟩ (.slice a5 z5 c5) = w6 at HW5 ⊢
            clear p6' pf'
            have hlm : B3.length ≤ B.length - 3 := by omega
            go_cut [8, 9] (fun _ _ wx => Hid (SwB w R gb gq5 lim l (decide (b0 = 1)) (B.length - 3) wx))
            case first =>
              rcases (show kd = 0 ∨ kd = 1 ∨ kd = 2 ∨ kd = 3 by omega) with rfl | rfl | rfl | rfl
              · obtain ⟨s2, j1, j2, j3, j4⟩ := HHD2.out.1 rfl
                have HBk := rstored_any s2 j1 j2 HM.out.1 hlim hb3 (by omega) HW5.out.1
                have HPS : Hid (∀ wx, BkPost w6 R gb go gq5 lim false s2 (B3.drop (B3.length % 8)) (.returned (.tuple #[])) wx → SwB w R gb gq5 lim l (decide (b0 = 1)) (B.length - 3) wx) := by
                  intro wx h
                  rw [← j3]
                  exact SwB.of j4 h HW5.out.2.1 HG.out.1 HM.out.2.2.1 (by rw [List.length_drop]; omega)
                clear j1 j2 j3 j4 HHD2
                go_wp2_with fail
                refine HBk.mono ?_
                rintro e wx hp
                obtain rfl := hp.1
                have HP : Hid _ := HPS.out wx hp
                clear HBk hp HPS
                go_wp2
                go_meet
                exact HP.out
              · obtain ⟨s2, j1, j1a, j1b, j2, j3, j4⟩ := HHD2.out.2.1 rfl
                have HFx := rfixed_any w6
                go_wp2_with fail
                refine HFx.mono ?_
                rintro e w7 ⟨b1, b2, rfl, x1, x2, x3, x4, x5⟩
                have HBk := rsymbols_any s2 fixL fixD (some ⟨b1, 0, none⟩) (some ⟨b2, 0, none⟩) 288 288 32 32 j1 j1a j1b j2 HM.out.1 hlim hb3 (by omega) fixL_cd fixD_cd (by decide) (by decide) x3.irow x4.irow (HW5.out.1.old x5)
                have HPS : Hid (∀ wx, BkPost w7 R gb go gq5 lim false s2 B3 (.returned (.tuple #[])) wx → SwB w R gb gq5 lim l (decide (b0 = 1)) (B.length - 3) wx) := by
                  intro wx h
                  rw [← j3]
                  exact SwB.of j4 h (HW5.out.2.1.trans (x5.mono HW5.out.2.1.size)) HG.out.1 HM.out.2.2.1 hlm
                clear j1 j1a j1b j2 j3 j4 HHD2 HFx x1 x2 x3 x4 x5
                go_wp2_with fail
                refine HBk.mono ?_
                rintro e wx hp
                obtain rfl := hp.1
                have HP : Hid _ := HPS.out wx hp
                clear HBk hp HPS
                go_wp2
                go_meet
                exact HP.out
              · obtain ⟨s2, j1, j2, j3, j4⟩ := HHD2.out.2.2.1 rfl
                have HTd := rtold_any s2 j1 j2 hb3 (by omega) HW5.out.1
                have HJ : Hid (s2.last = decide (b0 = 1) ∧ Sub lim.toNat St.start l s2 B3) := ⟨j3, j4⟩
                clear j1 j2 j3 j4 HHD2
                go_wp2_with fail
                refine HTd.mono ?_
                rintro e w7 ⟨a1, n1, c1, a2, n2, c2, B7, E7, rfl, y1, y2, y3, y4, y5, y6⟩
                have q4 := y1.cE
                have HB7 : Hid (Below w.heap.size w w7) := Fr.below HW5.out.2.1 y4 HG.out.1 (by intro q hq; cases hq) HW5.out.2.1.size
                by_cases hE7 : E7 = 0
                · subst hE7
                  obtain ⟨ns1, ns2, z1, z2, z3, z4, z5, z6, s3, z7, z8, z9, z10, z11, z12⟩ := y6 rfl
                  have HBk := rsymbols_any s3 ns1 ns2 a1 a2 n1 c1 n2 c2 z7 z8 z9 z10 HM.out.1 hlim y2 (by omega) z3 z4 z1 z2 z5 z6 y1
                  have HPS : Hid (∀ wx, BkPost w7 R gb go gq5 lim false s3 B7 (.returned (.tuple #[])) wx → SwB w R gb gq5 lim l (decide (b0 = 1)) (B.length - 3) wx) := by
                    intro wx h
                    rw [← HJ.out.1, ← z11]
                    exact SwB.of ⟨fun r hr => HJ.out.2.1 r (z12.1 r hr), Nat.le_trans z12.2 HJ.out.2.2⟩ h HB7.out HG.out.1 HM.out.2.2.1 (by omega)
                  clear HTd y1 y4 y5 y6 z1 z2 z3 z4 z5 z6 z7 z8 z9 z10 z11 z12
                  go_wp2_with fail
                  refine HBk.mono ?_
                  rintro e wx hp
                  obtain rfl := hp.1
                  have HP : Hid _ := HPS.out wx hp
                  clear HBk hp HPS
                  go_wp2
                  go_meet
                  exact HP.out
                · have hE7b : (E7 == 0) = false := by simpa using hE7
                  have HP : Hid (SwB w R gb gq5 lim l (decide (b0 = 1)) (B.length - 3) w7) := by
                    refine ⟨go, B7, out, E7, y1, ?_, HM.out.1, y2, by clear y5 y6 hE7 hE7b q4; omega, fun e => absurd e hE7, HB7.out, HM.out.2.2.1⟩
                    rw [← HJ.out.1]
                    exact Says.sub HJ.out.2 (y5 hE7 B7)
                  clear HTd y1 y4 y5 y6
                  go_wp2
                  go_meet
                  exact HP.out
              · have HP : Hid (SwB w R gb gq5 lim l (decide (b0 = 1)) (B.length - 3) (w6.setCell ⟨R, 4, none⟩ (.int .i64 3))) :=
                  ⟨go, B3, out, 3, HW5.out.1.setE 3, Says.bad (HHD2.out.2.2.2 (by decide)) (by decide) (by decide), HM.out.1, hb3, by omega, (fun e => by cases e), HW5.out.2.1.setCell HG.out.1 _, HM.out.2.2.1⟩
                have q4 := HW5.out.1.cE
                obtain ⟨abz, cbz, _, fzz⟩ := HW5.out.1.cB
                clear HHD2
                go_wp2
                go_meet
                exact HP.out
            case rest =>
              obtain ⟨go8, B8, out8, E8, v1, v2, v3, v4, v5, v6, v7, v8⟩ := hcut
              have q4 := v1.cE
              obtain ⟨abz, cbz, _, fzz⟩ := v1.cB
              obtain ⟨vb8, vo8, vk8, all8, ks8, t1, -⟩ := id v1
              have q5 := t1.cells.2.2.2.2.1
              have HN : Hid (∀ d fu, d = (decide (b0 = 1) && decide (E8 = 0)) → (E8 = 0 → d = false → B8.length + 1 ≤ fu) → OfR w R gb lim l fu (wc.setCell ⟨R, 5, none⟩ (.bool d))) := by
                rintro d fu rfl hf
                have ho := OfE.of v2
                exact ⟨go8, gq5, B8, out8, E8, _, v1.setD _, v3, v4, v5, v7.setCell HG.out.1 _, v8, HW5.out.2.2, ho.1, fun e0 e1 => ⟨hf e0 e1, by have := v6 e0; omega, ho.2 e1 e0⟩⟩
              have hm8 : E8 = 0 → B8.length ≤ B.length - 3 := v6
              clear t1 v1 v2 v3 v4 v5 v6 v7 v8 HW5 HHD2
              by_cases h1 : b0 = 1
              · subst h1
                by_cases hE8 : E8 = 0
                · subst hE8
                  have HN1 : Hid _ := HN.out true 0 rfl (fun _ h => by cases h)
                  clear HN hm8
                  go_wp2
                  go_roundg 0
                  case rel => exact HN1.out
                  case measure => omega
                · have hE8b : (E8 == 0) = false := by simpa using hE8
                  have HN1 : Hid _ := HN.out false 0 (by simp [hE8]) (fun h => absurd h hE8)
                  clear HN hm8
                  go_wp2
                  go_roundg 0
                  case rel => exact HN1.out
                  case measure => omega
              · have h1b : ((b0 : Int) == 1) = false := by simp; omega
                have hd1 : decide (b0 = 1) = false := by simpa using h1
                by_cases hE8 : E8 = 0
                · have hm9 := hm8 hE8
                  have HN1 : Hid _ := HN.out false (B8.length + 1) (by rw [hd1]; rfl) (fun _ _ => Nat.le_refl _)
                  clear HN hm8 hE8 q4
                  go_wp2
                  go_roundg (B8.length + 1)
                  case rel => exact HN1.out
                  case measure => omega
                · have HN1 : Hid _ := HN.out false 0 (by rw [hd1]; rfl) (fun h => absurd h hE8)
                  clear HN hm8 hE8 q4
                  go_wp2
                  go_roundg 0
                  case rel => exact HN1.out
                  case measure => omega
      · have hEb : (E == 0) = false := by simpa using hE
        have HP : Hid (OfPost w lim l (.returned (.pointer (some ⟨R, 0, none⟩))) wr) := ⟨R, gb, go, gq, B, out, E, dn, rfl, HG.out.1, ra, hol, hbB, hlB, hbe, hofe, fun _ => hE⟩
        clear ra r1 r2 r3 r4 r5 hbe hgo hgq hofe hgoes
        go_wp2
        go_meet
        exact HP.out
  case rest =>
    obtain ⟨HP⟩ : Nonempty (Hid (OfPost w lim l (.returned (.pointer (some ⟨R, 0, none⟩))) wc)) := ⟨hcut⟩
    clear hcut
    go_wp2
    go_ret
    exact HP.out
end
end Go.Proofs.YtloagniacjfkfaaGreatDoor
