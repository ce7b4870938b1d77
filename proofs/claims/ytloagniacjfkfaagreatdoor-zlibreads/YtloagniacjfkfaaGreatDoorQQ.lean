/- Joined: Yd Ye Jr Jy. -/
import Derived.Test.YtloagniacjfkfaaGreatDoorQP
import Derived.Test.YtloagniacjfkfaaGreatDoorQN
/- zlib: the head is read. -/
namespace Go.Proofs.YtloagniacjfkfaaGreatDoor
open Go.RowKit
theorem Dec.base {base b2 : Nat} {w : World} {d lim : Nat} {L : List Int} {o : Ow} {r : Og} (h : Dec base w d lim L o r) (hb : b2 ≤ base) : Dec b2 w d lim L o r :=
  ⟨h.runs, h.stand, h.t, ⟨Nat.le_trans hb h.fr.d, fun k hk => Nat.le_trans hb (h.fr.g k hk), fun k hk => Nat.le_trans hb (h.fr.q k hk), fun k hk => Nat.le_trans hb (h.fr.t k hk)⟩, h.bit, h.m8⟩
section
variable {w : World} {d : Nat} {now er lim sum tot : Int} {vp vk vr : Value} {gp : Option Nat}
/-- A change of the wrapping's own block leaves the decoder inside as it is. -/
theorem Dec.zset {base : Nat} {p l : Nat} {L : List Int} {o : Ow} {r : Og} (hd : Dec base w p l L o r) (h : ZC w d now er lim vp vk sum tot vr) (i : Nat) (v : Value) : Dec base (w.setCell ⟨d, i, none⟩ v) p l L o r := by
  have tg : ∀ k, (k = p ∨ o.g = some k ∨ o.q = some k) → k ≠ d := by
    rintro k hk rfl
    obtain ⟨⟨c1, e1⟩, e2, e3⟩ := hd.tags
    unfold ZC at h
    rcases hk with e | e | e
    · subst e
      rw [h] at e1
      simp only [Option.some.injEq, Obj.cells.injEq] at e1
      exact absurd e1.2.1 (by decide)
    · obtain ⟨c2, e2⟩ := e2 k e
      rw [h] at e2
      simp only [Option.some.injEq, Obj.cells.injEq] at e2
      exact absurd e2.2.1 (by decide)
    · obtain ⟨c3, e3⟩ := e3 k e
      rw [h] at e3
      simp only [Option.some.injEq, Obj.cells.injEq] at e3
      exact absurd e3.2.1 (by decide)
  refine hd.keep ⟨by simp [World.setCell], fun k hk => ?_⟩ (Below.heap_setCell _ _ _ _ (tg p (.inl rfl))) (fun k hk => Below.heap_setCell _ _ _ _ (tg k (.inr (.inl hk)))) (fun k hk => Below.heap_setCell _ _ _ _ (tg k (.inr (.inr hk))))
  by_cases e : k = d
  · subst e
    exact .inr ⟨_, _, h, .inr (.inr (.inr (.inr ⟨by decide, by decide⟩)))⟩
  · exact .inl (Below.heap_setCell _ _ _ _ e)
theorem adlerOf_nil (w : World) : Calls Tryz.prog 30 #[.slice none 0 0] w fun e w' => e = .returned (.int .u32 1) ∧ w' = w := by
  have := of_any none 0 0 [] w rfl (by decide) Bytes.nil (.inl rfl)
  rw [show adlM 1 [] = 1 by decide] at this
  exact this
/-- What readHead leaves. -/
def RhPost (w : World) (d : Nat) (lim : Int) (sum tot : Int) (vr : Value) (gp : Option Nat) (ps bs : List Int) (av : Option Addr) (c : Nat) (e : Ending) (w' : World) : Prop :=
  Fr w w' d gp ∧
  (ps.length + bs.length < 2 → e = .returned (.slice none 0 0) ∧ ∃ vp' gp', ZC w' d 0 0 lim vp' (.pointer none) sum tot vr ∧ Sl w' 5 vp' gp' (vals (ps ++ bs)) ∧ (gp' = gp ∨ ∃ k, gp' = some k ∧ w.heap.size ≤ k)) ∧
  (2 ≤ ps.length + bs.length → e = .returned (.slice (if c = 2 - ps.length then av else Option.map (fun x => x.add (2 - ps.length)) av) (bs.length - (2 - ps.length)) (c - (2 - ps.length))) ∧
    (zhd (bigN (ps ++ bs.take (2 - ps.length))).toNat = true → ∃ p, w.heap.size ≤ p ∧ ZC w' d 1 0 lim (.slice none 0 0) (.pointer (some ⟨p, 0, none⟩)) 1 tot vr ∧ Dec w.heap.size w' p lim.toNat [] o0 (.stop St.start [])) ∧
    (zhd (bigN (ps ++ bs.take (2 - ps.length))).toNat = false → ZC w' d 0 3 lim (.slice none 0 0) (.pointer none) sum tot vr))
theorem bigN_two {l : List Int} (hb : Bytes l) (hl : l.length = 2) : ∃ v : Nat, bigN l = (v : Int) ∧ v < 65536 := by
  have := bigN_bound hb
  rw [hl] at this
  exact ⟨(bigN l).toNat, by omega, by omega⟩
set_option maxHeartbeats 3200000 in
set_option maxRecDepth 20000 in
theorem zreadHead_any (ps bs : List Int) (av : Option Addr) (m c : Nat) (hm : bs.length = m) (hmc : m ≤ c) (hcm : c ≤ 9223372036854775807) (hc0 : av = none → c = 0) (hrow : Row w av bs) (hbp : Bytes ps) (hbb : Bytes bs) (hps : ps.length < 2) (hlim : lim ≤ 1000000) (hsl : Sl w 5 vp gp (vals ps)) (h : ZC w d 0 0 lim vp (.pointer none) sum tot vr) :
    Calls Tryz.prog 22 #[.pointer (some ⟨d, 0, none⟩), .slice av m c] w fun e w' => RhPost w d lim sum tot vr gp ps bs av c e w' := by
  have HG := gather_any 2 (.inl rfl) ps bs av m c hm hmc hcm hc0 hrow hbp hbb hps hsl h
  have hdl := h.lt
  by_cases hA : ps.length + bs.length < 2
  · clear h hsl hrow
    go_enter Tryz.func22, Tryz.ntmps22
    go_wp2_with fail
    refine HG.mono ?_
    rintro e w1 ⟨f1, g1, g2⟩
    obtain ⟨rfl, g3⟩ := g1 hA
    have HP : Hid (RhPost w d lim sum tot vr gp ps bs av c (.returned (.slice none 0 0)) w1) := ⟨f1, fun _ => ⟨rfl, g3⟩, fun hx => by omega⟩
    clear f1 g1 g2 g3 HG
    go_wp2
    go_ret
    exact HP.out
  · obtain ⟨K, hK⟩ : ∃ K, 2 - ps.length = K := ⟨_, rfl⟩
    obtain ⟨v, hv, hv2⟩ := bigN_two (l := ps ++ bs.take K) (hbp.append fun z hz => hbb z (List.mem_of_mem_take hz)) (by rw [List.length_append, List.length_take]; omega)
    have HK : Hid (2 - ps.length = K ∧ bigN (ps ++ bs.take K) = (v : Int) ∧ bs.length = m) := ⟨hK, hv, hm⟩
    have HH := isHead_any v
    have HHH : Hid _ := HH
    obtain ⟨a2, ha2⟩ : ∃ a2, (if c = K then av else Option.map (fun x => x.add K) av) = a2 := ⟨_, rfl⟩
    have HA2 : Hid ((if c = K then av else Option.map (fun x => x.add K) av) = a2) := ha2
    obtain ⟨Z, hZ⟩ : ∃ Z, zhd v = Z := ⟨_, rfl⟩
    have HZ : Hid (zhd v = Z) := hZ
    clear h hsl hrow HH ha2 hZ
    go_enter Tryz.func22, Tryz.ntmps22
    go_wp2_with fail
    refine HG.mono ?_
    rintro e w1 ⟨f1, g1, g2⟩
    obtain ⟨rfl, g3⟩ := g2 (by omega)
    rw [HK.out.1, HK.out.2.1, HA2.out, HK.out.2.2]
    have H1 : Hid (ZC w1 d 0 0 lim (.slice none 0 0) (.pointer none) sum tot vr ∧ Fr w w1 d gp) := ⟨g3, f1⟩
    obtain ⟨k0, k1, k2, k3, k4, k5, k6, k7, fz⟩ := g3.cells
    clear f1 g1 g2 g3 HG hK hv
    have HRET : Hid (∀ w9, Fr w w9 d gp → (Z = true → ∃ p, w.heap.size ≤ p ∧ ZC w9 d 1 0 lim (.slice none 0 0) (.pointer (some ⟨p, 0, none⟩)) 1 tot vr ∧ Dec w.heap.size w9 p lim.toNat [] o0 (.stop St.start [])) → (Z = false → ZC w9 d 0 3 lim (.slice none 0 0) (.pointer none) sum tot vr) → RhPost w d lim sum tot vr gp ps bs av c (.returned (.slice a2 (m - K) (c - K))) w9) := by
      intro w9 f9 t9 n9
      refine ⟨f9, fun hx => absurd hx hA, fun _ => ⟨by rw [HK.out.1, HA2.out, HK.out.2.2], ?_, ?_⟩⟩
      · rw [HK.out.1, HK.out.2.1, Int.toNat_natCast, HZ.out]; exact t9
      · rw [HK.out.1, HK.out.2.1, Int.toNat_natCast, HZ.out]; exact n9
    cases Z with
    | true =>
      go_wp2_with fail
      refine (HHH.out w1 hv2).mono ?_
      rintro e w2 ⟨rfl, hw2⟩
      rw [hw2, HZ.out]
      clear hw2 w2
      have hz1 := H1.out.1.set0 1
      have HNw := new_any lim (w1.setCell ⟨d, 0, none⟩ (.int .i64 1)) hlim
      have k2' := hz1.cells.2.2.1
      have HZ1 : Hid (ZC (w1.setCell ⟨d, 0, none⟩ (.int .i64 1)) d 1 0 lim (.slice none 0 0) (.pointer none) sum tot vr ∧ Fr w (w1.setCell ⟨d, 0, none⟩ (.int .i64 1)) d gp) := ⟨hz1, H1.out.2.snoc _ _⟩
      clear hz1
      go_wp2_with fail
      refine HNw.mono ?_
      rintro e w3 ⟨rfl, hd3, b3⟩
      have hz3 := HZ1.out.1.same (b3.block d HZ1.out.1.lt)
      obtain ⟨p, hp⟩ : ∃ p, (w1.setCell ⟨d, 0, none⟩ (.int .i64 1)).heap.size = p := ⟨_, rfl⟩
      have hpw : w.heap.size ≤ p := by rw [← hp]; exact HZ1.out.2.size
      have HF3 : Hid (Fr w w3 d gp ∧ Dec w.heap.size w3 p lim.toNat [] o0 (.stop St.start []) ∧ ZC w3 d 1 0 lim (.slice none 0 0) (.pointer none) sum tot vr ∧ w.heap.size ≤ p) := by
        refine ⟨?_, ?_, hz3, hpw⟩
        · exact HZ1.out.2.trans (Fr.of_heap b3) (.inl rfl)
        · rw [hp] at hd3; exact hd3.base hpw
      obtain ⟨q0, q1, q2, q3, q4, q5, q6, q7, qf⟩ := hz3.cells
      rw [hp]
      clear HNw hd3 b3 hz3 hp hpw k0 k1 k2 k3 k4 k5 k6 k7 fz k2'
      have HOf := adlerOf_nil (w3.setCell ⟨d, 4, none⟩ (.pointer (some ⟨p, 0, none⟩)))
      have hz4 := HF3.out.2.2.1.set4 (.pointer (some ⟨p, 0, none⟩))
      obtain ⟨r0, r1, r2, r3, r4, r5, r6, r7, rf⟩ := hz4.cells
      have HP : Hid (RhPost w d lim sum tot vr gp ps bs av c (.returned (.slice a2 (m - K) (c - K))) ((w3.setCell ⟨d, 4, none⟩ (.pointer (some ⟨p, 0, none⟩))).setCell ⟨d, 5, none⟩ (.int .u32 1))) := by
        refine HRET.out _ ((HF3.out.1.snoc _ _).snoc _ _) (fun _ => ⟨p, HF3.out.2.2.2, hz4.set5 1, (HF3.out.2.1.zset HF3.out.2.2.1 _ _).zset hz4 _ _⟩) (fun e => by cases e)
      clear hz4 HF3 HRET
      go_wp2_with fail
      refine HOf.mono ?_
      rintro e w5 ⟨rfl, hw5⟩
      rw [hw5]
      clear hw5 HOf
      go_wp2
      go_ret
      exact HP.out
    | false =>
      go_wp2_with fail
      refine (HHH.out w1 hv2).mono ?_
      rintro e w2 ⟨rfl, hw2⟩
      rw [hw2, HZ.out]
      clear hw2 w2
      have HFl := zfail_any 3 H1.out.1
      go_wp2_with fail
      refine HFl.mono ?_
      rintro e w3 ⟨rfl, z3, f3⟩
      have HP : Hid (RhPost w d lim sum tot vr gp ps bs av c (.returned (.slice a2 (m - K) (c - K))) w3) := HRET.out _ (H1.out.2.trans ⟨f3.os, f3.tape, f3.output, f3.size, fun k hk h1 _ => f3.block k hk h1 (by simp)⟩ (.inl rfl)) (fun e => by cases e) (fun _ => z3)
      clear HFl z3 f3 HRET
      go_wp2
      go_ret
      exact HP.out
end
end Go.Proofs.YtloagniacjfkfaaGreatDoor
/- zlib: the foot is read. -/
namespace Go.Proofs.YtloagniacjfkfaaGreatDoor
open Go.RowKit
section
variable {w : World} {d : Nat} {now er lim sum tot : Int} {vp vk vr : Value} {gp : Option Nat}
/-- What readFoot leaves. -/
def RfPost (w : World) (d : Nat) (lim sum tot : Int) (vr : Value) (gp : Option Nat) (ps bs : List Int) (av : Option Addr) (c : Nat) (e : Ending) (w' : World) : Prop :=
  Fr w w' d gp ∧
  (ps.length + bs.length < 4 → e = .returned (.slice none 0 0) ∧ ∃ vp' gp', ZC w' d 2 0 lim vp' (.pointer none) sum tot vr ∧ Sl w' 5 vp' gp' (vals (ps ++ bs)) ∧ (gp' = gp ∨ ∃ k, gp' = some k ∧ w.heap.size ≤ k)) ∧
  (4 ≤ ps.length + bs.length → e = .returned (.slice (if c = 4 - ps.length then av else Option.map (fun x => x.add (4 - ps.length)) av) (bs.length - (4 - ps.length)) (c - (4 - ps.length))) ∧
    (bigN (ps ++ bs.take (4 - ps.length)) = sum → ZC w' d 3 0 lim (.slice none 0 0) (.pointer none) sum tot vr) ∧
    (bigN (ps ++ bs.take (4 - ps.length)) ≠ sum → ZC w' d 2 4 lim (.slice none 0 0) (.pointer none) sum tot vr))
set_option maxHeartbeats 3200000 in
set_option maxRecDepth 20000 in
theorem zreadFoot_any (ps bs : List Int) (av : Option Addr) (m c : Nat) (hm : bs.length = m) (hmc : m ≤ c) (hcm : c ≤ 9223372036854775807) (hc0 : av = none → c = 0) (hrow : Row w av bs) (hbp : Bytes ps) (hbb : Bytes bs) (hps : ps.length < 4) (hsum : 0 ≤ sum ∧ sum ≤ 4294967295) (hsl : Sl w 5 vp gp (vals ps)) (h : ZC w d 2 0 lim vp (.pointer none) sum tot vr) :
    Calls Tryz.prog 24 #[.pointer (some ⟨d, 0, none⟩), .slice av m c] w fun e w' => RfPost w d lim sum tot vr gp ps bs av c e w' := by
  have HG := gather_any 4 (.inr rfl) ps bs av m c hm hmc hcm hc0 hrow hbp hbb hps hsl h
  by_cases hA : ps.length + bs.length < 4
  · clear h hsl hrow
    go_enter Tryz.func24, Tryz.ntmps24
    go_wp2_with fail
    refine HG.mono ?_
    rintro e w1 ⟨f1, g1, g2⟩
    obtain ⟨rfl, g3⟩ := g1 hA
    have HP : Hid (RfPost w d lim sum tot vr gp ps bs av c (.returned (.slice none 0 0)) w1) := ⟨f1, fun _ => ⟨rfl, g3⟩, fun hx => by omega⟩
    clear f1 g1 g2 g3 HG
    go_wp2
    go_ret
    exact HP.out
  · obtain ⟨K, hK⟩ : ∃ K, 4 - ps.length = K := ⟨_, rfl⟩
    obtain ⟨v, hv⟩ : ∃ v, bigN (ps ++ bs.take K) = v := ⟨_, rfl⟩
    have HK : Hid (4 - ps.length = K ∧ bigN (ps ++ bs.take K) = v ∧ bs.length = m) := ⟨hK, hv, hm⟩
    obtain ⟨a2, ha2⟩ : ∃ a2, (if c = K then av else Option.map (fun x => x.add K) av) = a2 := ⟨_, rfl⟩
    have HA2 : Hid ((if c = K then av else Option.map (fun x => x.add K) av) = a2) := ha2
    clear h hsl hrow ha2
    go_enter Tryz.func24, Tryz.ntmps24
    go_wp2_with fail
    refine HG.mono ?_
    rintro e w1 ⟨f1, g1, g2⟩
    obtain ⟨rfl, g3⟩ := g2 (by omega)
    rw [HK.out.1, HK.out.2.1, HA2.out, HK.out.2.2]
    have H1 : Hid (ZC w1 d 2 0 lim (.slice none 0 0) (.pointer none) sum tot vr ∧ Fr w w1 d gp) := ⟨g3, f1⟩
    obtain ⟨k0, k1, k2, k3, k4, k5, k6, k7, fz⟩ := g3.cells
    have hws : IntKind.i64.wrap sum = sum := by rw [IntKind.wrap_i64]; omega
    clear f1 g1 g2 g3 HG hK hv
    have HRET : Hid (∀ w9, Fr w w9 d gp → (v = sum → ZC w9 d 3 0 lim (.slice none 0 0) (.pointer none) sum tot vr) → (v ≠ sum → ZC w9 d 2 4 lim (.slice none 0 0) (.pointer none) sum tot vr) → RfPost w d lim sum tot vr gp ps bs av c (.returned (.slice a2 (m - K) (c - K))) w9) := by
      intro w9 f9 t9 n9
      refine ⟨f9, fun hx => absurd hx hA, fun _ => ⟨by rw [HK.out.1, HA2.out, HK.out.2.2], ?_, ?_⟩⟩
      · rw [HK.out.1, HK.out.2.1]; exact t9
      · rw [HK.out.1, HK.out.2.1]; exact n9
    by_cases hvs : v = sum
    · subst hvs
      have HP : Hid (RfPost w d lim v tot vr gp ps bs av c (.returned (.slice a2 (m - K) (c - K))) (w1.setCell ⟨d, 0, none⟩ (.int .i64 3))) := HRET.out _ (H1.out.2.snoc _ _) (fun _ => H1.out.1.set0 3) (fun e => absurd rfl e)
      clear HRET
      go_wp2
      go_ret
      exact HP.out
    · have hvb : (v == sum) = false := by simpa using hvs
      have HFl := zfail_any 4 H1.out.1
      go_wp2_with fail
      refine HFl.mono ?_
      rintro e w3 ⟨rfl, z3, f3⟩
      have HP : Hid (RfPost w d lim sum tot vr gp ps bs av c (.returned (.slice a2 (m - K) (c - K))) w3) := HRET.out _ (H1.out.2.trans ⟨f3.os, f3.tape, f3.output, f3.size, fun k hk h1 _ => f3.block k hk h1 (by simp)⟩ (.inl rfl)) (fun e => absurd e hvs) (fun _ => z3)
      clear HFl z3 f3 HRET
      go_wp2
      go_ret
      exact HP.out
end
end Go.Proofs.YtloagniacjfkfaaGreatDoor
/- No more is told than there is room for. -/
namespace Go.Proofs.YtloagniacjfkfaaGreatDoor
open Go.RowKit
theorem cpy_le (lim dist : Nat) : ∀ n out, out.length ≤ lim → (cpy lim dist n out).1.length ≤ lim
  | 0, out, h => h
  | n + 1, out, h => by
    rw [cpy]
    split
    · exact h
    · rename_i he
      exact cpy_le lim dist n _ (by rw [List.length_append, List.length_singleton]; omega)
def Rs.le (lim : Nat) : Rs → Prop
  | .short => True
  | .bad _ o => o.length ≤ lim
  | .ok s _ => s.out.length ≤ lim
theorem endB_le {s : St} {l : List Int} {n lim : Nat} (h : s.out.length ≤ lim) : (endB s l n).le lim := by
  unfold endB
  split <;> exact h
theorem lengL_le {s : St} {v t n lim : Nat} (h : s.out.length ≤ lim) : (lengL s v t n).le lim := by
  unfold lengL endL
  split
  · exact h
  · split
    · exact h
    · split <;> exact h
theorem item_le (lim : Nat) (s : St) (l : List Int) (hr : s.out.length ≤ lim) : (item lim s l).le lim := by
  have ha : ¬ s.out.length = lim → ∀ x : Int, (s.out ++ [x]).length ≤ lim := fun h x => by rw [List.length_append, List.length_singleton]; omega
  unfold item
  split
  · unfold itHead; repeat' split
    all_goals first | trivial | exact hr
  · unfold itSize
    split
    · trivial
    · split
      · exact hr
      · split
        · exact endB_le hr
        · exact hr
  · unfold itStored
    split
    · trivial
    · split
      · exact hr
      · rename_i h
        split
        · exact endB_le (ha h _)
        · exact ha h _
  · unfold itCounts; repeat' split
    all_goals first | trivial | exact hr
  · unfold itCode; repeat' split
    all_goals first | trivial | exact hr
  · unfold itLens
    simp only
    repeat' split
    all_goals first | trivial | exact hr | exact lengL_le hr
  · unfold itAgain
    split
    · trivial
    · exact lengL_le hr
  · unfold itSymbol
    simp only
    repeat' split
    all_goals first | trivial | exact hr | exact endB_le hr | (rename_i h; exact ha h _)
  · unfold itLength; repeat' split
    all_goals first | trivial | exact hr
  · unfold itDist
    simp only
    repeat' split
    all_goals first | trivial | exact hr
  · unfold itFar
    repeat' split
    all_goals first | trivial | exact hr | exact cpy_le _ _ _ _ hr
theorem Runs.le {lim : Nat} {s : St} {l : List Int} {r : Og} (h : Runs lim s l r) : s.out.length ≤ lim → r.out.length ≤ lim := by
  induction h with
  | fin _ => exact id
  | short _ _ => exact id
  | bad h1 h2 =>
    rename_i s l er out
    intro h
    have := item_le lim s l h
    rw [h2] at this; exact this
  | ok h1 h2 _ ih =>
    rename_i s l s1 n r hr
    intro h
    have := item_le lim s l h
    rw [h2] at this; exact ih this
theorem Dec.le {base : Nat} {w : World} {d lim : Nat} {L : List Int} {o : Ow} {r : Og} (h : Dec base w d lim L o r) : r.out.length ≤ lim := h.runs.le (Nat.zero_le _)
theorem Dec.byt {base : Nat} {w : World} {d lim : Nat} {L : List Int} {o : Ow} {s : St} {l : List Int} (h : Dec base w d lim L o (.stop s l)) : Bytes s.out := by
  obtain ⟨a, V, _, ha, _⟩ := h.stand
  exact ha.hold.byt
end Go.Proofs.YtloagniacjfkfaaGreatDoor
/- What is told are bytes. -/
namespace Go.Proofs.YtloagniacjfkfaaGreatDoor
open Go.RowKit
theorem Bytes.getD {l : List Int} (h : Bytes l) (k : Nat) : 0 ≤ l[k]?.getD 0 ∧ l[k]?.getD 0 < 256 := by
  by_cases hk : k < l.length
  · rw [List.getElem?_eq_getElem hk]
    have := h _ (List.getElem_mem hk)
    simpa using this
  · rw [List.getElem?_eq_none (by omega)]
    simp
theorem Bytes.snoc {l : List Int} (h : Bytes l) (x : Int) (h0 : 0 ≤ x) (h1 : x < 256) : Bytes (l ++ [x]) := h.append fun z hz => by rw [List.mem_singleton] at hz; subst hz; exact ⟨h0, h1⟩
theorem cpy_byt (lim dist : Nat) : ∀ n out, Bytes out → Bytes (cpy lim dist n out).1
  | 0, out, h => h
  | n + 1, out, h => by
    rw [cpy]
    split
    · exact h
    · exact cpy_byt lim dist n _ (h.snoc _ (h.getD _).1 (h.getD _).2)
def Rs.byt : Rs → Prop
  | .short => True
  | .bad _ o => Bytes o
  | .ok s _ => Bytes s.out
theorem endB_byt {s : St} {l : List Int} {n : Nat} (h : Bytes s.out) : (endB s l n).byt := by
  unfold endB
  split <;> exact h
theorem lengL_byt {s : St} {v t n : Nat} (h : Bytes s.out) : (lengL s v t n).byt := by
  unfold lengL endL
  split
  · exact h
  · split
    · exact h
    · split <;> exact h
theorem item_byt (lim : Nat) (s : St) (l : List Int) (hb : Bit l) (hr : Bytes s.out) : (item lim s l).byt := by
  have h8 : Bytes (s.out ++ [(bV l 0 8 : Int)]) := by
    have := bV_small hb 0 8
    exact hr.snoc _ (by omega) (by simp at this; omega)
  have hy := nxL_nonneg (s.la.getD []) l
  unfold item
  split
  · unfold itHead; repeat' split
    all_goals first | trivial | exact hr
  · unfold itSize
    split
    · trivial
    · split
      · exact hr
      · split
        · exact endB_byt hr
        · exact hr
  · unfold itStored
    split
    · trivial
    · split
      · exact hr
      · split
        · exact endB_byt h8
        · exact h8
  · unfold itCounts; repeat' split
    all_goals first | trivial | exact hr
  · unfold itCode; repeat' split
    all_goals first | trivial | exact hr
  · unfold itLens
    simp only
    repeat' split
    all_goals first | trivial | exact hr | exact lengL_byt hr
  · unfold itAgain
    split
    · trivial
    · exact lengL_byt hr
  · unfold itSymbol
    simp only
    split
    · trivial
    · split
      · exact hr
      · split
        · rename_i h256
          split
          · exact hr
          · exact hr.snoc _ hy h256
        · split
          · exact endB_byt hr
          · split <;> exact hr
  · unfold itLength; repeat' split
    all_goals first | trivial | exact hr
  · unfold itDist
    simp only
    repeat' split
    all_goals first | trivial | exact hr
  · unfold itFar
    repeat' split
    all_goals first | trivial | exact hr | exact cpy_byt _ _ _ _ hr
theorem Runs.byt {lim : Nat} {s : St} {l : List Int} {r : Og} (h : Runs lim s l r) : Bit l → Bytes s.out → Bytes r.out := by
  induction h with
  | fin _ => exact fun _ h => h
  | short _ _ => exact fun _ h => h
  | bad h1 h2 =>
    rename_i s l er out
    intro hb h
    have := item_byt lim s l hb h
    rw [h2] at this; exact this
  | ok h1 h2 _ ih =>
    rename_i s l s1 n r hr
    intro hb h
    have := item_byt lim s l hb h
    rw [h2] at this; exact ih (hb.drop n) this
theorem Dec.byts {base : Nat} {w : World} {d lim : Nat} {L : List Int} {o : Ow} {r : Og} (h : Dec base w d lim L o r) : Bytes r.out := h.runs.byt h.bit Bytes.nil
end Go.Proofs.YtloagniacjfkfaaGreatDoor
