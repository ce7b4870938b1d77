/- Joined: Yf Yg Yh. -/
import Derived.Test.YtloagniacjfkfaaGreatDoorQQ
/- zlib: the packed bytes are read. -/
namespace Go.Proofs.YtloagniacjfkfaaGreatDoor
open Go.RowKit
/-- What a call over the decoder inside may change. -/
structure ZStep (w w' : World) (d p : Nat) (o : Ow) : Prop where
  os : w'.os = w.os
  tape : w'.tape = w.tape
  output : w'.output = w.output
  size : w.heap.size ≤ w'.heap.size
  block : ∀ k, k < w.heap.size → k ≠ d → k ≠ p → some k ≠ o.g → some k ≠ o.q → w'.heap[k]? = w.heap[k]?
theorem ZStep.set {w w' : World} {d p : Nat} {o : Ow} (h : ZStep w w' d p o) (i : Nat) (v : Value) : ZStep w (w'.setCell ⟨d, i, none⟩ v) d p o :=
  ⟨h.os, h.tape, h.output, by simp only [World.setCell, Array.size_modify]; exact h.size, fun k hk h1 h2 h3 h4 => (Below.heap_setCell _ _ _ _ h1).trans (h.block k hk h1 h2 h3 h4)⟩
theorem ZStep.below {w w' w2 : World} {d p : Nat} {o : Ow} (h : ZStep w w' d p o) (hb : Below w'.heap.size w' w2) : ZStep w w2 d p o :=
  ⟨hb.os.trans h.os, hb.tape.trans h.tape, hb.output.trans h.output, Nat.le_trans h.size hb.size, fun k hk h1 h2 h3 h4 => (hb.block k (Nat.lt_of_lt_of_le hk h.size)).trans (h.block k hk h1 h2 h3 h4)⟩
theorem ZStep.fr {w w' w2 : World} {d p : Nat} {o : Ow} (h : ZStep w w' d p o) (hb : Fr w' w2 d none) : ZStep w w2 d p o :=
  ⟨hb.os.trans h.os, hb.tape.trans h.tape, hb.output.trans h.output, Nat.le_trans h.size hb.size, fun k hk h1 h2 h3 h4 => (hb.block k (Nat.lt_of_lt_of_le hk h.size) h1 (by simp)).trans (h.block k hk h1 h2 h3 h4)⟩
section
variable {w : World} {d : Nat} {now er lim sum tot : Int} {vp vk vr : Value} {gp : Option Nat}
theorem Dec.notz {base : Nat} {p l : Nat} {L : List Int} {o : Ow} {r : Og} (hd : Dec base w p l L o r) (h : ZC w d now er lim vp vk sum tot vr) : p ≠ d ∧ o.g ≠ some d ∧ o.q ≠ some d := by
  obtain ⟨⟨c1, e1⟩, e2, e3⟩ := hd.tags
  unfold ZC at h
  refine ⟨fun e => ?_, fun e => ?_, fun e => ?_⟩
  · subst e
    rw [h] at e1
    simp only [Option.some.injEq, Obj.cells.injEq] at e1
    exact absurd e1.2.1 (by decide)
  · obtain ⟨c2, e2⟩ := e2 d e
    rw [h] at e2
    simp only [Option.some.injEq, Obj.cells.injEq] at e2
    exact absurd e2.2.1 (by decide)
  · obtain ⟨c3, e3⟩ := e3 d e
    rw [h] at e3
    simp only [Option.some.injEq, Obj.cells.injEq] at e3
    exact absurd e3.2.1 (by decide)
/-- What readPacked leaves: the run r' of all bytes; what it tells now; the bytes behind, if it ended. -/
def RpPost (base : Nat) (w : World) (d p : Nat) (lim sum : Int) (vr : Value) (L : List Int) (o : Ow) (r : Og) (bs : List Int) (e : Ending) (w' : World) : Prop :=
  ∃ r' o' tv tg bv, e = .returned (.tuple #[tv, bv]) ∧ Runs lim.toNat St.start (L ++ bitsL bs) r' ∧ r.out <+: r'.out ∧ Sl w' 5 tv tg (vals (r'.out.drop r.out.length)) ∧ (∀ k, tg = some k → w.heap.size ≤ k) ∧ ZStep w w' d p o ∧
    (r'.err ≠ 0 → bv = .slice none 0 0 ∧ ZC w' d 1 r'.err lim (.slice none 0 0) (.pointer none) (adlM sum (r'.out.drop r.out.length)) r'.out.length vr) ∧
    (r'.err = 0 → r'.ended = false → bv = .slice none 0 0 ∧ ZC w' d 1 0 lim (.slice none 0 0) (.pointer (some ⟨p, 0, none⟩)) (adlM sum (r'.out.drop r.out.length)) r'.out.length vr ∧ Dec base w' p lim.toNat (L ++ bitsL bs) o' r' ∧ (∀ k, o'.g = some k → o.g = some k ∨ w.heap.size ≤ k) ∧ (∀ k, o'.q = some k → o.q = some k ∨ w.heap.size ≤ k)) ∧
    (r'.ended = true → ∃ rs g, r'.rest rs ∧ Sl w' 5 bv g (vals rs) ∧ (∀ k, g = some k → w.heap.size ≤ k) ∧ ZC w' d 2 0 lim (.slice none 0 0) (.pointer none) (adlM sum (r'.out.drop r.out.length)) r'.out.length vr)
set_option maxHeartbeats 6400000 in
set_option maxRecDepth 20000 in
theorem zreadPacked_any {base p : Nat} {L : List Int} {o : Ow} {r : Og} (bs : List Int) (av : Option Addr) (m c : Nat) (hm : bs.length = m) (hbb : Bytes bs) (hc0 : av = none → m = 0 ∧ c = 0) (hrow : Row w av bs) (hbase : base ≤ w.heap.size) (h1 : 3 ≤ base) (hord : Ord w) (hlim : lim ≤ 1000000) (hL : L.length + 8 * m ≤ 100000000000000) (hs : U32 sum) (hob : r.out.length ≤ 1000000)
    (hd : Dec base w p lim.toNat L o r) (h : ZC w d 1 0 lim (.slice none 0 0) (.pointer (some ⟨p, 0, none⟩)) sum tot vr) :
    Calls Tryz.prog 23 #[.pointer (some ⟨d, 0, none⟩), .slice av m c] w fun e w' => RpPost base w d p lim sum vr L o r bs e w' := by
  have HPu := push_any hd bs av m c hm hbb hc0 hrow hbase h1 hord (by omega) (by omega)
  have HZ0 : Hid (ZC w d 1 0 lim (.slice none 0 0) (.pointer (some ⟨p, 0, none⟩)) sum tot vr ∧ Dec base w p lim.toNat L o r) := ⟨h, hd⟩
  obtain ⟨k0, k1, k2, k3, k4, k5, k6, k7, fz⟩ := h.cells
  clear h hd hrow hord
  go_enter Tryz.func23, Tryz.ntmps23
  go_wp2_with fail
  refine HPu.mono ?_
  rintro e w1 ⟨r', o', tv, tg, rfl, hd1, hpre, hsl1, htg, hst⟩
  obtain ⟨ax, cx, hv1, hq1, hq2, hq3⟩ := hsl1.shape
  obtain ⟨T, hT⟩ : ∃ T, r'.out.drop r.out.length = T := ⟨_, rfl⟩
  rw [hT] at hsl1 hv1
  rw [vals_len] at hv1
  subst hv1
  have hbT : Bytes T := by rw [← hT]; exact fun z hz => hd1.byts z (List.mem_of_mem_drop hz)
  have hTl : T.length ≤ 1000000 := by rw [← hT, List.length_drop]; have := hd1.le; omega
  obtain ⟨ER, hER⟩ : ∃ ER, r'.err = ER := ⟨_, rfl⟩
  obtain ⟨n1, n2, n3⟩ := HZ0.out.2.notz HZ0.out.1
  have hz1 : ZC w1 d 1 0 lim (.slice none 0 0) (.pointer (some ⟨p, 0, none⟩)) sum tot vr := HZ0.out.1.same (hst.block d HZ0.out.1.lt (fun e => n1 e.symm) (fun e => n2 e.symm) (fun e => n3 e.symm) (fun e => by rw [HZ0.out.2.t] at e; cases e))
  have hzs : ZStep w w1 d p o := ⟨hst.os, hst.tape, hst.output, hst.size, fun k hk h1 h2 h3 h4 => hst.block k hk h2 h3 h4 (fun e => by rw [HZ0.out.2.t] at e; cases e)⟩
  have HM := more_any sum ax T.length cx T w1 hs rfl (by omega) hbT (hsl1.row rfl)
  obtain ⟨S2, hS2⟩ : ∃ S2, adlM sum T = S2 := ⟨_, rfl⟩
  rw [hS2] at HM
  have htd : ∀ k, tg = some k → k ≠ d := hz1.ne hsl1 (by decide)
  have H1 : Hid (Dec base w1 p lim.toNat (L ++ bitsL bs) o' r' ∧ r.out <+: r'.out ∧ Sl w1 5 (.slice ax T.length cx) tg (vals T) ∧ (∀ k, tg = some k → w.heap.size ≤ k) ∧ ZStep w w1 d p o ∧ ZC w1 d 1 0 lim (.slice none 0 0) (.pointer (some ⟨p, 0, none⟩)) sum tot vr ∧ (∀ k, tg = some k → k ≠ d) ∧ r'.out.drop r.out.length = T ∧ r'.err = ER ∧ adlM sum T = S2 ∧ (∀ k, o'.g = some k → o.g = some k ∨ w.heap.size ≤ k) ∧ (∀ k, o'.q = some k → o.q = some k ∨ w.heap.size ≤ k)) := ⟨hd1, hpre, hsl1, htg, hzs, hz1, htd, hT, hER, hS2, hst.g, hst.q⟩
  obtain ⟨q0, q1, q2, q3, q4, q5, q6, q7, qf⟩ := hz1.cells
  rw [hER]
  clear HPu hd1 hpre hsl1 htg hzs hz1 htd hT hER hS2 hst hbT hq1 hq2 hq3 n1 n2 n3 k0 k1 k2 k3 k4 k5 k6 k7 fz
  go_wp2_with fail
  refine HM.mono ?_
  rintro e w2 ⟨rfl, hw2⟩
  rw [hw2]
  clear hw2 w2 HM
  have hz3 := H1.out.2.2.2.2.2.1.set5 S2
  have hd3 := H1.out.1.zset H1.out.2.2.2.2.2.1 5 (.int .u32 S2)
  have HTt := total_any hd3
  obtain ⟨OL, hOL⟩ : ∃ OL, r'.out.length = OL := ⟨_, rfl⟩
  rw [hOL] at HTt
  obtain ⟨s0, s1, s2, s3, s4, s5, s6, s7, sf⟩ := hz3.cells
  have H3 : Hid (ZC (w1.setCell ⟨d, 5, none⟩ (.int .u32 S2)) d 1 0 lim (.slice none 0 0) (.pointer (some ⟨p, 0, none⟩)) S2 tot vr ∧ Dec base (w1.setCell ⟨d, 5, none⟩ (.int .u32 S2)) p lim.toNat (L ++ bitsL bs) o' r' ∧ r'.out.length = OL) := ⟨hz3, hd3, hOL⟩
  clear hz3 hd3 hOL q0 q1 q2 q3 q4 q6 q7
  go_wp2_with fail
  refine HTt.mono ?_
  rintro e w3 ⟨rfl, hw3⟩
  rw [hw3]
  clear hw3 w3 HTt
  have hz4 := H3.out.1.set6 OL
  have hd4 := H3.out.2.1.zset H3.out.1 6 (.int .i64 OL)
  have H4 : Hid (ZC ((w1.setCell ⟨d, 5, none⟩ (.int .u32 S2)).setCell ⟨d, 6, none⟩ (.int .i64 OL)) d 1 0 lim (.slice none 0 0) (.pointer (some ⟨p, 0, none⟩)) S2 OL vr ∧ Dec base ((w1.setCell ⟨d, 5, none⟩ (.int .u32 S2)).setCell ⟨d, 6, none⟩ (.int .i64 OL)) p lim.toNat (L ++ bitsL bs) o' r' ∧ Sl ((w1.setCell ⟨d, 5, none⟩ (.int .u32 S2)).setCell ⟨d, 6, none⟩ (.int .i64 OL)) 5 (.slice ax T.length cx) tg (vals T) ∧ ZStep w ((w1.setCell ⟨d, 5, none⟩ (.int .u32 S2)).setCell ⟨d, 6, none⟩ (.int .i64 OL)) d p o) := by
    refine ⟨hz4, hd4, ?_, (H1.out.2.2.2.2.1.set _ _).set _ _⟩
    exact H1.out.2.2.1.same fun k hk => by
      rw [Below.heap_setCell _ _ _ _ (H1.out.2.2.2.2.2.2.1 k hk), Below.heap_setCell _ _ _ _ (H1.out.2.2.2.2.2.2.1 k hk)]
  obtain ⟨t0, t1, t2, t3, t4, t5, t6, t7, tf⟩ := hz4.cells
  have HRET : Hid (∀ w9 bv, Sl w9 5 (.slice ax T.length cx) tg (vals T) → ZStep w w9 d p o → (ER ≠ 0 → bv = .slice none 0 0 ∧ ZC w9 d 1 ER lim (.slice none 0 0) (.pointer none) S2 OL vr) → (ER = 0 → r'.ended = false → bv = .slice none 0 0 ∧ ZC w9 d 1 0 lim (.slice none 0 0) (.pointer (some ⟨p, 0, none⟩)) S2 OL vr ∧ Dec base w9 p lim.toNat (L ++ bitsL bs) o' r') → (r'.ended = true → ∃ rs g, r'.rest rs ∧ Sl w9 5 bv g (vals rs) ∧ (∀ k, g = some k → w.heap.size ≤ k) ∧ ZC w9 d 2 0 lim (.slice none 0 0) (.pointer none) S2 OL vr) → RpPost base w d p lim sum vr L o r bs (.returned (.tuple #[.slice ax T.length cx, bv])) w9) := by
    intro w9 bv a1 a2 a3 a4 a5
    refine ⟨r', o', _, tg, bv, rfl, H1.out.1.runs, H1.out.2.1, by rw [H1.out.2.2.2.2.2.2.2.1]; exact a1, H1.out.2.2.2.1, a2, ?_, ?_, ?_⟩
    · rw [H1.out.2.2.2.2.2.2.2.1, H1.out.2.2.2.2.2.2.2.2.1, H1.out.2.2.2.2.2.2.2.2.2.1, H3.out.2.2]; exact a3
    · rw [H1.out.2.2.2.2.2.2.2.1, H1.out.2.2.2.2.2.2.2.2.1, H1.out.2.2.2.2.2.2.2.2.2.1, H3.out.2.2]
      intro e1 e2
      obtain ⟨b1, b2, b3⟩ := a4 e1 e2
      exact ⟨b1, b2, b3, H1.out.2.2.2.2.2.2.2.2.2.2.1, H1.out.2.2.2.2.2.2.2.2.2.2.2⟩
    · rw [H1.out.2.2.2.2.2.2.2.1, H1.out.2.2.2.2.2.2.2.2.2.1, H3.out.2.2]; exact a5
  have HEE : Hid (r'.err = ER) := H1.out.2.2.2.2.2.2.2.2.1
  clear hz4 hd4 s0 s1 s2 s3 s4 s5 s7 q5 qf
  by_cases hE : ER = 0
  · subst hE
    have HDn := done_any H4.out.2.1
    cases hen : r'.ended with
    | false =>
      rw [hen] at HDn
      have HP : Hid (RpPost base w d p lim sum vr L o r bs (.returned (.tuple #[.slice ax T.length cx, .slice none 0 0])) ((w1.setCell ⟨d, 5, none⟩ (.int .u32 S2)).setCell ⟨d, 6, none⟩ (.int .i64 OL))) := HRET.out _ _ H4.out.2.2.1 H4.out.2.2.2 (fun e => absurd rfl e) (fun _ _ => ⟨rfl, H4.out.1, H4.out.2.1⟩) (fun e => by rw [hen] at e; cases e)
      clear HRET hen
      go_wp2_with fail
      refine HDn.mono ?_
      rintro e w5 ⟨rfl, hw5⟩
      rw [hw5]
      clear hw5 HDn
      go_wp2
      go_ret2
      exact HP.out
    | true =>
      rw [hen] at HDn
      have HRs := rest_any H4.out.2.1 (by rw [List.length_append, bitsL_len]; omega)
      go_wp2_with fail
      refine HDn.mono ?_
      rintro e w5 ⟨rfl, hw5⟩
      rw [hw5]
      clear hw5 HDn
      go_wp2_with fail
      refine HRs.mono ?_
      rintro e w6 ⟨bv, g, rs, rfl, e1, e2, e3, e4⟩
      have hz6 := H4.out.1.same (e4.block d H4.out.1.lt)
      have hs6 : Sl w6 5 (.slice ax T.length cx) tg (vals T) := H4.out.2.2.1.same fun k hk => e4.block k (H4.out.2.2.1.lt hk)
      have hn1 := hz6.ne hs6 (by decide)
      have hn2 := hz6.ne e2 (by decide)
      have HP : Hid (RpPost base w d p lim sum vr L o r bs (.returned (.tuple #[.slice ax T.length cx, bv])) ((w6.setCell ⟨d, 4, none⟩ (.pointer none)).setCell ⟨d, 0, none⟩ (.int .i64 2))) := by
        refine HRET.out _ _ (hs6.same fun k hk => ?_) (((H4.out.2.2.2.below e4).set _ _).set _ _) (fun e => absurd rfl e) (fun _ e => by rw [hen] at e; cases e) (fun _ => ⟨rs, g, e1, e2.same fun k hk => ?_, fun k hk => Nat.le_trans H4.out.2.2.2.size (e3 k hk), (hz6.set4 _).set0 2⟩)
        · rw [Below.heap_setCell _ _ _ _ (hn1 k hk), Below.heap_setCell _ _ _ _ (hn1 k hk)]
        · rw [Below.heap_setCell _ _ _ _ (hn2 k hk), Below.heap_setCell _ _ _ _ (hn2 k hk)]
      obtain ⟨u0, u1, u2, u3, u4, u5, u6, u7, uf⟩ := hz6.cells
      obtain ⟨au, cu, hbv, _⟩ := e2.shape
      obtain ⟨zl, hzl⟩ : ∃ zl, (vals rs).length = zl := ⟨_, rfl⟩
      rw [hzl] at hbv
      subst hbv
      clear HRET hen HRs e1 e2 e3 e4 hz6 hs6 hn1 hn2 hzl
      go_wp2
      go_ret2
      exact HP.out
  · have hEb : (ER == 0) = false := by simpa using hE
    have hen : r'.ended = false := by
      cases r' with
      | stop s l => exact absurd HEE.out.symm hE
      | fail er out => rfl
    have HFl := zfail_any ER H4.out.1
    go_wp2_with fail
    refine HFl.mono ?_
    rintro e w5 ⟨rfl, z5, f5⟩
    have HP : Hid (RpPost base w d p lim sum vr L o r bs (.returned (.tuple #[.slice ax T.length cx, .slice none 0 0])) w5) := by
      refine HRET.out _ _ (H4.out.2.2.1.same fun k hk => f5.block k (H4.out.2.2.1.lt hk) (H1.out.2.2.2.2.2.2.1 k hk) (by simp)) (H4.out.2.2.2.fr f5) (fun _ => ⟨rfl, z5⟩) (fun e => absurd e hE) (fun e => by rw [hen] at e; cases e)
    clear HFl z5 f5 HRET
    go_wp2
    go_ret2
    exact HP.out
end
end Go.Proofs.YtloagniacjfkfaaGreatDoor
/- zlib: what wrapped bytes tell, by inflate's machine; no program in it. -/
namespace Go.Proofs.YtloagniacjfkfaaGreatDoor
open Go.RowKit
/-- How wrapped bytes stand: k 0: in the head, 1: in the packed bytes, 2: in the foot, 3: behind it, 4: an error; what was told; the error; what stands behind the foot. -/
structure Zo where
  k : Nat
  out : List Int
  er : Int
  rest : List Int
theorem bitsL_one : ∀ {l m : List Int}, Bytes l → Bytes m → bitsL l = bitsL m → l = m
  | [], [], _, _, _ => rfl
  | [], y :: m, _, _, h => by have := congrArg List.length h; rw [bitsL_len, bitsL_len] at this; simp at this
  | x :: l, [], _, _, h => by have := congrArg List.length h; rw [bitsL_len, bitsL_len] at this; simp at this
  | x :: l, y :: m, hl, hm, h => by
    rw [bitsL_cons, bitsL_cons] at h
    obtain ⟨h1, h2⟩ := List.append_inj h (by rw [lowL_len, lowL_len])
    have e := congrArg binN h1
    rw [binN_lowL, binN_lowL] at e
    have b1 := hl x (by simp)
    have b2 := hm y (by simp)
    have e8 : (2 : Int) ^ 8 = 256 := by decide
    rw [e8] at e
    have exy : x = y := by omega
    rw [exy, bitsL_one (fun z hz => hl z (by simp [hz])) (fun z hz => hm z (by simp [hz])) h2]
/-- The packed bytes have ended: out was told, zs stands behind. -/
def ZFoot (lim : Nat) (bs out zs : List Int) : Prop := ∃ s : St, s.now = 11 ∧ s.out = out ∧ Bytes zs ∧ Runs lim St.start (bitsL (bs.drop 2)) (.stop s (bitsL zs))
def ZPack (lim : Nat) (bs out : List Int) : Prop := ∃ (s : St) (l : List Int), s.now ≤ 10 ∧ s.out = out ∧ Runs lim St.start (bitsL (bs.drop 2)) (.stop s l)
def zh (bs : List Int) : Bool := zhd (bigN (bs.take 2)).toNat
def ZSays (lim : Nat) (bs : List Int) (z : Zo) : Prop :=
  (bs.length < 2 → z = ⟨0, [], 0, []⟩) ∧ (2 ≤ bs.length → zh bs = false → z = ⟨4, [], 3, []⟩) ∧
  (2 ≤ bs.length → zh bs = true → (∃ out, ZPack lim bs out ∧ z = ⟨1, out, 0, []⟩) ∨ (∃ er out, Runs lim St.start (bitsL (bs.drop 2)) (.fail er out) ∧ z = ⟨4, out, er, []⟩) ∨
    ∃ out zs, ZFoot lim bs out zs ∧ (zs.length < 4 → z = ⟨2, out, 0, []⟩) ∧ (4 ≤ zs.length → bigN (zs.take 4) = adlM 1 out → z = ⟨3, out, 0, zs.drop 4⟩) ∧ (4 ≤ zs.length → bigN (zs.take 4) ≠ adlM 1 out → z = ⟨4, out, 4, []⟩))
theorem ZSays.det {lim : Nat} {bs : List Int} {z z' : Zo} (h : ZSays lim bs z) (h' : ZSays lim bs z') : z = z' := by
  by_cases h2 : bs.length < 2
  · rw [h.1 h2, h'.1 h2]
  · have h2 : 2 ≤ bs.length := by omega
    cases hz : zh bs with
    | false => rw [h.2.1 h2 hz, h'.2.1 h2 hz]
    | true =>
      rcases h.2.2 h2 hz with ⟨out, ⟨s, l, a1, a2, a3⟩, e⟩ | ⟨er, out, a3, e⟩ | ⟨out, zs, ⟨s, a1, a2, a4, a3⟩, e1, e2, e3⟩ <;>
        rcases h'.2.2 h2 hz with ⟨out', ⟨s', l', b1, b2, b3⟩, f⟩ | ⟨er', out', b3, f⟩ | ⟨out', zs', ⟨s', b1, b2, b4, b3⟩, f1, f2, f3⟩
      · have := a3.det b3
        cases this
        rw [e, f, ← a2, ← b2]
      · have := a3.det b3
        cases this
      · have := a3.det b3
        simp only [Og.stop.injEq] at this
        obtain ⟨rfl, _⟩ := this
        omega
      · have := a3.det b3
        cases this
      · have := a3.det b3
        simp only [Og.fail.injEq] at this
        obtain ⟨rfl, rfl⟩ := this
        rw [e, f]
      · have := a3.det b3
        cases this
      · have := a3.det b3
        simp only [Og.stop.injEq] at this
        obtain ⟨rfl, _⟩ := this
        omega
      · have := a3.det b3
        cases this
      · have := a3.det b3
        simp only [Og.stop.injEq] at this
        obtain ⟨rfl, hb⟩ := this
        obtain rfl := bitsL_one a4 b4 hb
        have ho : out = out' := a2.symm.trans b2
        subst ho
        by_cases h4 : zs.length < 4
        · rw [e1 h4, f1 h4]
        · by_cases hs : bigN (zs.take 4) = adlM 1 out
          · rw [e2 (by omega) hs, f2 (by omega) hs]
          · rw [e3 (by omega) hs, f3 (by omega) hs]
end Go.Proofs.YtloagniacjfkfaaGreatDoor
/- zlib's decoder between two calls: New, Done, Rest, Total. -/
namespace Go.Proofs.YtloagniacjfkfaaGreatDoor
open Go.RowKit
/-- A decoder of the bytes bs; S are its blocks. -/
def ZMem (base : Nat) (w : World) (d : Nat) (limI : Int) (bs : List Int) (z : Zo) (S : Nat → Prop) : Prop :=
  S d ∧ (∀ k, S k → base ≤ k ∧ k < w.heap.size) ∧ ZSays limI.toNat bs z ∧ z.k ≤ 4 ∧
  ∃ now vp vk sum vr gr, ZC w d now z.er limI vp vk sum z.out.length vr ∧ Sl w 5 vr gr (vals z.rest) ∧ (∀ k, gr = some k → S k) ∧
    (z.k = 0 → now = 0 ∧ vk = .pointer none ∧ ∃ gp, Sl w 5 vp gp (vals bs) ∧ ∀ k, gp = some k → S k) ∧
    (z.k = 1 → now = 1 ∧ vp = .slice none 0 0 ∧ sum = adlM 1 z.out ∧ ∃ p o r, vk = .pointer (some ⟨p, 0, none⟩) ∧ Dec base w p limI.toNat (bitsL (bs.drop 2)) o r ∧ r.out = z.out ∧ r.err = 0 ∧ r.ended = false ∧ S p ∧ (∀ k, o.g = some k → S k) ∧ (∀ k, o.q = some k → S k)) ∧
    (z.k = 2 → now = 2 ∧ vk = .pointer none ∧ sum = adlM 1 z.out ∧ ∃ zs gp, ZFoot limI.toNat bs z.out zs ∧ zs.length < 4 ∧ Sl w 5 vp gp (vals zs) ∧ ∀ k, gp = some k → S k) ∧
    (z.k = 3 → now = 3) ∧ (z.k ≠ 3 → now ≠ 3 ∧ vr = .slice none 0 0) ∧ (z.k = 4 ↔ z.er ≠ 0)
section
variable {base : Nat} {w : World} {d : Nat} {lim : Int} {bs : List Int} {z : Zo} {S : Nat → Prop}
set_option maxHeartbeats 800000 in
set_option maxRecDepth 20000 in
theorem zdone_any (h : ZMem base w d lim bs z S) : Calls Tryz.prog 15 #[.pointer (some ⟨d, 0, none⟩)] w fun e w' => e = .returned (.bool (z.k == 3)) ∧ w' = w := by
  obtain ⟨_, _, _, _, now, vp, vk, sum, vr, gr, hz, _, _, _, _, _, h3, h4, _⟩ := h
  have k0 := hz.cells.1
  clear hz
  by_cases hk : z.k = 3
  · obtain rfl := h3 hk
    rw [show (z.k == 3) = true by simpa using hk]
    clear h3 h4 hk
    go_enter Tryz.func15, Tryz.ntmps15
    go_wp2
    go_ret
    exact ⟨rfl, rfl⟩
  · have hn := (h4 hk).1
    have hb : (now == 3) = false := by simpa using hn
    rw [show (z.k == 3) = false by simpa using hk]
    clear h3 h4 hk
    go_enter Tryz.func15, Tryz.ntmps15
    go_wp2
    go_ret
    exact ⟨rfl, rfl⟩
set_option maxHeartbeats 800000 in
set_option maxRecDepth 20000 in
theorem ztotal_any (h : ZMem base w d lim bs z S) : Calls Tryz.prog 17 #[.pointer (some ⟨d, 0, none⟩)] w fun e w' => e = .returned (.int .i64 z.out.length) ∧ w' = w := by
  obtain ⟨_, _, _, _, now, vp, vk, sum, vr, gr, hz, _⟩ := h
  have k6 := hz.cells.2.2.2.2.2.2.1
  clear hz
  go_enter Tryz.func17, Tryz.ntmps17
  go_wp2
  go_ret
  exact ⟨rfl, rfl⟩
theorem zsays_nil (l : Nat) : ZSays l [] ⟨0, [], 0, []⟩ := ⟨fun _ => rfl, fun h => absurd h (by decide), fun h => absurd h (by decide)⟩
set_option maxHeartbeats 800000 in
set_option maxRecDepth 20000 in
theorem znew_any (x : Int) (w : World) : Calls Tryz.prog 10 #[.int .i64 x] w fun e w' => e = .returned (.pointer (some ⟨w.heap.size, 0, none⟩)) ∧ ZMem w.heap.size w' w.heap.size x [] ⟨0, [], 0, []⟩ (fun k => k = w.heap.size) ∧ Below w.heap.size w w' := by
  have HP : Hid (ZMem w.heap.size (w.alloc (.cells #[.int .i64 0, .int .i64 0, .int .i64 x, .slice none 0 0, .pointer none, .int .u32 0, .int .i64 0, .slice none 0 0] 51)) w.heap.size x [] ⟨0, [], 0, []⟩ (fun k => k = w.heap.size) ∧ Below w.heap.size w (w.alloc (.cells #[.int .i64 0, .int .i64 0, .int .i64 x, .slice none 0 0, .pointer none, .int .u32 0, .int .i64 0, .slice none 0 0] 51))) := by
    refine ⟨⟨rfl, fun k hk => ?_, zsays_nil _, by decide, 0, .slice none 0 0, .pointer none, 0, .slice none 0 0, none, heap_alloc_new _ _, Sl.nil _ _, (fun k hk => by cases hk), fun _ => ⟨rfl, rfl, none, Sl.nil _ _, (fun k hk => by cases hk)⟩, (fun h => by cases h), (fun h => by cases h), (fun h => by cases h), (fun _ => ⟨by decide, rfl⟩), by decide⟩, (Below.refl _ _).alloc (Nat.le_refl _) _⟩
    subst hk
    simp
  go_enter Tryz.func10, Tryz.ntmps10
  go_wp2
  go_ret
  exact ⟨rfl, HP.out⟩
def ZrPost (w : World) (z : Zo) (e : Ending) (w' : World) : Prop :=
  ∃ v g, e = .returned v ∧ Sl w' 5 v g (vals z.rest) ∧ (∀ k, g = some k → w.heap.size ≤ k) ∧ Below w.heap.size w w'
set_option maxHeartbeats 800000 in
set_option maxRecDepth 20000 in
theorem zrest_any (h : ZMem base w d lim bs z S) (hl : z.rest.length ≤ 140737488351232) : Calls Tryz.prog 16 #[.pointer (some ⟨d, 0, none⟩)] w fun e w' => ZrPost w z e w' := by
  obtain ⟨_, _, _, _, now, vp, vk, sum, vr, gr, hz, hs, _⟩ := h
  have k7 := hz.cells.2.2.2.2.2.2.2.1
  obtain ⟨i0, hi, hz0, hz1, hz2⟩ := info_parts Tryz.info5
  obtain ⟨av, cv, hv, hl1, hl2, hl3⟩ := hs.shape
  rw [vals_len] at hv hl1
  rw [hv] at k7
  have HRow : Hid (Row w av z.rest) := hs.row hv
  have HL : Hid (z.rest.length ≤ 140737488351232) := hl
  clear hz hs hv hl
  go_enter Tryz.func16, Tryz.ntmps16
  cases av with
  | none =>
    have hcv := hl3 rfl
    subst hcv
    have h0 := row_len_none HRow.out
    have HR0 : Hid (z.rest = []) := h0
    rw [h0] at k7
    clear h0
    go_wp2_with (at_builtin; refine wpList_append_sl_none rfl _ _ 22 rfl 5 i0 Tryz.underlying22 hi none 0 0 rfl (Nat.le_refl _) rfl ?_)
    go_ret
    exact ⟨_, none, rfl, by rw [HR0.out]; exact Sl.nil _ _, (fun k hk => by cases hk), Below.refl _ _⟩
  | some ad =>
    go_wp2_with (at_builtin; refine wpList_append_sl rfl _ _ 22 rfl 5 i0 (.int .u8 0) 1 Tryz.underlying22 hi hz0 hz1 hz2 rfl (.slice none 0 0) none [] rfl (Sl.nil _ _) ad z.rest.length cv (vals z.rest) rfl (vals_len z.rest) (news_row HRow.out) (vals_one z.rest) (by have := HL.out; simp only [List.length_nil]; omega) (by have := HL.out; unfold maxLen; simp only [List.length_nil]; omega) ?_)
    intro v' w1 g' hsl hg' hgrow
    have HP : Hid (ZrPost w z (.returned v') w1) := by
      refine ⟨v', g', rfl, hsl, fun k hk => ?_, ⟨hgrow.os, hgrow.tape, hgrow.output, hgrow.size, fun k hk => hgrow.block k hk (by simp)⟩⟩
      rcases hg' with e | ⟨k', e, hk'⟩
      · rw [e] at hk; cases hk
      · rw [e] at hk; cases hk; exact hk'
    clear hsl hg' hgrow
    go_wp2
    go_ret
    exact HP.out
end
end Go.Proofs.YtloagniacjfkfaaGreatDoor
