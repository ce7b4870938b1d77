/- Joined: LwC LwD LwE. -/
import Derived.Test.YtcbmlioeeoghkaaLwA
import Derived.Test.YtcbmlioeeoghkaaLwB
import Derived.Test.YtcbmlioeeoghkaaLzU
import Derived.Test.YtcbmlioeeoghkaaSmC
import Derived.Deep.DeepCutAuto
import Derived.Deep.CutBlock
import Derived.Deep.RegionHeld3
import Derived.Test.YtcbmlioeeoghkaaLzT
import Derived.Test.YtcbmlioeeoghkaaLzW
import Derived.Test.YtcbmlioeeoghkaaRwC
/- LZW, the document's packer, walked. -/
namespace Go.Proofs.Ytcbmlioeeoghkaa
open Go.RowKit
/-- The table's texts. -/
def strs (L : Nat) (fs : List Tx) : List Value := (List.range fs.length).map fun i => .string (strOfNums (txC L fs (fcN L + i)))
theorem strs_len (L : Nat) (fs : List Tx) : (strs L fs).length = fs.length := by simp [strs]
theorem strs_at (L : Nat) (fs : List Tx) (i : Nat) (h : i < fs.length) : (strs L fs)[i]? = some (.string (strOfNums (txC L fs (fcN L + i)))) := by simp [strs, h]
theorem strs_push {L : Nat} {fs : List Tx} {c : Nat} {y : Int} (h : WfT L fs) (h2 : WfT L (fs ++ [(c, y)])) (hc : c < fcN L + fs.length) : strs L (fs ++ [(c, y)]) = strs L fs ++ [.string (strOfNums (txC L fs c ++ [y]))] := by
  refine List.ext_getElem? fun i => ?_
  by_cases hi : i < fs.length
  · rw [List.getElem?_append_left (by rw [strs_len]; exact hi), strs_at L fs i hi, strs_at _ _ i (by rw [List.length_append]; simp; omega), tx_app h _ _ (by omega)]
  · by_cases he : i = fs.length
    · subst he
      rw [List.getElem?_append_right (by rw [strs_len]; exact Nat.le_refl _), strs_len, Nat.sub_self, strs_at _ _ _ (by rw [List.length_append]; simp)]
      rw [tx_last h2 (show (fs ++ [(c, y)])[fs.length]? = some (c, y) by simp), tx_app h _ _ hc]
      rfl
    · rw [List.getElem?_eq_none (by rw [strs_len, List.length_append]; simp; omega), List.getElem?_eq_none (by rw [List.length_append, strs_len]; simp; omega)]
def slM (v : Value) : Nat := match v with | .slice _ n _ => n | _ => 0
/-- Between two codes. -/
structure RwR (w : World) (L : Nat) (late : Int) (N : Nat) (ALL : List Em) (b : List Int) (ar : Option Addr) (cr : Nat) (fs : List Tx) (wn : Nat) (es : List Em) (ov tv : Value) (og tg : Option Nat) (wr : World) : Prop where
  osl : Sl wr 3 ov og (ivals (bitE es))
  tsl : Sl wr 9 tv tg (strs L fs)
  be : Below w.heap.size w wr
  on : ∀ k, og = some k → w.heap.size ≤ k
  tn : ∀ k, tg = some k → w.heap.size ≤ k
  row : Row w ar b
  c0 : ar = none → cr = 0
  cle : b.length ≤ cr
  cm : cr ≤ 9223372036854775807
  byt : Bytes b
  rt : ∀ v ∈ b, v < ((2 ^ L : Nat) : Int)
  all : es ++ pkE L late b.length b fs wn = ALL
  gd : Gd L fs
  fl : fs.length ≤ wn
  wl : wn + b.length ≤ 300
  bits : cntE es + 24 * b.length ≤ 12 + 24 * N
section
variable {w : World} {L : Nat} {late : Int} {N : Nat} {ALL : List Em} {b : List Int} {ar : Option Addr} {cr : Nat} {fs : List Tx} {wn : Nat} {es : List Em} {ov tv : Value} {og tg : Option Nat} {wr : World}
/-- A code's bits are put behind; the table grows, or it doesn't. -/
theorem RwR.step (h : RwR w L late N ALL b ar cr fs wn es ov tv og tg wr) (hL : 2 ≤ L ∧ L ≤ 8) (hlate : 0 ≤ late) {x : Int} {r : List Int} (hb : b = x :: r) {c k : Nat} (hq : lngN L fs x.toNat r = (c, k)) :
    k + 1 ≤ b.length ∧ c < 4096 ∧ (r.drop k = [] → es ++ [(c, widW L wn)] ++ pkE L late 0 [] fs (wn + 1) = ALL) ∧
    (∀ y b2, r.drop k = y :: b2 → es ++ [(c, widW L wn)] ++ pkE L late (y :: b2).length (y :: b2) (fs ++ [(c, y)]) (wn + 1) = ALL ∧ Gd L (fs ++ [(c, y)]) ∧ strs L (fs ++ [(c, y)]) = strs L fs ++ [.string (strOfNums (b.take (k + 2)))]) := by
  have hF : fcN L = 2 ^ L + 2 := rfl
  have hP := fc_bd hL
  have hx : 0 ≤ x ∧ x < ((2 ^ L : Nat) : Int) := by
    have h1 := h.byt x (by rw [hb]; simp)
    have h2 := h.rt x (by rw [hb]; simp)
    exact ⟨h1.1, h2⟩
  have hcb : c < fcN L + fs.length := by have := lng_bound (L := L) (fs := fs) r x.toNat (by omega); rw [hq] at this; exact this
  have hkl : k ≤ r.length := by have := lng_len (L := L) (fs := fs) r x.toNat; rw [hq] at this; exact this
  have hall := h.all
  have hfl := h.fl
  have hwl := h.wl
  rw [hb, List.length_cons] at hwl
  rw [hb] at hall
  simp only [List.length_cons] at hall
  unfold pkE at hall
  rw [hq] at hall
  simp only at hall
  refine ⟨by rw [hb, List.length_cons]; omega, by omega, fun hd => ?_, fun y b2 hd => ?_⟩
  · rw [hd] at hall
    rw [List.append_assoc]
    exact hall
  · rw [hd] at hall
    simp only at hall
    rw [if_neg (by omega)] at hall
    have hnew : ixT fs c y = none := by have := lng_max (L := L) (fs := fs) r x.toNat y b2 (by rw [hq]; exact hd); rw [hq] at this; exact this
    have hcd : c < 2 ^ L ∨ fcN L ≤ c := by
      have := lng_code (L := L) (fs := fs) r x.toNat
      rw [hq] at this
      rcases this with e | e
      · left
        simp only at e
        omega
      · exact .inr e
    have hy : 0 ≤ y ∧ y < 256 := h.byt y (by rw [hb]; exact List.mem_cons_of_mem _ (List.mem_of_mem_drop (by rw [hd]; simp)))
    have hg := h.gd.push hcb hcd hy hnew
    have hlr : lrnP L fs c y = fs ++ [(c, y)] := by unfold lrnP; rw [if_pos (by omega)]
    rw [hlr] at hall
    refine ⟨?_, hg, ?_⟩
    · rw [List.append_assoc, pkE_fuel L late (y :: b2).length r.length (y :: b2) _ _ (Nat.le_refl _) (by have := congrArg List.length hd; rw [List.length_drop] at this; omega)]
      exact hall
    · rw [strs_push h.gd.wf hg.wf hcb]
      have ht := lng_text h.gd.wf r x.toNat
      rw [hq] at ht
      simp only at ht
      have hxr : txC L fs x.toNat = [x] := by
        rw [txC_root (by omega)]
        congr 1; omega
      rw [ht, hxr, hb]
      congr 4
      have e : r = r.take k ++ (y :: b2) := by rw [← hd, List.take_append_drop]
      have e2 : (r.take k).length = k := by rw [List.length_take]; omega
      have e3 : r.take (k + 1) = r.take k ++ [y] := by
        conv => lhs; rw [e]
        rw [List.take_append, e2, List.take_of_length_le (by omega), show k + 1 - k = 1 by omega]
        rfl
      rw [show k + 2 = (k + 1) + 1 by omega, List.take_succ_cons, e3]
      rfl
end
end Go.Proofs.Ytcbmlioeeoghkaa
/- LZW, the document's packer, walked. -/
namespace Go.Proofs.Ytcbmlioeeoghkaa
open Go.RowKit
/-- What is put behind the bits. -/
theorem RwR.put {w : World} {L : Nat} {late : Int} {N : Nat} {ALL : List Em} {b : List Int} {ar : Option Addr} {cr : Nat} {fs : List Tx} {wn : Nat} {es : List Em} {ov tv : Value} {og tg : Option Nat} {wr w1 w2 : World} {v2 : Value} {g2 : Option Nat} {c n : Nat} (h : RwR w L late N ALL b ar cr fs wn es ov tv og tg wr) (hb : Below wr.heap.size wr w1) (h1 : Sl w2 3 v2 g2 (ivals (bitE es ++ lowL (c : Int) n))) (h2 : g2 = og ∨ ∃ k, g2 = some k ∧ w1.heap.size ≤ k) (h3 : w1.grownBy w2 og) :
    Sl w2 3 v2 g2 (ivals (bitE (es ++ [(c, n)]))) ∧ Sl w2 9 tv tg (strs L fs) ∧ Below w.heap.size w w2 ∧ (∀ k, g2 = some k → w.heap.size ≤ k) ∧ wr.heap.size ≤ w2.heap.size := by
  have hs := hb.size
  have hws := h.be.size
  have hgs := h3.size
  refine ⟨by rw [bitE_app, bitE_one]; exact h1, ?_, (h.be.trans (hb.mono hws)).grown h3 (by omega) h.on, fun k hk => ?_, by omega⟩
  · refine h.tsl.same fun k hk => ?_
    have hkl := h.tsl.lt hk
    refine (h3.block k (by omega) (fun e => ?_)).trans (hb.block k hkl)
    obtain ⟨c1, e1⟩ := Sl.tagB9 h.tsl hk
    obtain ⟨c2, e2⟩ := Sl.tagB9 h.osl e.symm
    rw [e1] at e2
    simp at e2
  · rcases h2 with e | ⟨j, e, hj⟩
    · exact h.on k (by rw [← e, hk])
    · rw [e] at hk; cases hk; omega
set_option maxHeartbeats 6400000 in
set_option maxRecDepth 100000 in
theorem rpack_yes {w : World} {av : Option Addr} {n cap L : Nat} {t : Int} {bs : List Int} (hL : 2 ≤ L ∧ L ≤ 8) (ht : 0 ≤ t) (hn4 : n ≤ 300) (hbn : bs.length = n) (hnc : n ≤ cap) (hcap : cap ≤ 9223372036854775807) (hc0 : av = none → cap = 0) (hrow : Row w av bs) (hby : Bytes bs) (hrt : ∀ v ∈ bs, v < ((2 ^ L : Nat) : Int)) :
    Calls Try.prog 19 #[.slice av n cap, .int .i64 L, .int .i64 t] w fun e w' => NewBytes2 w (outE (pkA L t bs)) e w' := by
  have ht2 : ¬ t < 0 := by omega
  have h2l : ¬ (L : Int) < 2 := by omega
  have h8l : ¬ 8 < (L : Int) := by omega
  have hL1 : (1 : Int) ≤ (L : Int) := by omega
  have hL16 : (L : Int) ≤ 16 := by omega
  have hP := fc_bd hL
  have hfit : FitE (pkA L t bs) := pkA_fit hL fun v hv => ⟨(hby v hv).1, hrt v hv⟩
  obtain ⟨Pw, hPw⟩ : ∃ Pw : Nat, 2 ^ L = Pw := ⟨_, rfl⟩
  have HPw : Hid (2 ^ L = Pw) := hPw
  have hPi : (2 : Int) ^ L = (Pw : Int) := by rw [← hPw]; simp
  have hLt : (L : Int).toNat = L := by simp
  rw [hPw] at hP
  obtain ⟨ALL, hALL⟩ : ∃ ALL, pkA L t bs = ALL := ⟨_, rfl⟩
  rw [hALL] at hfit ⊢
  have HA : Hid (bs.length = n ∧ Row w av bs ∧ Bytes bs ∧ (∀ v ∈ bs, v < ((2 ^ L : Nat) : Int)) ∧ (av = none → cap = 0) ∧ pkA L t bs = ALL ∧ FitE ALL) := ⟨hbn, hrow, hby, hrt, hc0, hALL, hfit⟩
  clear hbn hrow hby hrt hc0 hALL hfit hPw
  go_enter Try.func19, Try.ntmps19
  go_wp2
  go_loopw [36] (fun v wr => ∃ i : Nat, v = .int .i64 i ∧ i ≤ n ∧ wr = w) (fun v _ => n - (intOf v).toNat)
  case atStart => exact ⟨0, rfl, Nat.zero_le _, rfl⟩
  case round =>
    obtain ⟨i, rfl, hi, hwr⟩ := hrel
    rw [hwr]
    clear hwr wr
    by_cases hlt : i < n
    · have hlti : (i : Int) < (n : Int) := by omega
      have hi0 : (0 : Int) ≤ (i : Int) := by omega
      obtain ⟨ba, off, rfl, hx, hxb⟩ : ∃ ba off, av = some ⟨ba, off, none⟩ ∧ w.cell? ⟨ba, off + i, none⟩ = some (.int .u8 (bs[i]?.getD 0)) ∧ 0 ≤ bs[i]?.getD 0 ∧ bs[i]?.getD 0 < (Pw : Int) := by
        rcases HA.out.2.1 with h | ⟨b, off, rfl, hc⟩
        · have := HA.out.1; rw [h] at this; simp at this; omega
        · refine ⟨b, off, rfl, hc i (by have := HA.out.1; omega), ?_⟩
          have hl : i < bs.length := by have := HA.out.1; omega
          have hm := List.getElem_mem hl
          have h1 := HA.out.2.2.1 _ hm
          have h2 := HA.out.2.2.2.1 _ hm
          have e : bs[i]?.getD 0 = bs[i] := by rw [List.getElem?_eq_getElem hl]; rfl
          have h3 := HPw.out
          rw [e]
          exact ⟨h1.1, by rw [← h3]; exact h2⟩
      obtain ⟨z, hz⟩ : ∃ z, bs[i]?.getD 0 = z := ⟨_, rfl⟩
      rw [hz] at hx hxb
      have hzw : IntKind.i64.wrap z = z := by rw [IntKind.wrap_i64]; omega
      have hzp : ¬ (Pw : Int) ≤ z := by omega
      clear hz
      go_wp2
      go_roundw
      case rel => exact ⟨i + 1, by go_num, by omega, by first | rfl | trivial⟩
      case measure => simp [intOf]; omega
    · obtain rfl : i = n := by omega
      have C1 : Calls Try.prog 39 #[.int .i64 (Pw : Int), .int .i64 L, .int .i64 ((Pw : Int) + 2)] w fun e w' => NewInts w (lowL (Pw : Int) (widN L (Pw + 2))) e w' := by
        have := rcode_any (n := Pw + 2) (Pw : Int) hL w
        rwa [show ((Pw + 2 : Nat) : Int) = (Pw : Int) + 2 by omega] at this
      have HW0 : Hid (widN L (Pw + 2) = widW L 0) := by show _ = _; unfold widW fcN; rw [HPw.out]
      have hW0 := widN_le L (Pw + 2) hL.2
      obtain ⟨W0, hW0e⟩ : ∃ W0, widN L (Pw + 2) = W0 := ⟨_, rfl⟩
      rw [hW0e] at C1 HW0 hW0
      clear hW0e
      go_wp2_with fail
      refine C1.mono ?_
      clear C1
      rintro e w1 ⟨a1, c1, g1, rfl, hs1, hg1, hb1⟩
      rw [lowL_len] at hs1 ⊢
      have h1w := hb1.size
      have HS1 : Hid (IRow w1 a1 (lowL (Pw : Int) W0) ∧ Below w.heap.size w w1) := ⟨hs1.irow rfl, hb1⟩
      obtain ⟨k1, o1, rfl⟩ : ∃ k1 o1, a1 = some ⟨k1, o1, none⟩ := by
        rcases hs1 with ⟨h, -⟩ | ⟨b, off, cp, cur, h, -⟩
        · simp only [Value.slice.injEq] at h; omega
        · simp only [Value.slice.injEq] at h; exact ⟨b, off, h.1⟩
      have HL1 : Hid ((lowL (Pw : Int) W0).length = W0) := lowL_len _ _
      have HF1 : Hid (∀ v2 w2 g2, Sl w2 3 v2 g2 (ivals ([] ++ lowL (Pw : Int) W0)) → (g2 = none ∨ ∃ k, g2 = some k ∧ w1.heap.size ≤ k) → w1.grownBy w2 none → ∃ a2 l2 c2, v2 = .slice a2 l2 c2 ∧ Hid (RwR w L t i ALL bs av cap [] 0 [(2 ^ L, widW L 0)] (.slice a2 l2 c2) (.slice none 0 0) g2 none w2)) := by
        intro v2 w2 g2 h1 h2 h3
        obtain ⟨a2, c2, hv, -⟩ := h1.shape
        refine ⟨a2, _, c2, hv, ?_⟩
        rw [← hv]
        have hA := HA.out
        refine ⟨?_, Sl.nil _ _, ?_, fun k hk => ?_, (fun k hk => by cases hk), hA.2.1, hA.2.2.2.2.1, by omega, hcap, hA.2.2.1, hA.2.2.2.1, hA.2.2.2.2.2.1, Gd.nil L, Nat.le_refl _, by omega, ?_⟩
        · rw [bitE_one, HPw.out, ← HW0.out]; exact h1
        · exact ⟨h3.os.trans HS1.out.2.os, h3.tape.trans HS1.out.2.tape, h3.output.trans HS1.out.2.output, Nat.le_trans h1w h3.size, fun k hk => (h3.block k (by omega) (by simp)).trans (HS1.out.2.block k hk)⟩
        · rcases h2 with e | ⟨j, e, hj⟩
          · rw [e] at hk; cases hk
          · rw [e] at hk; cases hk; omega
        · rw [hA.1]
          show widW L 0 + 0 + 24 * i ≤ _
          rw [← HW0.out]; omega
      clear hs1 hg1 hb1
      go_wp2_with (at_builtin; refine wpList_moreI rfl _ _ rfl (.slice none 0 0) none [] rfl (Sl.nil _ _) ⟨k1, o1, none⟩ W0 c1 (lowL (Pw : Int) W0) rfl HL1.out HS1.out.1 (by simp only [List.length_nil]; omega) ?_; intro v2 w2 g2 hs2 hg2 hgr2; obtain ⟨a2, l2, c2, hv2, HR0⟩ := HF1.out v2 w2 g2 hs2 hg2 ⟨hgr2.os, hgr2.tape, hgr2.output, hgr2.size, hgr2.block⟩; subst hv2; clear hs2 hg2 hgr2)
      clear HF1 HS1 HL1 HW0 hW0 h1w
      have HB0 : Hid (Value.slice av i cap = .slice av bs.length cap ∧ Pw + 2 = fcN L + (0 - 1)) := ⟨by rw [HA.out.1], by unfold fcN; rw [HPw.out]⟩
      go_loopw [0, 11, 12, 13, 14, 15] (fun v0 v11 v12 v13 v14 v15 wr => ∃ (b : List Int) (ar : Option Addr) (cr : Nat) (fs : List Tx) (wn : Nat) (es : List Em) (ao : Option Addr) (lo co : Nat) (ta : Option Addr) (tc : Nat) (og tg : Option Nat) (Rd : Nat) (fb : Bool), Hid (v0 = .slice ar b.length cr ∧ v11 = .slice ao lo co ∧ v12 = .slice ta fs.length tc) ∧ v13 = .int .i64 Rd ∧ v14 = .int .i64 0 ∧ v15 = .bool fb ∧ Hid (Rd = fcN L + (wn - 1) ∧ fb = (wn == 0)) ∧ Hid (RwR w L t i ALL b ar cr fs wn es (.slice ao lo co) (.slice ta fs.length tc) og tg wr)) (fun v0 _ _ _ _ _ _ => slM v0)
      case atStart => exact ⟨bs, av, cap, [], 0, _, a2, l2, c2, none, 0, g2, none, Pw + 2, true, ⟨HB0.out.1, rfl, rfl⟩, by go_num, rfl, rfl, ⟨HB0.out.2, rfl⟩, HR0.out⟩
      case round =>
        clear HR0 HB0
        obtain ⟨b, ar, cr, fs, wn, es, ao, lo, co, ta, tc, og, tg, Rd, fb, HV, rfl, rfl, rfl, HQ, HX⟩ := hrel
        rw [HV.out.1, HV.out.2.1, HV.out.2.2]
        obtain ⟨M, hM⟩ : ∃ M, b.length = M := ⟨_, rfl⟩
        obtain ⟨F, hF⟩ : ∃ F, fs.length = F := ⟨_, rfl⟩
        have HM : Hid (b.length = M ∧ fs.length = F) := ⟨hM, hF⟩
        rw [hF] at HX
        rw [hM, hF]
        have hMc : M ≤ cr := by have := HX.out.cle; omega
        have hcr := HX.out.cm
        have hFM : F + M ≤ 300 := by have := HX.out.wl; have := HX.out.fl; omega
        have hRd : 6 ≤ Rd ∧ Rd ≤ 600 := by
          have h1 := HQ.out.1
          have h2 := HX.out.wl
          have h3 : fcN L = Pw + 2 := by unfold fcN; rw [HPw.out]
          omega
        clear HV hM hF
        cases b with
        | nil =>
          obtain rfl : M = 0 := HM.out.1.symm
          have C1 : Calls Try.prog 39 #[.int .i64 ((Pw : Int) + 1), .int .i64 L, .int .i64 Rd] wr fun e w' => NewInts wr (lowL ((Pw : Int) + 1) (widN L Rd)) e w' := rcode_any (n := Rd) ((Pw : Int) + 1) hL wr
          have HW0 : Hid (widN L Rd = widW L wn) := by show _ = _; rw [HQ.out.1]; rfl
          have hW0 := widN_le L Rd hL.2
          obtain ⟨W0, hW0e⟩ : ∃ W0, widN L Rd = W0 := ⟨_, rfl⟩
          rw [hW0e] at C1 HW0 hW0
          clear hW0e
          go_wp2_with fail
          refine C1.mono ?_
          clear C1
          rintro e w1 ⟨a1, c1, g1, rfl, hs1, hg1, hb1⟩
          rw [lowL_len] at hs1 ⊢
          obtain ⟨k1, o1, rfl⟩ : ∃ k1 o1, a1 = some ⟨k1, o1, none⟩ := by
            rcases hs1 with ⟨h, -⟩ | ⟨b, off, cp, cur, h, -⟩
            · simp only [Value.slice.injEq] at h; omega
            · simp only [Value.slice.injEq] at h; exact ⟨b, off, h.1⟩
          have HS1 : Hid (IRow w1 (some ⟨k1, o1, none⟩) (lowL ((Pw : Int) + 1) W0) ∧ (lowL ((Pw : Int) + 1) W0).length = W0 ∧ Sl w1 3 (.slice ao lo co) og (ivals (bitE es)) ∧ (bitE es).length + W0 ≤ 1000000) := ⟨hs1.irow rfl, lowL_len _ _, HX.out.osl.same fun k hk => hb1.block k (HX.out.osl.lt hk), by have h := HX.out.bits; rw [bitE_len]; simp only [List.length_nil] at h; omega⟩
          have HF1 : Hid (∀ v2 w2 g2, Sl w2 3 v2 g2 (ivals (bitE es ++ lowL ((Pw : Int) + 1) W0)) → (g2 = og ∨ ∃ k, g2 = some k ∧ w1.heap.size ≤ k) → w1.grownBy w2 og → ∃ a2 l2 c2, v2 = .slice a2 l2 c2 ∧ Hid (Sl w2 3 (.slice a2 l2 c2) g2 (ivals (bitE ALL)) ∧ Below w.heap.size w w2 ∧ l2 = cntE ALL ∧ l2 ≤ c2 ∧ c2 ≤ maxLen ∧ l2 ≤ 1000000)) := by
            intro v2 w2 g2 h1 h2 h3
            have e1 : (Pw : Int) + 1 = ((2 ^ L + 1 : Nat) : Int) := by rw [HPw.out]; omega
            rw [e1] at h1
            obtain ⟨p1, p2, p3, p4, p5⟩ := HX.out.put (c := 2 ^ L + 1) (n := W0) hb1 h1 h2 h3
            have hall := HX.out.all
            have e2 : es ++ [(2 ^ L + 1, W0)] = ALL := by rw [HW0.out]; exact hall
            rw [e2] at p1
            obtain ⟨a2, c2, hv, q1, q2, -⟩ := p1.shape
            rw [ivals_len, bitE_len] at hv q1
            have hbt := HX.out.bits
            have h9 : cntE ALL = cntE es + W0 := by rw [← e2, cntE_app]; rfl
            simp only [List.length_nil] at hbt
            refine ⟨a2, _, c2, hv, ?_⟩
            rw [← hv]
            exact ⟨p1, p3, rfl, q1, q2, by omega⟩
          clear hs1 hg1 hb1 HX
          go_wp2_with (at_builtin; refine wpList_moreI rfl _ _ rfl (.slice ao lo co) og (bitE es) rfl HS1.out.2.2.1 ⟨k1, o1, none⟩ W0 c1 (lowL ((Pw : Int) + 1) W0) rfl HS1.out.2.1 HS1.out.1 HS1.out.2.2.2 ?_; intro v2 w2 g2 hs2 hg2 hgr2; obtain ⟨a2, l2, c2, hv2, HR0⟩ := HF1.out v2 w2 g2 hs2 hg2 ⟨hgr2.os, hgr2.tape, hgr2.output, hgr2.size, hgr2.block⟩; subst hv2; clear hs2 hg2 hgr2)
          have C2 := refBytes_any a2 l2 c2 (bitE ALL) w2 (by rw [bitE_len]; exact HR0.out.2.2.1.symm) HR0.out.2.2.2.1 HR0.out.2.2.2.2.1 HR0.out.2.2.2.2.2 (bitE_bit _) (HR0.out.1.irow rfl)
          rw [HR0.out.2.2.1, bitE_out HA.out.2.2.2.2.2.2] at C2
          rw [← HR0.out.2.2.1] at C2
          refine C2.mono ?_
          clear C2
          rintro e w3 ⟨a3, c3, rfl, p1, p2, p3, p4, p5⟩
          have HP3 : Hid (NewBytes2 w (outE ALL) (.returned (.tuple #[.slice a3 (outE ALL).length c3, .int .i64 0])) w3) := ⟨a3, c3, rfl, p1, p2, p3, p4, HR0.out.2.1.trans (p5.mono HR0.out.2.1.size)⟩
          clear p1 p2 p3 p4 p5
          go_wp2
          go_ret2
          exact HP3.out
        | cons x r =>
          obtain ⟨w4, hw4⟩ : ∃ x, x = wr := ⟨_, rfl⟩
          rw [← hw4] at HX ⊢
          clear hw4 wr
          have hxb := HX.out.byt x (by simp)
          have hxr := HX.out.rt x (by simp)
          obtain ⟨xn, rfl⟩ : ∃ xn : Nat, x = (xn : Int) := ⟨x.toNat, by omega⟩
          have HXR : Hid ((0 : Int) ≤ (xn : Int) ∧ (xn : Int) < ((2 ^ L : Nat) : Int)) := ⟨hxb.1, hxr⟩
          obtain ⟨ba, off, rfl, hx0⟩ : ∃ ba off, ar = some ⟨ba, off, none⟩ ∧ w4.cell? ⟨ba, off, none⟩ = some (.int .u8 (xn : Int)) := by
            rcases HX.out.row.old HX.out.be with h | ⟨b9, o9, h, hc⟩
            · cases h
            · exact ⟨b9, o9, h, by have := hc 0 (by simp); simpa using this⟩
          have HRW : Hid (Row w4 (some ⟨ba, off, none⟩) ((xn : Int) :: r)) := HX.out.row.old HX.out.be
          have hxl : (xn : Int) < 256 := by omega
          have hM1 : 1 ≤ M := by have := HM.out.1; rw [List.length_cons] at this; omega
          clear hxb hxr
          obtain ⟨B, hB⟩ : ∃ B, (xn : Int) :: r = B := ⟨_, rfl⟩
          have HBe : Hid ((xn : Int) :: r = B) := hB
          rw [hB] at HX HM HRW
          clear hB
          go_wp2
          go_loopw [16, 17, 62] (fun v16 v17 v62 wr => ∃ (j c n : Nat), v16 = .int .i64 c ∧ v17 = .int .i64 n ∧ v62 = .int .i64 j ∧ j ≤ F ∧ n ≤ 600 ∧ Hid (scN L fs B (xn : Int) j = (c, n)) ∧ wr = w4) (fun _ _ v62 _ => F - (intOf v62).toNat)
          case atStart => exact ⟨0, xn, 1, rfl, rfl, rfl, Nat.zero_le _, by omega, rfl, rfl⟩
          case round =>
            obtain ⟨j, c, m, rfl, rfl, rfl, hj, hm6, HS, hwq⟩ := hrel
            subst hwq
            by_cases hjF : j < F
            · have hjFi : (j : Int) < (F : Int) := by omega
              have hj0 : (0 : Int) ≤ (j : Int) := by omega
              obtain ⟨T, hT⟩ : ∃ T, txC L fs (fcN L + j) = T := ⟨_, rfl⟩
              have HT : Hid (txC L fs (fcN L + j) = T) := hT
              obtain ⟨tb, toff, rfl, ht0⟩ : ∃ tb toff, ta = some ⟨tb, toff, none⟩ ∧ wr.cell? ⟨tb, toff + j, none⟩ = some (.string (strOfNums T)) := by
                have hat := strs_at L fs j (by have := HM.out; omega)
                rw [hT] at hat
                rcases HX.out.tsl with ⟨h, -⟩ | ⟨b9, o9, c9, cur, h, hg, hh, h1, h2, h3, hc⟩
                · simp only [Value.slice.injEq] at h; omega
                · simp only [Value.slice.injEq] at h
                  refine ⟨b9, o9, h.1, ?_⟩
                  have := hc j (by rw [strs_len]; have := HM.out; omega)
                  rw [hat] at this
                  simp only [World.cell?, hh]
                  exact this
              obtain ⟨lm, hlm⟩ : ∃ lm, T.length = lm := ⟨_, rfl⟩
              have HLM : Hid (T.length = lm) := hlm
              have hsz : (strOfNums T).size = lm := by rw [strOfNums_size, hlm]
              obtain ⟨s, hs⟩ : ∃ s, strOfNums T = s := ⟨_, rfl⟩
              have HSS : Hid (strOfNums T = s) := hs
              rw [hs] at ht0 hsz
              have hm0 : lm ≤ 9223372036854775807 := by
                have h1 := (txC_len HX.out.gd.wf (fcN L + j) (by have := HM.out; omega) (j + 1) (by omega))
                rw [hT] at h1
                omega
              have HNX : Hid (∀ c' m' : Nat, (if m < lm ∧ T <+: B then (fcN L + j, lm) else (c, m)) = (c', m') → scN L fs B (xn : Int) (j + 1) = (c', m')) := by
                intro c' m' h
                rw [← h]
                show (if _ then _ else _) = _
                rw [HT.out, HS.out, HLM.out]
              have hm6' : lm ≤ 600 := by
                have h1 := (txC_len HX.out.gd.wf (fcN L + j) (by have := HM.out; omega) (j + 1) (by omega))
                rw [hT] at h1
                omega
              clear hT hlm hs HS
              by_cases hA : m < lm
              · have hAi : (m : Int) < (lm : Int) := by omega
                by_cases hBm : lm ≤ M
                · have hBi : (lm : Int) ≤ (M : Int) := by omega
                  have hBc : (lm : Int) ≤ (cr : Int) := by omega
                  have hlt9 : (B.take lm).length = lm := by rw [List.length_take]; have := HM.out.1; omega
                  have hcv := conv_row (c := cr) hlt9 (HRW.out.take lm)
                  by_cases hE : B.take lm = T
                  · rw [hE, HSS.out] at hcv
                    have HN9 := HNX.out (fcN L + j) lm (by rw [if_pos ⟨hA, by rw [← hE]; exact List.take_prefix _ _⟩])
                    have HN8 : Hid (scN L fs B (xn : Int) (j + 1) = (Pw + 2 + j, lm)) := by
                      have h3 : fcN L = Pw + 2 := by unfold fcN; rw [HPw.out]
                      rw [← h3]; exact HN9
                    clear HN9 hlt9 hE HX
                    go_wp2
                    go_roundw
                    case rel => exact ⟨j + 1, Pw + 2 + j, lm, by go_num, rfl, by go_num, by omega, hm6', HN8.out, by first | rfl | trivial⟩
                    case measure => simp [intOf]; omega
                  · have hne : ((strOfNums (B.take lm)).toList == s.toList) = false := by
                      rw [Bool.eq_false_iff]
                      intro h
                      have hbT : Bytes T := by
                        rw [← HT.out]; exact (txC_bytes HX.out.gd.wf (fcN L + j) (by have := HM.out; omega)).1
                      rw [← HSS.out] at h
                      exact hE (str_inj (fun v hv => HX.out.byt v (List.mem_of_mem_take hv)) hbT (by simpa using h))
                    have HN8 := HNX.out c m (by rw [if_neg]; rintro ⟨-, h⟩; exact hE (by have := List.prefix_iff_eq_take.1 h; rw [HLM.out] at this; exact this.symm))
                    have HN7 : Hid (scN L fs B (xn : Int) (j + 1) = (c, m)) := HN8
                    obtain ⟨s2, hs2⟩ : ∃ s2, strOfNums (B.take lm) = s2 := ⟨_, rfl⟩
                    rw [hs2] at hcv hne
                    clear HN8 hlt9 hE HX hs2
                    go_wp2
                    go_roundw
                    case rel => exact ⟨j + 1, c, m, rfl, rfl, by go_num, by omega, hm6, HN7.out, by first | rfl | trivial⟩
                    case measure => simp [intOf]; omega
                · have hBi : ¬ (lm : Int) ≤ (M : Int) := by omega
                  have HN8 := HNX.out c m (by rw [if_neg]; rintro ⟨-, h⟩; exact hBm (by have := h.length_le; rw [HLM.out] at this; have := HM.out.1; omega))
                  have HN7 : Hid (scN L fs B (xn : Int) (j + 1) = (c, m)) := HN8
                  clear HN8 HX
                  go_wp2
                  go_roundw
                  case rel => exact ⟨j + 1, c, m, rfl, rfl, by go_num, by omega, hm6, HN7.out, by first | rfl | trivial⟩
                  case measure => simp [intOf]; omega
              · have hAi : ¬ (m : Int) < (lm : Int) := by omega
                have HN8 := HNX.out c m (by rw [if_neg]; rintro ⟨h, -⟩; exact hA h)
                have HN7 : Hid (scN L fs B (xn : Int) (j + 1) = (c, m)) := HN8
                clear HN8 HX
                go_wp2
                go_roundw
                case rel => exact ⟨j + 1, c, m, rfl, rfl, by go_num, by omega, hm6, HN7.out, by first | rfl | trivial⟩
                case measure => simp [intOf]; omega
            · obtain rfl : j = F := by omega
              have hx9 := HX.out
              obtain ⟨k, hk⟩ : ∃ k, (lngN L fs xn r).2 = k := ⟨_, rfl⟩
              have hend := scN_end hL.2 hx9.gd (xn : Int) r HXR.out
              rw [Int.toNat_natCast, HBe.out, HM.out.2, HS.out] at hend
              simp only [Prod.mk.injEq] at hend
              have hq : lngN L fs ((xn : Int)).toNat r = (c, k) := by rw [Int.toNat_natCast, ← hk, hend.1]
              obtain ⟨s1, s2, s3, s4⟩ := hx9.step hL ht HBe.out.symm hq
              have hmM : 1 ≤ m ∧ m ≤ M := by have := HM.out.1; omega
              have HMK : Hid (m = k + 1) := (by omega : m = k + 1)
              have HST : Hid ((r.drop k = [] → es ++ [(c, widW L wn)] ++ pkE L t 0 [] fs (wn + 1) = ALL) ∧ (∀ y b2, r.drop k = y :: b2 → es ++ [(c, widW L wn)] ++ pkE L t (y :: b2).length (y :: b2) (fs ++ [(c, y)]) (wn + 1) = ALL ∧ Gd L (fs ++ [(c, y)]) ∧ strs L (fs ++ [(c, y)]) = strs L fs ++ [.string (strOfNums (B.take (k + 2)))])) := ⟨s3, s4⟩
              clear hx9 hk hend hq s1 s3 s4 HS hm6
              have C1 : Calls Try.prog 39 #[.int .i64 (c : Int), .int .i64 L, .int .i64 Rd] wr fun e w' => NewInts wr (lowL (c : Int) (widN L Rd)) e w' := rcode_any (n := Rd) (c : Int) hL wr
              have HW0 : Hid (widN L Rd = widW L wn) := by show _ = _; rw [HQ.out.1]; rfl
              have hW0 := widN_le L Rd hL.2
              obtain ⟨W0, hW0e⟩ : ∃ W0, widN L Rd = W0 := ⟨_, rfl⟩
              rw [hW0e] at C1 HW0 hW0
              clear hW0e
              go_wp2_with fail
              refine C1.mono ?_
              clear C1
              rintro e w1 ⟨a1, c1, g1, rfl, hs1, hg1, hb1⟩
              rw [lowL_len] at hs1 ⊢
              obtain ⟨k1, o1, rfl⟩ : ∃ k1 o1, a1 = some ⟨k1, o1, none⟩ := by
                rcases hs1 with ⟨h, -⟩ | ⟨b, off, cp, cur, h, -⟩
                · simp only [Value.slice.injEq] at h; omega
                · simp only [Value.slice.injEq] at h; exact ⟨b, off, h.1⟩
              have HS1 : Hid (IRow w1 (some ⟨k1, o1, none⟩) (lowL (c : Int) W0) ∧ (lowL (c : Int) W0).length = W0 ∧ Sl w1 3 (.slice ao lo co) og (ivals (bitE es)) ∧ (bitE es).length + W0 ≤ 1000000) := ⟨hs1.irow rfl, lowL_len _ _, HX.out.osl.same fun k hk => hb1.block k (HX.out.osl.lt hk), by have h := HX.out.bits; rw [bitE_len]; omega⟩
              have HF1 : Hid (∀ v2 w2 g2, Sl w2 3 v2 g2 (ivals (bitE es ++ lowL (c : Int) W0)) → (g2 = og ∨ ∃ k, g2 = some k ∧ w1.heap.size ≤ k) → w1.grownBy w2 og → ∃ a2 l2 c2, v2 = .slice a2 l2 c2 ∧ Hid (Sl w2 3 (.slice a2 l2 c2) g2 (ivals (bitE (es ++ [(c, W0)]))) ∧ Sl w2 9 (.slice ta j tc) tg (strs L fs) ∧ Below w.heap.size w w2 ∧ (∀ k, g2 = some k → w.heap.size ≤ k) ∧ Row w2 (some ⟨ba, off, none⟩) B ∧ w.heap.size ≤ w2.heap.size)) := by
                intro v2 w2 g2 h1 h2 h3
                obtain ⟨p1, p2, p3, p4, p5⟩ := HX.out.put (c := c) (n := W0) hb1 h1 h2 h3
                obtain ⟨a2, c2, hv, q1, q2, -⟩ := p1.shape
                refine ⟨a2, _, c2, hv, ?_⟩
                rw [← hv]
                exact ⟨p1, p2, p3, p4, HX.out.row.old p3, p3.size⟩
              clear hs1 hg1 hb1 HRW
              go_upto_region 24 with (at_builtin; refine wpList_moreI rfl _ _ rfl (.slice ao lo co) og (bitE es) rfl HS1.out.2.2.1 ⟨k1, o1, none⟩ W0 c1 (lowL (c : Int) W0) rfl HS1.out.2.1 HS1.out.1 HS1.out.2.2.2 ?_; intro v2 w2 g2 hs2 hg2 hgr2; obtain ⟨a2, l2, c2, hv2, HR2⟩ := HF1.out v2 w2 g2 hs2 hg2 ⟨hgr2.os, hgr2.tape, hgr2.output, hgr2.size, hgr2.block⟩; subst hv2; clear hs2 hg2 hgr2)
              clear HF1 HS1
              have hRi : (Rd : Int) < 4096 := by omega
              go_cut [105] (fun v wx => wx = w2 ∧ v = .bool (!fb))
              case first =>
                cases fb with
                | true =>
                  go_wp2
                  go_meet
                  exact ⟨rfl, rfl⟩
                | false =>
                  go_wp2
                  go_meet
                  exact ⟨rfl, rfl⟩
              case rest =>
              obtain ⟨hwc, rfl⟩ := hcut
              rw [hwc]
              clear hwc wc
              go_upto_if 105 with fail
              go_cut [13] (fun v wx => wx = w2 ∧ ∃ R2 : Nat, v = .int .i64 R2 ∧ Hid (R2 = fcN L + (wn + 1 - 1)))
              case first =>
                cases fb with
                | true =>
                  have HR2' : Hid (Rd = fcN L + (wn + 1 - 1)) := by
                    have h1 := HQ.out.1
                    have h2 : wn = 0 := by have := HQ.out.2.symm; simpa using this
                    show _ = _; rw [h1, h2]
                  go_wp2
                  go_meet
                  exact ⟨rfl, Rd, rfl, HR2'⟩
                | false =>
                  have HR2' : Hid (Rd + 1 = fcN L + (wn + 1 - 1)) := by
                    have h1 := HQ.out.1
                    have h2 : ¬ wn = 0 := by have := HQ.out.2.symm; simpa using this
                    show _ = _; omega
                  go_wp2
                  go_meet
                  exact ⟨rfl, Rd + 1, by go_num, HR2'⟩
              case rest =>
              obtain ⟨hwc, R2, rfl, HRD⟩ := hcut
              rw [hwc]
              clear hwc wc hRd hRi
              have hfull : ¬ 4096 ≤ (Pw : Int) + 2 + (j : Int) := by omega
              have hfull2 : ¬ 4096 ≤ (Pw : Int) + 2 + ((j : Int) + 1) := by omega
              have hmMi : (m : Int) ≤ (M : Int) := by omega
              have hmci : (m : Int) ≤ (cr : Int) := by omega
              by_cases hlast : m < M
              · have hlasti : (m : Int) < (M : Int) := by omega
                have hcmi : ¬ (cr : Int) = (m : Int) := by omega
                have hcmn : ¬ cr = m := by omega
                obtain ⟨y, b2, hyb⟩ : ∃ y b2, r.drop k = y :: b2 := by
                  cases hd : r.drop k with
                  | nil => have := congrArg List.length hd; rw [List.length_drop] at this; have h1 := HM.out.1; rw [← HBe.out, List.length_cons] at h1; have := HMK.out; rw [List.length_nil] at *; omega
                  | cons y b2 => exact ⟨y, b2, rfl⟩
                obtain ⟨q1, q2, q3⟩ := HST.out.2 y b2 hyb
                have hlt9 : (B.take (m + 1)).length = m + 1 := by rw [List.length_take]; have := HM.out.1; omega
                have hcv := conv_row (c := cr) hlt9 (HR2.out.2.2.2.2.1.take (m + 1))
                obtain ⟨S, hS⟩ : ∃ S, strOfNums (B.take (m + 1)) = S := ⟨_, rfl⟩
                rw [hS] at hcv
                rw [show k + 2 = m + 1 by have := HMK.out; omega, hS] at q3
                have HTS : Hid (Sl (w2.alloc (.cells #[.string S] 9)) 9 (.slice ta j tc) tg (strs L fs) ∧ (w2.alloc (.cells #[.string S] 9)).cell? ⟨w2.heap.size, 0, none⟩ = some (.string S) ∧ (strs L fs).length ≤ 1000000) := by
                  refine ⟨HR2.out.2.1.same fun k hk => Below.heap_alloc _ _ _ (HR2.out.2.1.lt hk), ?_, by rw [strs_len]; have := HM.out; omega⟩
                  have := heap_alloc_new w2 (.cells #[.string S] 9)
                  simp only [World.cell?, this]
                  rfl
                have hdb : B.drop m = y :: b2 := by rw [← HBe.out, HMK.out, List.drop_succ_cons]; exact hyb
                have HNXT : Hid (∀ v3 w3 g3, Sl w3 9 v3 g3 (strs L fs ++ [.string S]) → (g3 = tg ∨ ∃ k, g3 = some k ∧ (w2.alloc (.cells #[.string S] 9)).heap.size ≤ k) → (w2.alloc (.cells #[.string S] 9)).grownBy w3 tg → ∃ a3 c3, v3 = .slice a3 (j + 1) c3 ∧ Hid (RwR w L t i ALL (B.drop m) (some ⟨ba, off + m, none⟩) (cr - m) (fs ++ [(c, y)]) (wn + 1) (es ++ [(c, W0)]) (.slice a2 l2 c2) (.slice a3 (j + 1) c3) g2 g3 w3)) := by
                  intro v3 w3 g3 h1 h2 h3
                  rw [← q3] at h1
                  obtain ⟨a3, c3, hv, -⟩ := h1.shape
                  rw [strs_len, List.length_append, HM.out.2, List.length_singleton] at hv
                  refine ⟨a3, c3, hv, ?_⟩
                  rw [← hv]
                  have hX := HX.out
                  have hR := HR2.out
                  have hbA : Below w2.heap.size w2 (w2.alloc (.cells #[.string S] 9)) := (Below.refl _ _).alloc (Nat.le_refl _) _
                  have hsz : (w2.alloc (.cells #[.string S] 9)).heap.size = w2.heap.size + 1 := by simp
                  have hw2 := hR.2.2.2.2.2
                  have hBl := HM.out.1
                  refine ⟨hR.1.same fun k hk => ?_, h1, (hR.2.2.1.trans (hbA.mono hw2)).grown h3 (by omega) hX.tn, hR.2.2.2.1, fun k hk => ?_, ?_, (fun h => by cases h), by rw [List.length_drop]; omega, by omega, fun v hv => hX.byt v (List.mem_of_mem_drop hv), fun v hv => hX.rt v (List.mem_of_mem_drop hv), ?_, q2, by rw [List.length_append, List.length_singleton]; have := hX.fl; omega, by rw [List.length_drop]; have := hX.wl; omega, ?_⟩
                  · have hkl := hR.1.lt hk
                    refine (h3.block k (by omega) (fun e => ?_)).trans (hbA.block k hkl)
                    obtain ⟨d1, e1⟩ := Sl.tagB9 hR.1 hk
                    obtain ⟨d2, e2⟩ := Sl.tagB9 hR.2.1 e.symm
                    rw [e1] at e2
                    simp at e2
                  · rcases h2 with e | ⟨q, e, hq⟩
                    · exact hX.tn k (by rw [← e, hk])
                    · rw [e] at hk; cases hk; omega
                  · have := hX.row.cut m cr (by omega) (by omega)
                    rw [if_neg hcmn] at this
                    simpa [Addr.add_lit] using this
                  · rw [hdb, HW0.out]; exact q1
                  · rw [cntE_app, List.length_drop]
                    have := hX.bits
                    show cntE es + (W0 + 0) + _ ≤ _
                    omega
                clear q1 q2 q3 hS hlt9 hdb hyb HX
                go_wp2_with (at_builtin; refine wpList_push_str rfl _ _ rfl (.slice ta j tc) tg (strs L fs) rfl HTS.out.1 w2.heap.size 1 (.string S) rfl HTS.out.2.1 rfl HTS.out.2.2 ?_; intro v3 w3 g3 hs3 hg3 hgr3; obtain ⟨a3, c3, hv3, HR3⟩ := HNXT.out v3 w3 g3 hs3 hg3 ⟨hgr3.os, hgr3.tape, hgr3.output, hgr3.size, hgr3.block⟩; subst hv3; clear hs3 hg3 hgr3)
                go_roundw
                case rel =>
                  refine ⟨B.drop m, some ⟨ba, off + m, none⟩, cr - m, fs ++ [(c, y)], wn + 1, es ++ [(c, W0)], a2, l2, c2, a3, c3, g2, g3, R2, false, ⟨?_, rfl, ?_⟩, rfl, by first | rfl | trivial, rfl, ⟨HRD.out, by simp⟩, ?_⟩
                  · rw [List.length_drop, HM.out.1]
                  · rw [List.length_append, HM.out.2, List.length_singleton]
                  · rw [List.length_append, HM.out.2, List.length_singleton]; exact HR3.out
                case measure => show M - m < M; omega
              · obtain rfl : m = M := by omega
                have hdn : r.drop k = [] := by
                  refine List.drop_eq_nil_iff.2 ?_
                  have h1 := HM.out.1
                  rw [← HBe.out, List.length_cons] at h1
                  have := HMK.out
                  omega
                have HNXT : Hid (∀ ar' cr', ar' ≠ none → cr' ≤ 9223372036854775807 → RwR w L t i ALL [] ar' cr' fs (wn + 1) (es ++ [(c, W0)]) (.slice a2 l2 c2) (.slice ta j tc) g2 tg w2) := by
                  intro ar' cr' ha hc'
                  have hX := HX.out
                  have hR := HR2.out
                  have hBl := HM.out.1
                  refine ⟨hR.1, hR.2.1, hR.2.2.1, hR.2.2.2.1, hX.tn, .inl rfl, fun h => absurd h ha, Nat.zero_le _, hc', (fun v hv => by cases hv), (fun v hv => by cases hv), ?_, hX.gd, by have := hX.fl; omega, by have := hX.wl; simp only [List.length_nil]; omega, ?_⟩
                  · rw [HW0.out]; exact HST.out.1 hdn
                  · rw [cntE_app]
                    have := hX.bits
                    show cntE es + (W0 + 0) + _ ≤ _
                    simp only [List.length_nil]
                    omega
                clear hdn HX
                by_cases hcrm : cr = m
                · subst hcrm
                  go_wp2
                  go_roundw
                  case rel =>
                    exact ⟨[], some ⟨ba, off, none⟩, 0, fs, wn + 1, es ++ [(c, W0)], a2, l2, c2, ta, tc, g2, tg, R2, false, ⟨by simp, rfl, by rw [HM.out.2]⟩, rfl, by first | rfl | trivial, rfl, ⟨HRD.out, by simp⟩, by rw [HM.out.2]; exact HNXT.out _ _ (by simp) (by omega)⟩
                  case measure => show 0 < cr; omega
                · have hcrmi : ¬ (cr : Int) = (m : Int) := by omega
                  go_wp2
                  go_roundw
                  case rel =>
                    exact ⟨[], some ⟨ba, off + m, none⟩, cr - m, fs, wn + 1, es ++ [(c, W0)], a2, l2, c2, ta, tc, g2, tg, R2, false, ⟨by simp, rfl, by rw [HM.out.2]⟩, rfl, by first | rfl | trivial, rfl, ⟨HRD.out, by simp⟩, by rw [HM.out.2]; exact HNXT.out _ _ (by simp) (by omega)⟩
                  case measure => show 0 < m; omega
end Go.Proofs.Ytcbmlioeeoghkaa
/- LZW: what is written is what the document says. -/
namespace Go.Proofs.Ytcbmlioeeoghkaa
open Go.RowKit
set_option maxHeartbeats 400000 in
set_option maxRecDepth 100000 in
theorem rpack_arg (v : Value) (l t : Int) (h : ¬ (2 ≤ l ∧ l ≤ 8) ∨ t < 0) (w : World) : Calls Try.prog 19 #[v, .int .i64 l, .int .i64 t] w fun e w' => e = .returned (.tuple #[.slice none 0 0, .int .i64 1]) ∧ w' = w := by
  rcases (show l < 2 ∨ (¬ l < 2 ∧ 8 < l) ∨ (¬ l < 2 ∧ ¬ 8 < l ∧ t < 0) by omega) with h1 | ⟨h1, h2⟩ | ⟨h1, h2, h3⟩
  all_goals
    clear h
    go_enter Try.func19, Try.ntmps19
    go_wp2
    go_ret2
    exact ⟨rfl, rfl⟩
set_option maxHeartbeats 1600000 in
set_option maxRecDepth 100000 in
theorem rpack_root {w : World} {av : Option Addr} {n cap L : Nat} {t : Int} {bs : List Int} (hL : 2 ≤ L ∧ L ≤ 8) (ht : 0 ≤ t) (hbn : bs.length = n) (hnc : n ≤ cap) (hcap : cap ≤ 9223372036854775807) (hrow : Row w av bs) (hby : Bytes bs) (hno : ¬ ∀ v ∈ bs, v < ((2 ^ L : Nat) : Int)) :
    Calls Try.prog 19 #[.slice av n cap, .int .i64 L, .int .i64 t] w fun e w' => e = .returned (.tuple #[.slice none 0 0, .int .i64 1]) ∧ w' = w := by
  have ht2 : ¬ t < 0 := by omega
  have h2l : ¬ (L : Int) < 2 := by omega
  have h8l : ¬ 8 < (L : Int) := by omega
  have hL1 : (1 : Int) ≤ (L : Int) := by omega
  have hL16 : (L : Int) ≤ 16 := by omega
  have hP := fc_bd hL
  obtain ⟨Pw, hPw⟩ : ∃ Pw : Nat, 2 ^ L = Pw := ⟨_, rfl⟩
  have hPi : (2 : Int) ^ L = (Pw : Int) := by rw [← hPw]; simp
  have hLt : (L : Int).toNat = L := by simp
  rw [hPw] at hP hno
  have HA : Hid (bs.length = n ∧ Row w av bs ∧ Bytes bs ∧ ¬ ∀ v ∈ bs, v < (Pw : Int)) := ⟨hbn, hrow, hby, hno⟩
  clear hbn hrow hby hno hPw
  go_enter Try.func19, Try.ntmps19
  go_wp2
  go_loopw [6, 7, 36] (fun v6 v7 v wr => ∃ i : Nat, v6 = .slice none 0 0 ∧ v7 = .int .i64 0 ∧ v = .int .i64 i ∧ i ≤ n ∧ Hid (∀ j, j < i → bs[j]?.getD 0 < (Pw : Int)) ∧ wr = w) (fun _ _ v _ => n - (intOf v).toNat)
  case atStart => exact ⟨0, rfl, rfl, rfl, Nat.zero_le _, fun j hj => absurd hj (Nat.not_lt_zero _), rfl⟩
  case round =>
    obtain ⟨i, rfl, rfl, rfl, hi, HI, hwr⟩ := hrel
    rw [hwr]
    clear hwr wr
    by_cases hlt : i < n
    · have hlti : (i : Int) < (n : Int) := by omega
      have hi0 : (0 : Int) ≤ (i : Int) := by omega
      obtain ⟨ba, off, rfl, hx, hxb⟩ : ∃ ba off, av = some ⟨ba, off, none⟩ ∧ w.cell? ⟨ba, off + i, none⟩ = some (.int .u8 (bs[i]?.getD 0)) ∧ 0 ≤ bs[i]?.getD 0 ∧ bs[i]?.getD 0 < 256 := by
        rcases HA.out.2.1 with h | ⟨b, off, rfl, hc⟩
        · have := HA.out.1; rw [h] at this; simp at this; omega
        · exact ⟨b, off, rfl, hc i (by have := HA.out.1; omega), HA.out.2.2.1.at i⟩
      obtain ⟨z, hz⟩ : ∃ z, bs[i]?.getD 0 = z := ⟨_, rfl⟩
      have HZ : Hid (bs[i]?.getD 0 = z) := hz
      rw [hz] at hx hxb
      have hzw : IntKind.i64.wrap z = z := by rw [IntKind.wrap_i64]; omega
      clear hz
      by_cases hzp : (Pw : Int) ≤ z
      · go_wp2
        go_ret2
        exact ⟨rfl, rfl⟩
      · go_wp2
        go_roundw
        case rel =>
          refine ⟨i + 1, rfl, rfl, by go_num, by omega, fun j hj => ?_, by first | rfl | trivial⟩
          by_cases e : j = i
          · subst e; rw [HZ.out]; omega
          · exact HI.out j (by omega)
        case measure => simp [intOf]; omega
    · exfalso
      refine HA.out.2.2.2 fun v hv => ?_
      obtain ⟨j, hj, rfl⟩ := List.mem_iff_getElem.1 hv
      have := HI.out j (by have := HA.out.1; omega)
      rw [List.getElem?_eq_getElem hj] at this
      exact this
def PkPost (w : World) (zs : List Int) (E : Int) (e : Ending) (w' : World) : Prop :=
  ∃ a cap, e = .returned (.tuple #[.slice a zs.length cap, .int .i64 E]) ∧ Row w' a zs ∧ zs.length ≤ cap ∧ cap ≤ 9223372036854775807 ∧ Below w.heap.size w w'
theorem PkPost.no {w : World} {e : Ending} {w' : World} (h : e = .returned (.tuple #[.slice none 0 0, .int .i64 1]) ∧ w' = w) : PkPost w [] 1 e w' := by
  obtain ⟨rfl, rfl⟩ := h
  exact ⟨none, 0, rfl, .inl rfl, Nat.le_refl _, by decide, Below.refl _ _⟩
theorem PkPost.yes {w : World} {zs : List Int} {e : Ending} {w' : World} (h : NewBytes2 w zs e w') : PkPost w zs 0 e w' := by
  obtain ⟨a, c, h1, h2, h3, h4, h5, h6⟩ := h
  unfold maxLen at h3
  exact ⟨a, c, h1, h5, h2, by omega, h6⟩
/-- Both packers tell one answer. -/
theorem both_pack (l t : Int) (bs : List Int) (hby : Bytes bs) (hn : bs.length ≤ 300) : ∃ (zs : List Int) (E : Int), zs.length ≤ 904 ∧
    (∀ (w : World) (av : Option Addr) (cap : Nat), bs.length ≤ cap → cap ≤ 9223372036854775807 → (av = none → cap = 0) → Row w av bs → Calls Try.prog 18 #[.slice av bs.length cap, .int .i64 l, .int .i64 t] w fun e w' => PkPost w zs E e w') ∧
    (∀ (w : World) (av : Option Addr) (cap : Nat), bs.length ≤ cap → cap ≤ 9223372036854775807 → (av = none → cap = 0) → Row w av bs → Calls Try.prog 19 #[.slice av bs.length cap, .int .i64 l, .int .i64 t] w fun e w' => PkPost w zs E e w') := by
  by_cases h : ¬ (2 ≤ l ∧ l ≤ 8) ∨ t < 0
  · exact ⟨[], 1, by simp, fun w av cap _ _ _ _ => (lpack_arg _ l t h w).mono fun e w' h => .no h, fun w av cap _ _ _ _ => (rpack_arg _ l t h w).mono fun e w' h => .no h⟩
  · obtain ⟨L, rfl⟩ : ∃ L : Nat, l = (L : Int) := ⟨l.toNat, by omega⟩
    have hL : 2 ≤ L ∧ L ≤ 8 := by omega
    have ht : 0 ≤ t := by omega
    by_cases hr : ∀ v ∈ bs, v < ((2 ^ L : Nat) : Int)
    · exact ⟨outE (pkA L t bs), 0, by have := outE_pk (late := t) hL bs; omega, fun w av cap h1 h2 h3 h4 => (lpack_yes hL ht (by omega) rfl h1 h2 h3 h4 hby hr).mono fun e w' h => .yes h, fun w av cap h1 h2 h3 h4 => (rpack_yes hL ht hn rfl h1 h2 h3 h4 hby hr).mono fun e w' h => .yes h⟩
    · exact ⟨[], 1, by simp, fun w av cap h1 h2 h3 h4 => (lpack_root hL ht rfl h1 h2 h4 hby hr).mono fun e w' h => .no h, fun w av cap h1 h2 h3 h4 => (rpack_root hL ht rfl h1 h2 h4 hby hr).mono fun e w' h => .no h⟩
set_option maxHeartbeats 1600000 in
set_option maxRecDepth 20000 in
theorem lwrites_walk (a : Option Addr) (len cap : Nat) (l t : Int) (w : World) (ha : BArg w a len cap) (_wl : (Lit.int .i64 l).wf = true) (_wt : (Lit.int .i64 t).wf = true) :
    Calls Try.prog 5 #[.slice a len cap, .int .i64 l, .int .i64 t] w fun e w' => e = .returned (.bool true) ∧ Below w.heap.size w w' := by
  obtain ⟨A, hA, rfl, hn, hc, hc0, hAr⟩ := ha
  have HA : Hid (Bytes A ∧ Row w a A ∧ (a = none → cap = 0)) := ⟨hA, hAr, hc0⟩
  clear hA hAr hc0
  by_cases hbig : 300 < (A.length : Int)
  · go_enter Try.func5, Try.ntmps5
    go_wp2_with (go_at_call 9; refine (lfixed_any _).mono ?_; rintro e w1 ⟨rfl, hbel⟩)
    go_ret
    exact ⟨rfl, hbel⟩
  obtain ⟨zs, E, hz9, CP, CR⟩ := both_pack l t A HA.out.1 (by omega)
  obtain ⟨Z, hZ⟩ : ∃ Z, zs.length = Z := ⟨_, rfl⟩
  have HZ : Hid (zs.length = Z) := hZ
  have hEE : (E == E) = true := by simp
  rw [hZ] at hz9
  go_enter Try.func5, Try.ntmps5
  go_wp2_with fail
  refine (lfixed_any w).mono ?_
  rintro e w1 ⟨rfl, b1⟩
  have HB1 : Hid (Below w.heap.size w w1) := b1
  have HR1 : Hid (Row w1 a A) := HA.out.2.1.old b1
  clear b1 hZ
  go_wp2_with (at_builtin; refine wpList_copy rfl _ _ rfl a A.length cap A rfl rfl HA.out.2.2 rfl HR1.out (by omega) ?_; intro a2 c2 w2 g2 hs2 hg2 hb2)
  obtain ⟨ax, cx, hvx, hq1, hq2, hq3⟩ := hs2.shape
  rw [vals_len] at hvx hq1
  simp only [Value.slice.injEq] at hvx
  obtain ⟨rfl, -, rfl⟩ := hvx
  unfold maxLen at hq2
  have C1 := CP w2 a2 c2 (by omega) (by omega) hq3 (hs2.row rfl)
  have H2 : Hid (Row w2 a2 A ∧ Below w.heap.size w w2) := ⟨hs2.row rfl, HB1.out.trans (hb2.mono HB1.out.size)⟩
  clear hs2 hg2 hb2 hq3 HB1 HR1 CP
  go_wp2_with fail
  refine C1.mono ?_
  clear C1
  rintro e w3 ⟨a3, c3, rfl, h31, h32, h33, h34⟩
  have HB3 : Hid (Below w.heap.size w w3) := H2.out.2.trans (h34.mono H2.out.2.size)
  have H3 : Hid (Row w3 a3 zs ∧ Row w3 a2 A ∧ Row w3 a A) := ⟨h31, H2.out.1.old h34, HA.out.2.1.old HB3.out⟩
  have C2 := CR w3 a cap (by omega) (by omega) HA.out.2.2 H3.out.2.2
  rw [HZ.out] at h32 ⊢
  clear h31 h34 H2 CR
  go_wp2_with fail
  refine C2.mono ?_
  clear C2
  rintro e w4 ⟨a4, c4, rfl, h41, h42, h43, h44⟩
  have HB4 : Hid (Below w.heap.size w w4) := HB3.out.trans (h44.mono HB3.out.size)
  have HS1 := same_any a3 a4 Z c3 c4 zs w4 HZ.out (H3.out.1.old h44) h41
  have HS2 := same_any a2 a A.length c2 cap A w4 rfl (H3.out.2.1.old h44) (HA.out.2.1.old HB4.out)
  rw [HZ.out] at h42 ⊢
  clear h41 h44 H3 HB3
  go_wp2_with fail
  refine HS1.mono ?_
  clear HS1
  rintro e w' ⟨rfl, hw'⟩
  subst w'
  go_wp2_with fail
  refine HS2.mono ?_
  clear HS2
  rintro e w' ⟨rfl, hw'⟩
  subst w'
  go_wp2
  go_ret
  exact ⟨rfl, HB4.out⟩
end Go.Proofs.Ytcbmlioeeoghkaa
