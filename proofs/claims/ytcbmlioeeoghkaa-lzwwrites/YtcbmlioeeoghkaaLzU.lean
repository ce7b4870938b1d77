/- LZW: Pack, of bytes that are roots. -/
import Derived.Test.YtcbmlioeeoghkaaLzT
namespace Go.Proofs.Ytcbmlioeeoghkaa
open Go.RowKit
theorem mkmapT (w : World) : (Instr.makeMap 66 none).run Try.prog w = .ok (.map (some w.heap.size)) (w.alloc (.map #[] 0)) := by
  simp [Instr.makeMap]
theorem pkE_fuel (L : Nat) (late : Int) : ∀ (n k : Nat) (b : List Int) (fs : List Tx) (wr : Nat), b.length ≤ n → b.length ≤ k → pkE L late n b fs wr = pkE L late k b fs wr
  | 0, 0, _, _, _, _, _ => rfl
  | 0, k + 1, b, fs, wr, h1, _ => by
    obtain rfl : b = [] := List.length_eq_zero_iff.1 (by omega)
    rfl
  | n + 1, 0, b, fs, wr, _, h2 => by
    obtain rfl : b = [] := List.length_eq_zero_iff.1 (by omega)
    rfl
  | n + 1, k + 1, [], fs, wr, _, _ => rfl
  | n + 1, k + 1, x :: r, fs, wr, h1, h2 => by
    unfold pkE
    cases hd : r.drop (lngN L fs x.toNat r).2 with
    | nil => rfl
    | cons y b =>
      have hl : (y :: b).length ≤ r.length := by rw [← hd, List.length_drop]; omega
      simp only [List.length_cons] at h1 h2 hl
      simp only
      rw [pkE_fuel L late n k (y :: b) [] 0 (by simp only [List.length_cons]; omega) (by simp only [List.length_cons]; omega), pkE_fuel L late n k (y :: b) (lrnP L fs (lngN L fs x.toNat r).1 y) (wr + 1) (by simp only [List.length_cons]; omega) (by simp only [List.length_cons]; omega)]
def NewBytes2 (w : World) (zs : List Int) (e : Ending) (w' : World) : Prop :=
  ∃ a cap, e = .returned (.tuple #[.slice a zs.length cap, .int .i64 0]) ∧ zs.length ≤ cap ∧ cap ≤ maxLen ∧ (a = none → cap = 0) ∧ Row w' a zs ∧ Below w.heap.size w w'
/-- Between two codes. -/
structure PkR (w : World) (p r m L : Nat) (late : Int) (N : Nat) (ALL : List Em) (bs : List Int) (ar : Option Addr) (cr : Nat) (fs : List Tx) (wn : Nat) (es : List Em) (g : Option Nat) (wr : World) : Prop where
  pk : Pk w.heap.size wr p r m g L fs wn es
  be : Below w.heap.size w wr
  row : Row w ar bs
  c0 : ar = none → cr = 0
  cle : bs.length ≤ cr
  cm : cr ≤ 9223372036854775807
  byt : Bytes bs
  rt : ∀ v ∈ bs, v < ((2 ^ L : Nat) : Int)
  all : es ++ pkE L late bs.length bs fs wn = ALL
  fl : fs.length ≤ wn ∧ fcN L + fs.length ≤ 4096
  bits : cntE es + 24 * bs.length ≤ 12 + 24 * N
  wl : wn + bs.length ≤ N
set_option maxHeartbeats 6400000 in
set_option maxRecDepth 100000 in
theorem lpack_yes {w : World} {av : Option Addr} {n cap L : Nat} {t : Int} {bs : List Int} (hL : 2 ≤ L ∧ L ≤ 8) (ht : 0 ≤ t) (hn4 : n ≤ 40000) (hbn : bs.length = n) (hnc : n ≤ cap) (hcap : cap ≤ 9223372036854775807) (hc0 : av = none → cap = 0) (hrow : Row w av bs) (hby : Bytes bs) (hrt : ∀ v ∈ bs, v < ((2 ^ L : Nat) : Int)) :
    Calls Try.prog 18 #[.slice av n cap, .int .i64 L, .int .i64 t] w fun e w' => NewBytes2 w (outE (pkA L t bs)) e w' := by
  have C := isLeast_any (L : Int) w
  rw [decide_eq_true (by omega)] at C
  have C2 := areRoots_any hL hbn hnc hcap hrow hby
  rw [decide_eq_true hrt] at C2
  have ht2 : ¬ t < 0 := by omega
  have htd : decide (t < 0) = false := decide_eq_false ht2
  obtain ⟨ALL, hALL⟩ : ∃ ALL, pkA L t bs = ALL := ⟨_, rfl⟩
  rw [hALL]
  have HA : Hid (bs.length = n ∧ Row w av bs ∧ Bytes bs ∧ (∀ v ∈ bs, v < ((2 ^ L : Nat) : Int)) ∧ (av = none → cap = 0) ∧ pkA L t bs = ALL ∧ 2 ≤ L ∧ L ≤ 8) := ⟨hbn, hrow, hby, hrt, hc0, hALL, hL⟩
  have hF : 6 ≤ fcN L ∧ fcN L ≤ 258 := by have := fc_bd hL; unfold fcN; omega
  clear hbn hrow hby hrt hc0 hALL
  have hmk := mkmapT
  go_enter Try.func18, Try.ntmps18
  go_wp2_with fail
  refine C.mono ?_
  clear C
  rintro e w1 ⟨rfl, hw1⟩
  subst w1
  go_wp2_with fail
  refine C2.mono ?_
  clear C2
  rintro e w1 ⟨rfl, hw1⟩
  subst w1
  go_wp2_with fail
  refine (newW_any w).mono ?_
  rintro e w1 ⟨r, rfl, hr1, hw1, hb1⟩
  obtain ⟨w3, hw3⟩ : ∃ w3, (w1.alloc (.map #[] 0)).alloc (.cells #[.int .i64 (L : Int), .pointer (some ⟨r, 0, none⟩), .map (some w1.heap.size), .int .i64 0] 68) = w3 := ⟨_, rfl⟩
  have hb3 : Below w1.heap.size w1 w3 := by rw [← hw3]; exact ((Below.refl _ w1).alloc (Nat.le_refl _) _).alloc (by simp) _
  have HP3 : Hid (Pk w.heap.size w3 (w1.heap.size + 1) r w1.heap.size none L [] 0 [] ∧ Below w.heap.size w w3) := by
    have hm3 : w3.heap[w1.heap.size]? = some (.map #[] 0) := by rw [← hw3, Below.heap_alloc _ _ _ (by simp)]; exact heap_alloc_new w1 _
    have hp3 : w3.heap[w1.heap.size + 1]? = some (.cells #[.int .i64 (L : Int), .pointer (some ⟨r, 0, none⟩), .map (some w1.heap.size), .int .i64 0] 68 (0, 0)) := by rw [← hw3]; have := heap_alloc_new (w1.alloc (.map #[] 0)) (.cells #[.int .i64 (L : Int), .pointer (some ⟨r, 0, none⟩), .map (some w1.heap.size), .int .i64 0] 68); rwa [World.size_alloc] at this
    have hs := hb1.size
    refine ⟨⟨hp3, ⟨[], hw1.old hb3, ?_⟩, MapT.of_made hm3, by omega, hr1, hs, (fun k hk => by cases hk)⟩, hb1.trans (hb3.mono hs)⟩
    exact ⟨fun x hx => by simp at hx, rfl, rfl, by simp [cntE, numE]⟩
  clear hw1 hb1 hb3 hr1
  obtain ⟨p, hp⟩ : ∃ p, w1.heap.size + 1 = p := ⟨_, rfl⟩
  obtain ⟨m, hm⟩ : ∃ m, w1.heap.size = m := ⟨_, rfl⟩
  have HP3' := HP3.out
  rw [hp, hm] at HP3'
  rw [hm] at hp hw3
  have CB := pbegin_any hL HP3'.1 (by simp [cntE]) (by omega)
  have HB3 : Hid (Below w.heap.size w w3) := HP3'.2
  clear HP3 HP3'
  go_wp2_with fail
  clear hp hm hw3 hmk
  refine CB.mono ?_
  clear CB
  rintro e w4 ⟨rfl, g4, hp4, hb4⟩
  have HR0 : Hid (PkR w p r m L t n ALL bs av cap [] 0 [(2 ^ L, widW L 0)] g4 w4) := by
    obtain ⟨h1, h2, h3, h4, h5, h6, h7, h8⟩ := HA.out
    have hwd := (widN_le L (fcN L + (0 - 1)) hL.2).2
    refine ⟨hp4, HB3.out.trans hb4, h2, h5, by omega, hcap, h3, h4, h6, ⟨Nat.le_refl _, by simp; omega⟩, ?_, by omega⟩
    rw [h1]
    show widW L 0 + 0 + 24 * n ≤ _
    unfold widW; omega
  have HAV : Hid (Value.slice av n cap = .slice av bs.length cap) := by show _ = _; rw [HA.out.1]
  clear hp4 hb4 HB3
  go_wp2
  go_loopw [0, 9, 10, 31, 32, 33, 34, 35, 36, 37, 38, 39, 40, 41, 42, 43, 44, 45, 46, 47, 48, 49, 50, 51, 52, 53, 54, 55, 56, 57, 58, 59, 60, 61, 62, 63, 64, 65, 66, 67, 68, 69, 70, 71, 72, 73] (fun v0 _ _ _ _ _ _ _ _ _ _ _ _ _ _ _ _ _ _ _ _ _ _ _ _ _ _ _ _ _ _ _ _ _ _ _ _ _ _ _ _ _ _ _ _ _ wr => ∃ (b : List Int) (ar : Option Addr) (cr : Nat) (fs : List Tx) (wn : Nat) (es : List Em) (g : Option Nat), Hid (v0 = .slice ar b.length cr) ∧ Hid (PkR w p r m L t n ALL b ar cr fs wn es g wr)) (fun v0 _ _ _ _ _ _ _ _ _ _ _ _ _ _ _ _ _ _ _ _ _ _ _ _ _ _ _ _ _ _ _ _ _ _ _ _ _ _ _ _ _ _ _ _ _ _ => match v0 with | .slice _ n _ => n | _ => 0)
  case atStart => exact ⟨bs, av, cap, _, _, _, g4, HAV.out, HR0.out⟩
  case round =>
    clear HR0 HAV
    obtain ⟨b, ar, cr, fs, wn, es, g, HV, HX⟩ := hrel
    obtain ⟨M, hM⟩ : ∃ M, b.length = M := ⟨_, rfl⟩
    rw [HV.out, hM]
    have HM : Hid (b.length = M) := hM
    have hM4 : M ≤ 40000 := by have := HX.out.wl; omega
    have hMc : M ≤ cr := by have := HX.out.cle; omega
    have hcr := HX.out.cm
    have hwn : wn ≤ 40000 := by have := HX.out.wl; omega
    have HBE : Hid (Below w.heap.size w wr) := HX.out.be
    clear hM HV
    cases b with
    | nil =>
      obtain rfl : M = 0 := HM.out.symm
      have CE := endCode_any hL wr
      have hw9 := (widN_le L (fcN L + (wn - 1)) hL.2)
      have CT := pput_any (c := 2 ^ L + 1) hL HX.out.pk (by have := (widN_le L (fcN L + (wn - 1)) hL.2).1; have h2 : 2 ^ (L + 1) ≤ 2 ^ widW L wn := Nat.pow_le_pow_right (by omega) this; have := fc_bd hL; rw [Nat.pow_succ] at h2; omega) (by have := HX.out.bits; omega) (by omega)
      have HAT : Hid (es ++ [(2 ^ L + 1, widW L wn)] = ALL) := HX.out.all
      have HBT : Hid (cntE (es ++ [(2 ^ L + 1, widW L wn)]) ≤ 2000000) := by
        have := HX.out.bits
        rw [cntE_app]; show cntE es + (widW L wn + 0) ≤ _; unfold widW; omega
      have HBB : Hid (Below w.heap.size w wr) := HBE.out
      generalize es ++ [(2 ^ L + 1, widW L wn)] = es2 at *
      generalize 2 ^ L + 1 = E1 at *
      clear HX hw9 HM HBE
      go_wp2_with fail
      refine CE.mono ?_
      rintro e wx ⟨rfl, hwx⟩
      subst wx
      go_wp2_with fail
      refine CT.mono ?_
      clear CT
      rintro e w9 ⟨rfl, g9, hp9, hb9⟩
      obtain ⟨zs9, hz9, hz9b⟩ := hp9.wz
      have hk1 := (four_cells hp9.pc).2.1
      have CO := outW_any r g9 zs9 _ w9 hz9 (by have := hz9b.2.1; have := HBT.out; omega)
      have HFI : Hid (zs9 = outE ALL ∧ Below w.heap.size w w9) := ⟨by have := hz9b.out; rwa [HAT.out] at this, HBB.out.trans hb9⟩
      clear hp9 hb9 hz9 hz9b
      go_wp2_with fail
      refine CO.mono ?_
      clear CO
      rintro e w10 ⟨a10, c10, rfl, h101, h102, h103, h104, h105⟩
      have HPP : Hid (NewBytes2 w (outE ALL) (.returned (.tuple #[.slice a10 zs9.length c10, .int .i64 0])) w10) := by
        rw [← HFI.out.1]
        exact ⟨a10, c10, rfl, h101, h102, h103, h104, HFI.out.2.trans (h105.mono HFI.out.2.size)⟩
      clear h101 h102 h103 h104 h105
      go_wp2
      go_ret2
      exact HPP.out
    | cons x rr =>
      have hx : 0 ≤ x ∧ x < ((2 ^ L : Nat) : Int) := ⟨(HX.out.byt x (by simp)).1, HX.out.rt x (by simp)⟩
      have hPb := fc_bd hL
      have hlr : rr.length + 1 = M := HM.out
      obtain ⟨c, k, hq⟩ : ∃ c k, lngN L fs x.toNat rr = (c, k) := ⟨_, _, rfl⟩
      have hqc : c < fcN L + fs.length := by have := lng_bound (L := L) (fs := fs) rr x.toNat (by unfold fcN; omega); rw [hq] at this; exact this
      have hqk : k ≤ rr.length := by have := lng_len (L := L) (fs := fs) rr x.toNat; rw [hq] at this; exact this
      have hmx : ∀ y r', rr.drop k = y :: r' → ixT fs c y = none := fun y r' h => by have := lng_max (L := L) (fs := fs) rr x.toNat y r'; rw [hq] at this; exact this h
      have hfl := HX.out.fl
      have C1 := plongest_any (bs := x :: rr) (n := M) (av := ar) (cap := cr) HX.out.pk.pc HX.out.pk.mp hL HX.out.fl.2 HM.out (by omega) (by omega) hMc hcr (HX.out.row.old HX.out.be) HX.out.byt
      simp only [List.getElem?_cons_zero, Option.getD_some, List.drop_succ_cons, List.drop_zero] at C1
      rw [hq] at C1
      obtain ⟨K, hK⟩ : ∃ K, k + 1 = K := ⟨_, rfl⟩
      simp only at C1
      rw [hK] at C1
      have hKM : K ≤ M := by omega
      have hMp : (0 : Int) < (M : Int) := by omega
      have HP1 : Hid (∀ z, Calls Try.prog 34 #[.pointer (some ⟨p, 0, none⟩), .int .i64 c] (wr.drewN z) fun e w' => PpP w.heap.size (wr.drewN z) p r m L fs wn (es ++ [(c, widW L wn)]) e w') := fun z => pput_any hL (HX.out.pk.drewN z) (widN_fits hL.2 (by omega) (by omega)) (by have := HX.out.bits; simp only [List.length_cons] at this; omega) (by omega)
      obtain ⟨E, hE⟩ : ∃ E, es ++ [(c, widW L wn)] = E := ⟨_, rfl⟩
      rw [hE] at HP1
      have hwb := widN_le L (fcN L + (wn - 1)) hL.2
      have HALL : Hid (E ++ (match rr.drop k with
          | [] => [(2 ^ L + 1, widW L (wn + 1))]
          | y :: b => if (wn : Int) + 1 - ((4096 - fcN L : Nat) : Int) = t then (2 ^ L, widW L (wn + 1)) :: pkE L t rr.length (y :: b) [] 0
            else pkE L t rr.length (y :: b) (lrnP L fs c y) (wn + 1)) = ALL) := by
        have h := HX.out.all
        simp only [List.length_cons, pkE] at h
        rw [hq] at h
        show _ = _
        rw [← hE, ← h, List.append_assoc]
        rfl
      have HBI : Hid (cntE E + 24 * (M - K) + 12 ≤ 12 + 24 * n ∧ wn + 1 + (M - K) ≤ n) := by
        have h1 := HX.out.bits
        have h2 := HX.out.wl
        simp only [List.length_cons] at h1 h2
        rw [← hE, cntE_app]
        show cntE es + (widW L wn + 0) + _ + 12 ≤ _ ∧ _
        unfold widW
        omega
      have HRO : Hid (Row w ar (x :: rr) ∧ (ar = none → cr = 0) ∧ (∀ v ∈ rr, v < ((2 ^ L : Nat) : Int)) ∧ Bytes rr ∧ k + 1 = K ∧ rr.length + 1 = M ∧ k ≤ rr.length ∧ (∀ y r', rr.drop k = y :: r' → ixT fs c y = none) ∧ c < 4096 ∧ fs.length ≤ wn ∧ fcN L + fs.length ≤ 4096) := ⟨HX.out.row, HX.out.c0, fun v hv => HX.out.rt v (by simp [hv]), fun v hv => HX.out.byt v (by simp [hv]), hK, hlr, hqk, hmx, by omega, hfl⟩
      clear HX hE hq hqc hqk hmx hfl hx hK hlr hwb
      go_wp2_with fail
      refine C1.mono ?_
      clear C1
      rintro e w1 ⟨⟨z, rfl⟩, rfl⟩
      have CP := HP1.out z
      clear HP1
      go_wp2_with fail
      refine CP.mono ?_
      clear CP
      rintro e w2 ⟨rfl, g2, hp2, hb2⟩
      obtain ⟨-, -, -, k3, kf⟩ := four_cells hp2.pc
      have f3 := kf 3
      have hs2 := hp2.setW (wn + 1)
      rw [show ((wn + 1 : Nat) : Int) = (wn : Int) + 1 from rfl] at hs2
      obtain ⟨w3, hw3⟩ : ∃ w3, w2.setCell ⟨p, 3, none⟩ (.int .i64 ((wn : Int) + 1)) = w3 := ⟨_, rfl⟩
      rw [hw3] at hs2
      have HP3 : Hid (Pk w.heap.size w3 p r m g2 L fs (wn + 1) E ∧ Below w.heap.size w w3) := ⟨hs2.1, HBE.out.trans ((show Below w.heap.size wr w2 from ⟨hb2.os, hb2.tape, hb2.output, hb2.size, hb2.block⟩).trans hs2.2)⟩
      clear hp2 hb2 kf hs2
      have hKMi : (K : Int) ≤ (M : Int) := by omega
      have hKci : (K : Int) ≤ (cr : Int) := by omega
      have hKc : K ≤ cr := by omega
      go_upto_region 9 with fail
      clear hw3 k3 f3
      go_cut [0, 52] (fun v0 v52 wx => wx = w3 ∧ v52 = v0 ∧ v0 = .slice (if cr = K then ar else Option.map (fun x => x.add K) ar) (M - K) (cr - K))
      case first =>
        by_cases hcK : cr = K
        · obtain rfl : M = K := by omega
          subst hcK
          go_wp2
          go_meet
          exact ⟨rfl, rfl, by simp⟩
        · have hcKi : ¬ (cr : Int) = (K : Int) := by omega
          go_wp2
          go_meet
          exact ⟨rfl, rfl, by rw [if_neg hcK]⟩
      case rest =>
        obtain ⟨rfl, rfl, hv0⟩ := hcut
        have HR2 : Hid (Row w (if cr = K then ar else Option.map (fun x => x.add K) ar) (rr.drop k) ∧ ((if cr = K then ar else Option.map (fun x => x.add K) ar) = none → cr - K = 0)) := by
          obtain ⟨r1, r2, -, -, r5, r6, r7, -⟩ := HRO.out
          have h := r1.cut K cr (by simp only [List.length_cons]; omega) (by simp only [List.length_cons]; omega)
          rw [← r5, List.drop_succ_cons] at h
          rw [r5] at h
          refine ⟨h, fun e => ?_⟩
          by_cases hcK : cr = K
          · omega
          · rw [if_neg hcK] at e
            cases ar with
            | none => have := r2 rfl; omega
            | some y => simp at e
        generalize (if cr = K then ar else Option.map (fun x => x.add K) ar) = ar2 at *
        subst hv0
        obtain ⟨C2, hC2⟩ : ∃ C2, cr - K = C2 := ⟨_, rfl⟩
        obtain ⟨M2, hM2⟩ : ∃ M2, M - K = M2 := ⟨_, rfl⟩
        have HC2 : Hid (cr - K = C2 ∧ M - K = M2 ∧ 1 ≤ K) := ⟨hC2, hM2, by have := HRO.out; omega⟩
        rw [hC2, hM2]
        have hMC2 : M2 ≤ C2 := by omega
        have hC2b : C2 ≤ 9223372036854775807 := by omega
        have hM2b : M2 ≤ 40000 := by omega
        have HLN : Hid ((rr.drop k).length = M2) := by have := HRO.out; rw [List.length_drop]; show _ = _; omega
        clear hC2 hM2 hKMi hKci hKc hKM
        cases hd : rr.drop k with
        | nil =>
          rw [hd] at HALL HLN
          obtain rfl : M2 = 0 := HLN.out.symm
          have CE := endCode_any hL wc
          have CT := pput_any (c := 2 ^ L + 1) hL HP3.out.1 (by have := (widN_le L (fcN L + (wn + 1 - 1)) hL.2).1; have h2 : 2 ^ (L + 1) ≤ 2 ^ widW L (wn + 1) := Nat.pow_le_pow_right (by omega) this; rw [Nat.pow_succ] at h2; omega) (by have := HBI.out; omega) (by omega)
          have HAT : Hid (E ++ [(2 ^ L + 1, widW L (wn + 1))] = ALL) := HALL.out
          have HBT : Hid (cntE (E ++ [(2 ^ L + 1, widW L (wn + 1))]) ≤ 2000000) := by
            have := HBI.out
            have hw9 := (widN_le L (fcN L + (wn + 1 - 1)) hL.2)
            rw [cntE_app]; show cntE E + (widW L (wn + 1) + 0) ≤ _; unfold widW; omega
          have HBB : Hid (Below w.heap.size w wc) := HP3.out.2
          generalize E ++ [(2 ^ L + 1, widW L (wn + 1))] = es2 at *
          generalize 2 ^ L + 1 = E1 at *
          clear HALL HLN HBI HP3 HR2 HC2 HRO HM HBE hd hMC2
          go_wp2_with fail
          refine CE.mono ?_
          rintro e wx ⟨rfl, hwx⟩
          subst wx
          go_wp2_with fail
          refine CT.mono ?_
          clear CT
          rintro e w9 ⟨rfl, g9, hp9, hb9⟩
          obtain ⟨zs9, hz9, hz9b⟩ := hp9.wz
          have hk1 := (four_cells hp9.pc).2.1
          have CO := outW_any r g9 zs9 _ w9 hz9 (by have := hz9b.2.1; have := HBT.out; omega)
          have HFI : Hid (zs9 = outE ALL ∧ Below w.heap.size w w9) := ⟨by have := hz9b.out; rwa [HAT.out] at this, HBB.out.trans hb9⟩
          clear hp9 hb9 hz9 hz9b
          go_wp2_with fail
          refine CO.mono ?_
          clear CO
          rintro e w10 ⟨a10, c10, rfl, h101, h102, h103, h104, h105⟩
          have HPP : Hid (NewBytes2 w (outE ALL) (.returned (.tuple #[.slice a10 zs9.length c10, .int .i64 0])) w10) := by
            rw [← HFI.out.1]
            exact ⟨a10, c10, rfl, h101, h102, h103, h104, HFI.out.2.trans (h105.mono HFI.out.2.size)⟩
          clear h101 h102 h103 h104 h105
          go_wp2
          go_ret2
          exact HPP.out
        | cons y rb =>
          rw [hd] at HALL HLN HR2
          have hM21 : 1 ≤ M2 := by have := HLN.out; simp only [List.length_cons] at this; omega
          obtain ⟨b0, off0, hav, hce⟩ : ∃ b0 off0, ar2 = some ⟨b0, off0, none⟩ ∧ wc.cell? ⟨b0, off0, none⟩ = some (.int .u8 y) := by
            rcases HR2.out.1.old HP3.out.2 with h | ⟨b0, off0, h1, h2⟩
            · cases h
            · exact ⟨b0, off0, h1, by have := h2 0 (by simp); simpa using this⟩
          have hyb : 0 ≤ y ∧ y < 256 := HRO.out.2.2.2.1 y (List.mem_of_mem_drop (by rw [hd]; simp))
          have CL := plearn_any (c := c) (y := y) hL HP3.out.1 HRO.out.2.2.2.2.2.2.2.2.1 hyb (HRO.out.2.2.2.2.2.2.2.1 y rb hd) (by have := HRO.out; omega)
          subst hav
          have hM20 : ¬ (M2 : Int) = 0 := by omega
          have hM2p : (0 : Int) < (M2 : Int) := by omega
          have hM2n : ¬ M2 = 0 := by omega
          obtain ⟨fs2, hfs2⟩ : ∃ fs2, lrnP L fs c y = fs2 := ⟨_, rfl⟩
          have HF2 : Hid (lrnP L fs c y = fs2 ∧ fs2.length ≤ wn + 1 ∧ fcN L + fs2.length ≤ 4096) := by rw [← hfs2]; exact ⟨rfl, lrnP_len (by omega) HRO.out.2.2.2.2.2.2.2.2.2.1 HRO.out.2.2.2.2.2.2.2.2.2.2⟩
          have HRB : Hid ((∀ v ∈ y :: rb, v < ((2 ^ L : Nat) : Int)) ∧ Bytes (y :: rb) ∧ (y :: rb).length ≤ rr.length) := by
            rw [← hd]
            exact ⟨fun v hv => HRO.out.2.2.1 v (List.mem_of_mem_drop hv), fun v hv => HRO.out.2.2.2.1 v (List.mem_of_mem_drop hv), by rw [List.length_drop]; omega⟩
          rw [hfs2] at CL
          clear hfs2 hd HRO HBE HM
          go_wp2_with fail
          refine CL.mono ?_
          clear CL
          rintro e w5 ⟨rfl, g5, hp5, hb5⟩
          obtain ⟨k0, -, -, k3, -⟩ := four_cells hp5.pc
          rw [show ((wn + 1 : Nat) : Int) = (wn : Int) + 1 from rfl] at k3
          have HP5 : Hid (Pk w.heap.size w5 p r m g5 L fs2 (wn + 1) E ∧ Below w.heap.size w w5) := ⟨hp5, HP3.out.2.trans hb5⟩
          have d0 : w5.drew.cell? ⟨p, 0, none⟩ = _ := k0
          have d3 : w5.drew.cell? ⟨p, 3, none⟩ = _ := k3
          have CR := proom_any hL d0
          obtain ⟨R, hR⟩ : ∃ R, 4096 - fcN L = R := ⟨_, rfl⟩
          rw [hR] at CR
          have HRR : Hid (4096 - fcN L = R) := hR
          obtain ⟨D, hD⟩ : ∃ D : Int, (wn : Int) + 1 - (R : Int) = D := ⟨_, rfl⟩
          have hwd : IntKind.i64.wrap ((wn : Int) + 1 - (R : Int)) = D := by rw [IntKind.wrap_i64]; omega
          have HD : Hid ((wn : Int) + 1 - (R : Int) = D) := hD
          clear hp5 hb5 k0 k3 hR hD HP3 hce
          go_upto_region 12 with fail
          refine wp_region_still_tail 8 (by kernel_rfl) (by kernel_rfl) ?_
          simp only [List.take_succ_cons, List.take_zero, List.drop_succ_cons, List.drop_zero]
          rw [show ({ w5 with drawn := w5.drawn + 1 } : World) = w5.drew from rfl]
          iterate 5 still_step
          still_call CR
          iterate 2 still_step
          refine wpStill_nil ?_
          by_cases hDt : D = t
          · have CB := pbegin_any hL (show Pk w.heap.size w5.drew p r m g5 L fs2 (wn + 1) E from HP5.out.1.drewN 1) (by have := HBI.out; omega) (by omega)
            have HALL2 : Hid ((E ++ [(2 ^ L, widW L (wn + 1))]) ++ pkE L t (y :: rb).length (y :: rb) [] 0 = ALL) := by
              have h := HALL.out
              rw [HRR.out, if_pos (by rw [HD.out]; exact hDt), pkE_fuel L t rr.length (y :: rb).length (y :: rb) [] 0 HRB.out.2.2 (Nat.le_refl _)] at h
              show _ = _
              rw [← h]; simp
            have HB2 : Hid (cntE (E ++ [(2 ^ L, widW L (wn + 1))]) + 24 * M2 ≤ 12 + 24 * n) := by
              have h1 := HBI.out
              have h2 := HC2.out
              have hw9 := (widN_le L (fcN L + (wn + 1 - 1)) hL.2)
              rw [cntE_app]; show cntE E + (widW L (wn + 1) + 0) + _ ≤ _; unfold widW; omega
            generalize E ++ [(2 ^ L, widW L (wn + 1))] = es2 at *
            subst hDt
            clear HALL
            go_wp2_with fail
            refine CB.mono ?_
            clear CB
            rintro e w6 ⟨rfl, g6, hp6, hb6⟩
            have HN : Hid (PkR w p r m L D n ALL (y :: rb) (some ⟨b0, off0, none⟩) C2 [] 0 es2 g6 w6) := by
              have hl := HLN.out
              refine ⟨hp6, HP5.out.2.trans ⟨hb6.os, hb6.tape, hb6.output, hb6.size, hb6.block⟩, HR2.out.1, (fun e => by cases e), by omega, hC2b, HRB.out.2.1, HRB.out.1, HALL2.out, ⟨Nat.le_refl _, by simp; omega⟩, ?_, ?_⟩
              · rw [hl]; exact HB2.out
              · rw [hl]; have := HBI.out; have := HC2.out; omega
            have HVV : Hid (Value.slice (some ⟨b0, off0, none⟩) M2 C2 = .slice (some ⟨b0, off0, none⟩) (y :: rb).length C2) := by show _ = _; rw [HLN.out]
            have HME : Hid (M2 < M) := by have := HC2.out; have := HLN.out; show _ < _; omega
            clear hp6 hb6 HP5 HR2 HRB HALL2 HB2 HBI HC2
            go_wp2
            go_roundw
            case rel => exact ⟨_, _, _, _, _, _, _, HVV.out, HN.out⟩
            case measure => exact HME.out
          · have hDtI : (D == t) = false := by simpa using hDt
            have HN : Hid (PkR w p r m L t n ALL (y :: rb) (some ⟨b0, off0, none⟩) C2 fs2 (wn + 1) E g5 w5.drew) := by
              have hl := HLN.out
              refine ⟨HP5.out.1.drewN 1, ⟨HP5.out.2.os, HP5.out.2.tape, HP5.out.2.output, HP5.out.2.size, HP5.out.2.block⟩, HR2.out.1, (fun e => by cases e), by omega, hC2b, HRB.out.2.1, HRB.out.1, ?_, HF2.out.2, ?_, ?_⟩
              · have h := HALL.out
                rw [HRR.out, if_neg (by rw [HD.out]; exact hDt), pkE_fuel L t rr.length (y :: rb).length (y :: rb) _ _ HRB.out.2.2 (Nat.le_refl _), HF2.out.1] at h
                exact h
              · rw [hl]; have := HBI.out; have := HC2.out; omega
              · rw [hl]; have := HBI.out; have := HC2.out; omega
            have HVV : Hid (Value.slice (some ⟨b0, off0, none⟩) M2 C2 = .slice (some ⟨b0, off0, none⟩) (y :: rb).length C2) := by show _ = _; rw [HLN.out]
            have HME : Hid (M2 < M) := by have := HC2.out; have := HLN.out; show _ < _; omega
            clear HP5 HR2 HRB HALL HBI HC2
            go_wp2
            go_roundw
            case rel => exact ⟨_, _, _, _, _, _, _, HVV.out, HN.out⟩
            case measure => exact HME.out
end Go.Proofs.Ytcbmlioeeoghkaa
