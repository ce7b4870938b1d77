/- LZW: bytes that are written are read as they were. -/
import Derived.Test.YtcbmlioeeoghkaaLzCu
import Derived.Test.YtcbmlioeeoghkaaLzBm
import Derived.Test.YtcbmlioeeoghkaaLzBn
namespace Go.Proofs.Ytcbmlioeeoghkaa
open Go.RowKit
theorem outE_pos {L : Nat} {late : Int} (hL : 2 ≤ L ∧ L ≤ 8) (b : List Int) : 1 ≤ (outE (pkA L late b)).length := by
  rw [outE_len]
  unfold pkA
  simp only [cntE]
  have : L + 1 ≤ widW L 0 := (widN_le L _ hL.2).1
  omega
theorem back_rests {L n : Nat} (hL : L ≤ 8) {Z M A : List Int} (hb : lzO L n (Z ++ M) = lzEnd n [] A M) (hn : A.length ≤ n) (hM : M.length ≤ 140737488351232) : ∀ t, t ≤ (Z ++ M).length → (lzO L n ((Z ++ M).take t)).k = 1 → (lzO L n ((Z ++ M).take t)).rest.length + ((Z ++ M).length - t) ≤ 140737488351232 := by
  intro t ht hk
  have h := lzO_more hL n ((Z ++ M).take t) ((Z ++ M).drop t)
  rw [List.take_append_drop, hb] at h
  have hf : (lzO L n ((Z ++ M).take t)).fed ((Z ++ M).drop t) = { lzO L n ((Z ++ M).take t) with rest := (lzO L n ((Z ++ M).take t)).rest ++ (Z ++ M).drop t } := by
    unfold Lz.fed; rw [if_neg (by omega), if_pos hk]
  rw [hf, lzG_stop (.inl (by show (lzO L n ((Z ++ M).take t)).k ≠ 0; omega))] at h
  have hr := congrArg (fun s => s.rest.length) h
  unfold lzEnd at hr
  rw [if_pos hn] at hr
  simp only [List.length_append, List.length_drop] at hr ⊢
  omega
theorem end_yes {n : Nat} {A M : List Int} (h : A.length ≤ n) : lzEnd n [] A M = ⟨1, n - A.length, [], 0, [], 0, 0, A, M⟩ := by unfold lzEnd; rw [if_pos h]; rfl
set_option maxHeartbeats 3200000 in
set_option maxRecDepth 20000 in
theorem lback_walk (a : Option Addr) (len cap : Nat) (t : Int) (a2 : Option Addr) (len2 cap2 : Nat) (q : Int) (w : World) (ha : BArg w a len cap) (wt : (Lit.int .u16 t).wf = true) (ha2 : BArg w a2 len2 cap2) (wq : (Lit.int .u8 q).wf = true) :
    Calls Try.prog 7 #[.slice a len cap, .int .u16 t, .slice a2 len2 cap2, .int .u8 q] w fun e w' => e = .returned (.bool true) ∧ Below w.heap.size w w' := by
  have ht := bounds_u16 wt
  have hq := bounds_u8 wq
  clear wt wq
  obtain ⟨q, rfl⟩ : ∃ k : Nat, q = (k : Int) := ⟨q.toNat, by omega⟩
  obtain ⟨A, hA, hAl, hn, hc, hc0, hAr⟩ := ha
  obtain ⟨M, hM, hMl, hn2, hcm2, hc02, hMr⟩ := ha2
  have HA : Hid (Bytes A ∧ Row w a A ∧ (a = none → cap = 0) ∧ A.length = len) := ⟨hA, hAr, hc0, hAl⟩
  have HM : Hid (Bytes M ∧ Row w a2 M ∧ (a2 = none → cap2 = 0) ∧ M.length = len2) := ⟨hM, hMr, hc02, hMl⟩
  clear hA hAr hc0 hAl hM hMr hc02 hMl
  by_cases hbig : 6000 < (len : Int)
  · go_enter Try.func7, Try.ntmps7
    go_wp2_with (go_at_call 9; refine (lfixed_any _).mono ?_; rintro e w1 ⟨rfl, hbel⟩)
    go_ret
    exact ⟨rfl, hbel⟩
  have h8 : 2 ≤ 8 ∧ 8 ≤ 8 := by omega
  have HV : Hid (∀ v ∈ A, 0 ≤ v ∧ v < ((2 ^ 8 : Nat) : Int)) := fun v hv => HA.out.1 v hv
  obtain ⟨Z, hZ⟩ : ∃ Z, outE (pkA 8 t A) = Z := ⟨_, rfl⟩
  have HZ : Hid (outE (pkA 8 t A) = Z ∧ Bytes Z ∧ 1 ≤ Z.length ∧ Z.length ≤ 18004) := by
    have h1 := outE_pos (late := t) h8 A
    have h2 := outE_pk (late := t) h8 A
    have h3 := outE_bytes (pkA 8 t A)
    rw [hZ] at h1 h2 h3
    exact ⟨hZ, h3, h1, by have := HA.out; omega⟩
  obtain ⟨P, hP⟩ : ∃ P, Z.length = P := ⟨_, rfl⟩
  have HP : Hid (Z.length = P) := hP
  have hP1 : 1 ≤ P ∧ P ≤ 18004 := by have := HZ.out; omega
  clear hP
  go_enter Try.func7, Try.ntmps7
  go_wp2_with fail
  refine (lfixed_any w).mono ?_
  rintro e w1 ⟨rfl, b1⟩
  have C1 : Calls Try.prog 18 #[.slice a len cap, .int .i64 8, .int .i64 t] w1 fun e w' => NewBytes2 w1 (outE (pkA 8 t A)) e w' := lpack_yes (L := 8) h8 (by omega) (by omega) HA.out.2.2.2 hn (by omega) HA.out.2.2.1 (HA.out.2.1.old b1) HA.out.1 (fun v hv => (HV.out v hv).2)
  rw [hZ] at C1
  clear hZ
  have HB1 : Hid (Below w.heap.size w w1) := b1
  clear b1
  go_wp2_with fail
  refine C1.mono ?_
  clear C1
  rintro e w2 ⟨a1, c1, rfl, h11, h12, h13, h14, h15⟩
  have HB2 : Hid (Below w.heap.size w w2) := HB1.out.trans (h15.mono HB1.out.size)
  obtain ⟨b0, off0, rfl⟩ : ∃ b0 off0, a1 = some ⟨b0, off0, none⟩ := by
    rcases h14 with h | ⟨b0, off0, h, -⟩
    · have := HZ.out.2.2.1; rw [h] at this; simp at this
    · exact ⟨b0, off0, h⟩
  have HR1 : Hid (Row w2 (some ⟨b0, off0, none⟩) Z ∧ Row w2 a2 M) := ⟨h14, HM.out.2.1.old HB2.out⟩
  rw [HP.out] at h11 ⊢
  unfold maxLen at h12
  clear h13 h14 h15 HB1
  have hn48 : P + len2 ≤ 200000000000000 := by omega
  have hpc : (P : Int) ≤ (c1 : Int) := by omega
  go_wp2_with (first
    | (at_builtin; refine wpList_copy_own rfl _ _ rfl ⟨b0, off0, none⟩ P c1 Z rfl rfl HP.out HR1.out.1 (by omega) ?_; intro v3 w3 ho3 hb3; obtain ⟨a3, c3, hv3, -⟩ := row_of_owns ho3; subst hv3)
    | (at_builtin; refine wpList_more_big rfl _ _ rfl w2.heap.size P (.slice a3 P c3) Z rfl ho3 hP1.1 a2 len2 cap2 M rfl HM.out.2.2.1 HM.out.2.2.2 (HR1.out.2.old hb3) hn48 hb3.size ?_; intro v4 w4 ho4 hg4; obtain ⟨a4, c4, hv4, hr4, hl4, hcc4, hcm4, hn4⟩ := row_of_owns ho4; subst hv4)
    | fail)
  have hb4 : Below w2.heap.size w2 w4 := hb3.grown hg4 hb3.size (fun k hk => (ho3.lt k hk).1)
  have HB4 : Hid (Below w.heap.size w w4) := HB2.out.trans (hb4.mono HB2.out.size)
  have HP4 : Hid (Row w4 (some ⟨b0, off0, none⟩) Z) := HR1.out.1.old hb4
  have HR4 : Hid (Row w4 a4 (Z ++ M) ∧ (a4 = none → c4 = 0) ∧ (Z ++ M).length = P + len2) := ⟨hr4, hn4, hl4⟩
  have hbk : lzO 8 len (Z ++ M) = lzEnd len [] A M := by
    rw [← HZ.out.1]
    exact lzO_back h8 len HV.out HM.out.1
  have hbyZM : Bytes (Z ++ M) := fun x hx => by
    rcases List.mem_append.1 hx with h | h
    · exact HZ.out.2.1 x h
    · exact HM.out.1 x h
  unfold maxLen at hcm4
  have C2 : Calls Try.prog 17 #[.slice a4 (P + len2) c4, .int .i64 50, .int .i64 8, .int .i64 (len : Int)] w4 fun e w' => LaPost w4 (Z ++ M) 8 (len : Int).toNat e w' :=
    lall_any a4 (P + len2) c4 (Z ++ M) 50 8 (len : Int) w4 h8 hl4 hr4 hbyZM hcc4 (by omega) hn4 hn48 (by rw [show (len : Int).toNat = len by simp]; exact back_rests h8.2 hbk (by have := HA.out; omega) (by have := HM.out; omega)) (by omega) (by omega) (by omega)
  rw [show (len : Int).toNat = len by simp] at C2
  have HE1 : Hid (lzO 8 len (Z ++ M) = ⟨1, len - A.length, [], 0, [], 0, 0, A, M⟩) := by show _ = _; rw [hbk]; exact end_yes (by have := HA.out; omega)
  clear hbk hbyZM hr4 hl4 hn4 ho3 ho4 hb3 hb4 hg4 HR1 HB2
  go_wp2_with fail
  refine C2.mono ?_
  clear C2
  rintro e w5 hp5
  obtain ⟨S5, d5, a5, c5, rfl, hm5, hr5, hc5, -, -, hb5⟩ := hp5.open
  rw [HE1.out] at hm5 hr5 hc5 ⊢
  simp only at hr5 hc5 ⊢
  have HB5 : Hid (Below w.heap.size w w5) := HB4.out.trans (hb5.mono HB4.out.size)
  have HM5 : Hid (LMem w4.heap.size w5 d5 8 ⟨1, len - A.length, [], 0, [], 0, 0, A, M⟩ S5 ∧ Row w5 a5 A ∧ Row w5 (some ⟨b0, off0, none⟩) Z) := ⟨hm5, hr5, HP4.out.old hb5⟩
  have HD5 := ldone_any hm5
  have HS5 := same_any a5 a len c5 cap A w5 HA.out.2.2.2 hr5 (HA.out.2.1.old HB5.out)
  have HT5 := lrest_any hm5 (by have := HM.out; show M.length ≤ _; omega)
  rw [HA.out.2.2.2]
  clear hp5 hm5 hr5 hc5 hb5 HB4 HP4 HR4 HE1
  go_wp2_with fail
  refine HD5.mono ?_
  clear HD5
  rintro e w' ⟨rfl, hw'⟩
  subst w'
  go_wp2_with fail
  refine HS5.mono ?_
  clear HS5
  rintro e w' ⟨rfl, hw'⟩
  subst w'
  go_wp2_with fail
  refine HT5.mono ?_
  clear HT5
  rintro e w6 hp6
  obtain ⟨a6, c6, rfl, hr6, -, -, hb6⟩ := hp6.open
  have HB6 : Hid (Below w.heap.size w w6 ∧ Row w6 (some ⟨b0, off0, none⟩) Z) := ⟨HB5.out.trans (hb6.mono HB5.out.size), HM5.out.2.2.old hb6⟩
  have HS6 := same_any a6 a2 len2 c6 cap2 M w6 HM.out.2.2.2 hr6 (HM.out.2.1.old HB6.out.1)
  have hml : M.length = len2 := HM.out.2.2.2
  simp only [hml]
  clear hp6 hr6 hb6 HB5 HM5 hml
  go_wp2_with fail
  refine HS6.mono ?_
  clear HS6
  rintro e w' ⟨rfl, hw'⟩
  subst w'
  go_upto_region 9 with fail
  go_cut [14] (fun v wx => wx = w6 ∧ ∃ K : Nat, v = .int .i64 K ∧ K ≤ len)
  case first =>
    rcases (show (q : Int) < (len : Int) ∨ len < q ∨ q = len by omega) with hlt | hlt | hlt
    · go_wp2
      go_meet
      exact ⟨rfl, q, rfl, by omega⟩
    · have hlt2 : (len : Int) < (q : Int) := by omega
      go_wp2
      go_meet
      exact ⟨rfl, len, rfl, by omega⟩
    · subst hlt
      go_wp2
      go_meet
      exact ⟨rfl, q, rfl, by omega⟩
  case rest =>
    obtain ⟨hwc, K, rfl, hKM⟩ := hcut
    rw [hwc]
    clear hwc wc
    obtain ⟨R, hR⟩ : ∃ R, len - K = R := ⟨_, rfl⟩
    have HR : Hid (len - K = R) := hR
    have hRi : (len : Int) - (K : Int) = (R : Int) := by omega
    have hbk : lzO 8 R Z = lzEnd R [] A [] := by
      have := lzO_back (late := t) h8 R HV.out (more := []) (fun x hx => by cases hx)
      rwa [List.append_nil, HZ.out.1] at this
    have C3 : Calls Try.prog 17 #[.slice (some ⟨b0, off0, none⟩) P c1, .int .i64 50, .int .i64 8, .int .i64 (R : Int)] w6 fun e w' => LaPost w6 Z 8 (R : Int).toNat e w' :=
      lall_any (some ⟨b0, off0, none⟩) P c1 Z 50 8 (R : Int) w6 h8 HP.out HB6.out.2 HZ.out.2.1 h11 (by omega) (fun h => by cases h) (by omega) (lzO_rests h8.2 _ Z (by have := HZ.out; omega)) (by omega) (by omega) (by omega)
    rw [show (R : Int).toNat = R by simp] at C3
    obtain ⟨s7, hs7⟩ : ∃ s7, lzEnd R [] A [] = s7 := ⟨_, rfl⟩
    have HS7 : Hid (s7.out = A.take R ∧ (K = 0 → s7.er = 0) ∧ (K ≠ 0 → s7.er = 9)) := by
      have h1 := HA.out.2.2.2
      rw [← hs7]
      unfold lzEnd
      by_cases hK0 : K = 0
      · rw [if_pos (by omega)]
        exact ⟨by show [] ++ A = _; rw [List.nil_append, List.take_of_length_le (by omega)], fun _ => rfl, fun h => absurd hK0 h⟩
      · rw [if_neg (by omega)]
        exact ⟨rfl, fun h => absurd h hK0, fun _ => rfl⟩
    rw [hs7] at hbk
    have HBK : Hid (lzO 8 R Z = s7) := hbk
    clear hR hbk hs7
    have hRc : (R : Int) ≤ (cap : Int) := by omega
    go_wp2_with fail
    refine C3.mono ?_
    clear C3
    rintro e w7 hp7
    obtain ⟨S7, d7, a7, c7, rfl, -, hr7, hc7, -, -, hb7⟩ := hp7.open
    rw [HBK.out] at hr7 hc7 ⊢
    have hl7 : s7.out.length = R := by rw [HS7.out.1, List.length_take, HA.out.2.2.2]; have := HR.out; omega
    rw [hl7]
    have HB7 : Hid (Below w.heap.size w w7) := HB6.out.1.trans (hb7.mono HB6.out.1.size)
    have HS8 := same_any a7 a R c7 cap (A.take R) w7 (by rw [← HS7.out.1]; exact hl7) (by rw [← HS7.out.1]; exact hr7) ((HA.out.2.1.take R).old HB7.out)
    obtain ⟨E, hE⟩ : ∃ E, s7.er = E := ⟨_, rfl⟩
    have HE : Hid ((K = 0 → E = 0) ∧ (K ≠ 0 → E = 9)) := by rw [← hE]; exact HS7.out.2
    rw [hE]
    clear hp7 hr7 hc7 hb7 hl7 hE
    by_cases hK0 : K = 0
    · obtain rfl : E = 0 := HE.out.1 hK0
      subst hK0
      obtain rfl : R = len := by have := HR.out; omega
      go_wp2_with fail
      refine HS8.mono ?_
      clear HS8
      rintro e w' ⟨rfl, hw'⟩
      subst w'
      go_wp2
      go_ret
      exact ⟨rfl, HB7.out⟩
    · obtain rfl : E = 9 := HE.out.2 hK0
      have hKp : (0 : Int) < (K : Int) := by omega
      go_wp2_with fail
      refine HS8.mono ?_
      clear HS8
      rintro e w' ⟨rfl, hw'⟩
      subst w'
      go_wp2
      go_ret
      exact ⟨by simp; omega, HB7.out⟩
end Go.Proofs.Ytcbmlioeeoghkaa
