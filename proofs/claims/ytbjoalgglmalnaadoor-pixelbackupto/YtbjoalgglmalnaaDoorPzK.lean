/- PixelBack: the walk. -/
import Derived.Test.YtbjoalgglmalnaaDoorPzJ
namespace Go.Proofs.YtbjoalgglmalnaaDoor
open Go.RowKit
def NewO (w : World) (zs : List Int) (e : Ending) (w' : World) : Prop :=
  ∃ v g, e = .returned (.tuple #[v, .int .i64 0]) ∧ Sl w' 5 v g (vals zs) ∧ (∀ k, g = some k → w.heap.size ≤ k) ∧ Below w.heap.size w w'
theorem newO_of_owns {w w' : World} {v : Value} {n : Nat} {zs : List Int} (h : w'.ownsRow w.heap.size 5 1 v n (vals zs)) (hb : Below w.heap.size w w') : NewO w zs (.returned (.tuple #[v, .int .i64 0])) w' := by
  obtain ⟨g, hs, hg⟩ := Sl.of_owns h
  exact ⟨v, g, rfl, hs, hg, hb⟩
set_option maxHeartbeats 1600000 in
theorem pack_own (a : Option Addr) (n c d : Nat) (s : List Int) (w : World) (hd : isDp d) (hs : allB (2 ^ d) s) (hn : s.length = n) (hn2 : n ≤ 17592186044416) (hr : IRow w a s) : Calls Tryd.prog 10 #[.slice a n c, .int .i64 d] w fun e w' => NewO w (pkL d s) e w' := by
  obtain ⟨d1, d2, d3, d4⟩ := pow_d hd
  have C1 := isDepth_any d w
  rw [decide_eq_true hd] at C1
  have C2 := allBelow_any (2 ^ d) a n c s w hn hr (by omega)
  rw [decide_eq_true hs] at C2
  have hnd : n * d ≤ n * 16 := Nat.mul_le_mul_left n (by omega)
  obtain ⟨M, hM⟩ : ∃ M, n * d = M := ⟨_, rfl⟩
  have hMi : (n : Int) * (d : Int) = (M : Int) := by rw [← hM]; simp
  rw [hM] at hnd
  obtain ⟨m, hm⟩ : ∃ m, pkM d n = m := ⟨_, rfl⟩
  have hmM : (M + 7) / 8 = m := by rw [← hm, ← hM]; rfl
  have hq : ((M : Int) + 8 - 1).tdiv 8 = (m : Int) := by rw [Int.tdiv_eq_ediv_of_nonneg (by omega)]; omega
  have hq2 : ((M : Int) + 7).tdiv 8 = (m : Int) := by rw [Int.tdiv_eq_ediv_of_nonneg (by omega)]; omega
  have hmb : m ≤ 35184372088833 := by omega
  have HS : Hid (isDp d ∧ allB (2 ^ d) s ∧ s.length = n ∧ IRow w a s ∧ pkM d s.length = m) := ⟨hd, hs, hn, hr, by rw [hn]; exact hm⟩
  have HP : Hid (∀ i, i < n → PkA d s i → ∀ g w, w.ownsRow g 5 1 (.slice (some ⟨g, 0, none⟩) m m) m (vals (pkP d s m i)) →
    Calls Tryd.prog 26 #[.slice (some ⟨g, 0, none⟩) m m, .int .i64 i, .int .i64 d, .int .i64 (s[i]?.getD 0)] w (fun e w' => PutPost w g g m (pkP d s m (i + 1)) e w') ∧ PkA d s (i + 1)) := fun i hi hp g w hw => by
    have := pk_put hd hs (by rw [hn]; exact hi) (by omega) hp g g w (by rw [hn, hm]; exact hw)
    rw [hn, hm] at this
    exact this
  obtain ⟨i0, hi0, hz0, hz1, hz2⟩ := info_parts Tryd.info5
  clear hs hr hd hn hm hM hmM
  obtain ⟨P, hPP⟩ : ∃ P, (2 : Int) ^ d = P := ⟨_, rfl⟩
  rw [hPP] at d3 d4 C2
  go_enter Tryd.func10, Tryd.ntmps10
  go_wp2_with fail
  refine C1.mono ?_
  rintro e w1 ⟨rfl, rfl⟩
  go_wp2_with fail
  refine C2.mono ?_
  rintro e w1 ⟨rfl, rfl⟩
  clear C1 C2
  go_wp2_with (at_make; refine wpList_make_full _ rfl _ _ 24 rfl w1.heap.size 5 i0 (.int .u8 0) 1 Tryd.underlying24 hi0 hz0 hz1 .i64 .i64 _ _ m rfl rfl rfl rfl ?b2 ?b3 ?b4 ?_)
  case b2 => rw [hz2]; omega
  case b3 => unfold maxLen; omega
  case b4 => exact Nat.le_refl _
  intro w3 hown hgrow
  rw [made_valsX] at hown
  have HI : Hid (w3.ownsRow w1.heap.size 5 1 (.slice (some ⟨w1.heap.size, 0, none⟩) m m) m (vals (pkP d s m 0)) ∧ PkA d s 0 ∧ Below w1.heap.size w1 w3) := ⟨hown, pkA_zero d s, ⟨hgrow.os, hgrow.tape, hgrow.output, hgrow.size, fun k hk => hgrow.block k hk (by simp)⟩⟩
  clear hown hgrow
  generalize hG : w1.heap.size = g at *
  have HG : Hid (w1.heap.size = g) := hG
  clear hG
  go_wp2
  go_loopw [7, 8, 29] (fun _ _ v wr => ∃ i : Nat, i ≤ n ∧ v = .int .i64 i ∧ Hid (wr.ownsRow g 5 1 (.slice (some ⟨g, 0, none⟩) m m) m (vals (pkP d s m i)) ∧ PkA d s i ∧ Below g w1 wr)) (fun _ _ v _ => n - (intOf v).toNat)
  case atStart => exact ⟨0, Nat.zero_le _, rfl, HI⟩
  case round =>
    clear HI
    obtain ⟨i, hi, rfl, HR⟩ := hrel
    by_cases hlt : i < n
    · obtain ⟨b, off, rfl, hc⟩ := (HS.out.2.2.2.1.old (by rw [HG.out]; exact HR.out.2.2)).at i (by rw [HS.out.2.2.1]; exact hlt)
      obtain ⟨CP, hpa⟩ := HP.out i hlt HR.out.2.1 g wr HR.out.1
      have HPA : Hid (PkA d s (i + 1) ∧ Below g w1 wr ∧ wr.ownsRow g 5 1 (.slice (some ⟨g, 0, none⟩) m m) m (vals (pkP d s m i))) := ⟨hpa, HR.out.2.2, HR.out.1⟩
      clear HR hpa
      generalize s[i]?.getD 0 = z at *
      go_wp2_with fail
      refine CP.mono ?_
      clear CP
      rintro e w4 ⟨rfl, h4, g4⟩
      have H4 : Hid (w4.ownsRow g 5 1 (.slice (some ⟨g, 0, none⟩) m m) m (vals (pkP d s m (i + 1))) ∧ PkA d s (i + 1) ∧ Below g w1 w4) :=
        ⟨h4, HPA.out.1, HPA.out.2.1.grown g4 (Nat.le_trans (Nat.le_of_eq HG.out.symm) HPA.out.2.1.size) (fun k hk => by cases hk; exact Nat.le_refl _)⟩
      clear h4 g4 HPA hc
      go_wp2
      go_roundw
      case rel => exact ⟨i + 1, hlt, by go_num, H4⟩
      case measure => simp [intOf]; omega
    · obtain rfl : i = n := by omega
      have HF : Hid (NewO w1 (pkL d s) (.returned (.tuple #[.slice (some ⟨g, 0, none⟩) m m, .int .i64 0])) wr) := by
        have e : pkL d s = pkP d s m i := by unfold pkL; rw [HS.out.2.2.2.2, HS.out.2.2.1]
        rw [e]
        exact newO_of_owns (by rw [HG.out]; exact HR.out.1) (by rw [HG.out]; exact HR.out.2.2)
      clear HR
      go_wp2
      go_ret2
      exact HF.out

theorem want_pow {d : Nat} (hd : isDp d) (z : Int) : bits .and .i64 z (2 ^ d - 1) = z % 2 ^ d := by
  obtain ⟨q1, q2, q3, q4⟩ := pow_d hd
  have h := want_eq z d (by omega)
  have q5 := two_pos d
  rw [q3, show wrap64 ((2 : Int) ^ d - 1) = 2 ^ d - 1 from by generalize (2 : Int) ^ d = P at *; unfold wrap64; omega] at h
  exact h
def dL5 : List Nat := [1, 2, 4, 8, 16]
def maskL (d : Nat) (s : List Int) : List Int := s.map (· % 2 ^ d)
theorem maskL_all (d : Nat) (s : List Int) : allB (2 ^ d) (maskL d s) := by
  intro v hv
  unfold maskL at hv
  obtain ⟨x, _, rfl⟩ := List.mem_map.mp hv
  exact ⟨Int.emod_nonneg _ (by have := two_pos d; omega), Int.emod_lt_of_pos _ (two_pos d)⟩
theorem maskL_snoc (d : Nat) (s : List Int) (k : Nat) (hk : k < s.length) : maskL d (s.take (k + 1)) = maskL d (s.take k) ++ [s[k]?.getD 0 % 2 ^ d] := by
  unfold maskL
  rw [List.take_add_one, List.getElem?_eq_getElem hk, List.map_append]; rfl
theorem unL_back {d : Nat} {s : List Int} (hd : isDp d) (hs : allB (2 ^ d) s) (more : List Int) (hm : Bytes more) : unL d s.length (pkL d s ++ more) = s := by
  apply List.ext_getElem?
  intro i
  by_cases h : i < s.length
  · unfold unL
    rw [List.getElem?_map, List.getElem?_range h, Option.map_some, get_back hd hs more hm i h, List.getElem?_eq_getElem h]; rfl
  · rw [List.getElem?_eq_none (by rw [unL_len]; omega), List.getElem?_eq_none (by omega)]
set_option maxHeartbeats 6400000 in
theorem pback_d (a : Option Addr) (n c : Nat) (dep : Int) (m : Option Addr) (mn mc : Nat) (k d : Nat) (s y : List Int) (w : World) (ht : Tab w) (hn : s.length = n) (hnb : n ≤ 1048576) (hr : IRow w a s) (hdep : 0 ≤ dep ∧ dep < 256) (hk : dep % 5 = k) (hk5 : k < 5) (hkd : dL5[k]?.getD 0 = d) (hd : isDp d)
    (yb : Bytes y) (hy : y.length = mn) (hyb : mn ≤ 1048576) (hyz : m = none → mc = 0) (ry : Row w m y) :
    Calls Tryd.prog 5 #[.slice a n c, .int .u8 dep, .slice m mn mc] w fun e w' => e = .returned (.bool true) ∧ Below w.heap.size w w' := by
  have C0 := fixed_any w ht
  have htm : dep.tmod 5 = k := by rw [Int.tmod_eq_emod_of_nonneg hdep.1]; exact hk
  obtain ⟨g1, g2, _, _⟩ := pow_d hd
  have HS : Hid (s.length = n ∧ IRow w a s ∧ isDp d ∧ Bytes y ∧ y.length = mn ∧ Row w m y ∧ (m = none → mc = 0)) := ⟨hn, hr, hd, yb, hy, ry, hyz⟩
  obtain ⟨B, hB⟩ : ∃ B, B = w.heap.size := ⟨_, rfl⟩
  have HB : Hid (B = w.heap.size) := hB
  clear ht hn hr hdep hd yb hy ry hB hyz
  go_enter Tryd.func5, Tryd.ntmps5
  go_wp2_with fail
  refine C0.mono ?_
  clear C0
  rintro e w1 ⟨rfl, hb1⟩
  have hc : (w1.alloc (.cells #[.int .i64 1, .int .i64 2, .int .i64 4, .int .i64 8, .int .i64 16] 3)).cell? ⟨w1.heap.size, k, none⟩ = some (.int .i64 d) := by
    rw [World.cell?_alloc_mark, ← hkd]
    match k, hk5 with
    | 0, _ | 1, _ | 2, _ | 3, _ | 4, _ => rfl
  obtain ⟨w2, hw2⟩ : ∃ w2, w1.alloc (.cells #[.int .i64 1, .int .i64 2, .int .i64 4, .int .i64 8, .int .i64 16] 3) = w2 := ⟨_, rfl⟩
  have HB2 : Hid (Below B w w2) := by
    show Below _ _ _
    rw [← hw2, HB.out]; exact hb1.alloc hb1.size _
  rw [hw2] at hc
  clear hb1
  go_wp2
  go_loopw [8, 10, 24] (fun o _ v wr => ∃ (i : Nat) (g : Option Nat), i ≤ n ∧ v = .int .i64 i ∧ Hid (Sl wr 3 o g (ivals (maskL d (s.take i))) ∧ (∀ q, g = some q → B ≤ q) ∧ Below B w wr)) (fun _ _ v _ => n - (intOf v).toNat)
  case atStart => exact ⟨0, none, Nat.zero_le _, rfl, Sl.nil _ _, (by intro k hk; cases hk), HB2.out⟩
  case round =>
    obtain ⟨i, g, hi, rfl, HR⟩ := hrel
    obtain ⟨ao, co, hv, -, -, -⟩ := HR.out.1.shape
    have hln : (maskL d (s.take i)).length = i := by unfold maskL; rw [List.length_map, List.length_take, HS.out.1, Nat.min_eq_left hi]
    rw [ivals_len, hln] at hv
    have HLn : Hid ((maskL d (s.take i)).length = i) := hln
    clear hln
    subst hv
    by_cases hlt : i < n
    · obtain ⟨b, off, rfl, hcz⟩ := (HS.out.2.1.old (by rw [← HB.out]; exact HR.out.2.2)).at i (by rw [HS.out.1]; exact hlt)
      have HT : Hid (maskL d (s.take (i + 1)) = maskL d (s.take i) ++ [s[i]?.getD 0 % 2 ^ d]) := maskL_snoc d s i (by rw [HS.out.1]; exact hlt)
      generalize s[i]?.getD 0 = z at *
      have hw : bits .and .i64 z (2 ^ d - 1) = z % 2 ^ d := want_pow HS.out.2.2.1 z
      have HBs : Hid (B ≤ wr.heap.size) := (by have := HR.out.2.2.size; have := HB.out; omega : B ≤ wr.heap.size)
      go_wp2_with (at_builtin; refine wpList_push_intZ rfl _ _ rfl B w wr (z % 2 ^ d) rfl _ g (maskL d (s.take i)) rfl HR.out.1 rfl (by rw [HLn.out]; omega) HR.out.2.2 HBs.out HR.out.2.1 ?_)
      intro v' w' g'' hsl' hg' hbel'
      have HF : Hid (Sl w' 3 v' g'' (ivals (maskL d (s.take (i + 1)))) ∧ (∀ q, g'' = some q → B ≤ q) ∧ Below B w w') := ⟨by rw [HT.out]; exact hsl', hg', hbel'⟩
      clear hsl' hg' hbel' HR
      go_wp2
      go_roundw
      case rel => exact ⟨i + 1, g'', by omega, by go_num, HF.out⟩
      case measure => simp [intOf]; omega
    · obtain rfl : i = n := by omega
      have hts : s.take i = s := List.take_of_length_le (by rw [HS.out.1]; exact Nat.le_refl _)
      have HM : Hid (IRow wr ao (maskL d s) ∧ Below B w wr ∧ (maskL d s).length = i ∧ allB (2 ^ d) (maskL d s) ∧ Sl wr 3 (.slice ao i co) g (ivals (maskL d s))) := by
        have h1 := HR.out.1
        have h2 := HLn.out
        rw [hts] at h1 h2
        exact ⟨h1.irow rfl, HR.out.2.2, h2, maskL_all d s, h1⟩
      clear HR HLn hts
      generalize maskL d s = l at *
      have CP := pack_own ao i co d l wr HS.out.2.2.1 HM.out.2.2.2.1 HM.out.2.2.1 (by omega) HM.out.1
      go_wp2_with fail
      refine CP.mono ?_
      clear CP
      rintro e w3 ⟨v3, g3, rfl, s3, gs3, b3⟩
      obtain ⟨a3, c3, hv3, _, _, _⟩ := s3.shape
      rw [vals_len] at hv3
      have hpl : (pkL d l).length = (i * d + 7) / 8 := by unfold pkL; rw [pkP_len, HM.out.2.2.1]; rfl
      rw [hpl] at hv3
      have hid : i * d ≤ 1048576 * 16 := Nat.mul_le_mul hnb (by omega)
      obtain ⟨P, hP⟩ : ∃ P, i * d = P := ⟨_, rfl⟩
      have hPi : (i : Int) * (d : Int) = (P : Int) := by rw [← hP]; simp
      rw [hP] at hid hpl hv3
      obtain ⟨Q, hQ⟩ : ∃ Q, (P + 7) / 8 = Q := ⟨_, rfl⟩
      have hQ1 : ((P : Int) + 7) / 8 = (Q : Int) := by omega
      have hQ2 : ((P : Int) + 7).tdiv 8 = (Q : Int) := by rw [Int.tdiv_eq_ediv_of_nonneg (by omega)]; omega
      rw [hQ] at hpl hv3
      have HPQ : Hid ((pkL d l).length = Q ∧ i * d = P ∧ (P + 7) / 8 = Q) := ⟨hpl, hP, hQ⟩
      have hQb : Q ≤ 2097153 := by omega
      subst hv3
      have H3 : Hid (Sl w3 5 (.slice a3 Q c3) g3 (vals (pkL d l)) ∧ (∀ k, g3 = some k → B ≤ k) ∧ Below B w w3 ∧ IRow w3 ao l ∧ Row w3 m y ∧ Sl w3 3 (.slice ao i co) g (ivals l)) := by
        have hbb : Below B w w3 := HM.out.2.1.trans (b3.mono (by have := HM.out.2.1.size; rw [HB.out]; exact this))
        refine ⟨s3, fun k hk => by have := gs3 k hk; have := HM.out.2.1.size; have := HB.out; omega, hbb, HM.out.1.old b3, HS.out.2.2.2.2.2.1.old (by rw [← HB.out]; exact hbb), HM.out.2.2.2.2.same fun k hk => b3.block k (HM.out.2.2.2.2.lt hk)⟩
      clear s3 gs3 b3 hpl hP hQ
      go_wp2_with (at_builtin; refine wpList_more rfl _ _ rfl (.slice a3 Q c3) g3 (pkL d l) rfl H3.out.1 m mn mc y rfl HS.out.2.2.2.2.2.2 HS.out.2.2.2.2.1 H3.out.2.2.2.2.1 (by have := HPQ.out.1; omega) ?_)
      intro v7 w7 g7 hs7 hg7 hgr7
      have hgu : ∀ k, g7 = some k → B ≤ k := fun k hk => by
        rcases hg7 with e | ⟨j, e, hj⟩
        · exact H3.out.2.1 k (by rw [← e]; exact hk)
        · rw [e] at hk; cases hk; have := H3.out.2.2.1.size; have := HB.out; omega
      have hb7 : Below B w w7 := H3.out.2.2.1.grown hgr7 (by have := H3.out.2.2.1.size; rw [HB.out]; exact this) H3.out.2.1
      obtain ⟨a7, c7, hv7, _, _, _⟩ := hs7.shape
      have h7l : (pkL d l ++ y).length = Q + mn := by rw [List.length_append, HPQ.out.1, HS.out.2.2.2.2.1]
      rw [vals_len, h7l] at hv7
      subst hv7
      have HbyL : Hid (Bytes (pkL d l ++ y)) := fun x hx => by
        rcases List.mem_append.mp hx with q | q
        · exact pkL_byte HS.out.2.2.1 HM.out.2.2.2.1 x q
        · exact HS.out.2.2.2.1 x q
      have CU := unpack_yes a7 (Q + mn) c7 d i (pkL d l ++ y) w7 HS.out.2.2.1 (by omega) h7l HbyL.out (hs7.row rfl) (by have := HPQ.out; omega)
      have hub := unL_back HS.out.2.2.1 HM.out.2.2.2.1 y HS.out.2.2.2.1
      rw [HM.out.2.2.1] at hub
      rw [hub] at CU
      have H7 : Hid (Below B w w7 ∧ IRow w7 ao l ∧ l.length = i) := ⟨hb7, (H3.out.2.2.2.2.2.same fun k hk => hgr7.block k (H3.out.2.2.2.2.2.lt hk) (fun e1 => H3.out.2.2.2.2.2.apart (by decide) H3.out.1 k hk e1.symm)).irow rfl, HM.out.2.2.1⟩
      clear hs7 hg7 hgr7 hgu hb7 h7l hub
      go_wp2_with fail
      refine CU.mono ?_
      clear CU
      rintro e w8 ⟨a8, c8, rfl, r8, b8⟩
      rw [H7.out.2.2]
      have CS := rsameI_any a8 i c8 ao i co l l w8 H7.out.2.2 H7.out.2.2 r8 (H7.out.2.1.old b8) (by omega)
      rw [decide_eq_true rfl] at CS
      have HB8 : Hid (Below w.heap.size w w8) := by
        have := H7.out.1.trans (b8.mono (by have := H7.out.1.size; rw [HB.out]; exact this))
        rw [HB.out] at this; exact this
      clear b8 r8
      go_wp2_with fail
      refine CS.mono ?_
      clear CS
      rintro e w9 ⟨rfl, b9⟩
      have HB9 : Hid (Below w.heap.size w w9) := HB8.out.trans (b9.mono HB8.out.size)
      clear b9
      go_wp2
      go_ret
      exact ⟨by simp, HB9.out⟩
theorem pback_walk (a : Option Addr) (n c : Nat) (dep : Int) (m : Option Addr) (mn mc : Nat) (w : World) (ht : Tab w) (ha : IArg w a n c ∧ c ≤ 1048576) (hdep : (Lit.int .u8 dep).wf = true) (hm : BArg w m mn mc ∧ mc ≤ 1048576) :
    Calls Tryd.prog 5 #[.slice a n c, .int .u8 dep, .slice m mn mc] w fun e w' => e = .returned (.bool true) ∧ Below w.heap.size w w' := by
  obtain ⟨⟨s, hn, hc, _, _, hr⟩, hcb⟩ := ha
  obtain ⟨⟨y, yb, hy, hmc, _, hyz, ry⟩, hmb⟩ := hm
  have hb := bounds_u8 hdep
  obtain ⟨k, hk⟩ : ∃ k : Nat, dep % 5 = k := ⟨(dep % 5).toNat, by omega⟩
  have hk5 : k < 5 := by omega
  refine pback_d a n c dep m mn mc k (dL5[k]?.getD 0) s y w ht hn (by omega) hr (by omega) hk hk5 rfl ?_ yb hy (by omega) hyz ry
  match k, hk5 with
  | 0, _ | 1, _ | 2, _ | 3, _ | 4, _ => decide
end Go.Proofs.YtbjoalgglmalnaaDoor
