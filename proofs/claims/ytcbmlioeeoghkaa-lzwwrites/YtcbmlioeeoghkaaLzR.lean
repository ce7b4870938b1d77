/- LZW's packer: begin, room, learn, longest. -/
import Derived.Test.YtcbmlioeeoghkaaLzQ
namespace Go.Proofs.Ytcbmlioeeoghkaa
open Go.RowKit
set_option maxHeartbeats 1600000 in
set_option maxRecDepth 100000 in
theorem pbegin_any {base : Nat} {w : World} {p r m : Nat} {g : Option Nat} {L : Nat} {fs : List Tx} {wr : Nat} {es : List Em} (hL : 2 ≤ L ∧ L ≤ 8) (h : Pk base w p r m g L fs wr es) (hn : cntE es ≤ 1000000) (hw : wr ≤ 900000) :
    Calls Try.prog 32 #[.pointer (some ⟨p, 0, none⟩)] w fun e w' => PpP base w p r m L [] 0 (es ++ [(2 ^ L, widW L wr)]) e w' := by
  have hc : 2 ^ L < 2 ^ widW L wr := Nat.pow_lt_pow_right (by omega) (by have := (widN_le L (fcN L + (wr - 1)) hL.2).1; unfold widW; omega)
  obtain ⟨k0, -⟩ := four_cells h.pc
  have C1 := clearCode_any hL w
  have C2 := pput_any hL h hc hn hw
  obtain ⟨P, hP⟩ : ∃ P, 2 ^ L = P := ⟨_, rfl⟩
  rw [hP] at C1 C2 ⊢
  generalize es ++ [(P, widW L wr)] = es2 at *
  clear h hc hn hw hP
  go_enter Try.func32, Try.ntmps32
  go_wp2_with fail
  refine C1.mono ?_
  clear C1
  rintro e w1 ⟨rfl, hw1⟩
  subst w1
  go_wp2_with fail
  refine C2.mono ?_
  clear C2
  rintro e w1 ⟨rfl, g1, hp1, hb1⟩
  obtain ⟨w2, hcl, hm2, hg2⟩ := hp1.mp.clear
  obtain ⟨hp2, hb2⟩ := hp1.setM hm2 hg2
  obtain ⟨hp3, hb3⟩ := hp2.setW 0
  obtain ⟨-, -, k2, -, -⟩ := four_cells hp1.pc
  obtain ⟨-, -, -, k3, kf⟩ := four_cells hp2.pc
  have f3 := kf 3
  have HE : Hid (PpP base w p r m L [] 0 es2 (.returned (.tuple #[])) (w2.setCell ⟨p, 3, none⟩ (.int .i64 0))) := ⟨rfl, g1, hp3, (hb1.trans hb2).trans hb3⟩
  clear hp1 hb1 hm2 hg2 hp2 hb2 hp3 hb3 kf k0
  go_wp2
  go_end0
  exact HE.out
set_option maxHeartbeats 400000 in
theorem proom_any {w : World} {p L : Nat} (hL : 2 ≤ L ∧ L ≤ 8) (k0 : w.cell? ⟨p, 0, none⟩ = some (.int .i64 L)) : Calls Try.prog 36 #[.pointer (some ⟨p, 0, none⟩)] w fun e w' => e = .returned (.int .i64 ((4096 - fcN L : Nat) : Int)) ∧ w' = w := by
  have C := furtherCode_any hL w
  have hb := fc_bd hL
  have hF : 6 ≤ fcN L ∧ fcN L ≤ 258 := by unfold fcN; omega
  generalize fcN L = F at *
  go_enter Try.func36, Try.ntmps36
  go_wp2_with fail
  refine C.mono ?_
  rintro e w' ⟨rfl, rfl⟩
  go_wp2
  go_ret
  exact ⟨by go_num, rfl⟩
theorem byte_at {l : List Int} (h : Bytes l) (k : Nat) : 0 ≤ (l[k]?).getD 0 ∧ (l[k]?).getD 0 < 256 := by
  by_cases hk : k < l.length
  · rw [List.getElem?_eq_getElem hk]
    exact h _ (List.getElem_mem hk)
  · rw [List.getElem?_eq_none (by omega)]
    exact ⟨Int.le_refl _, by decide⟩
/-- The longest text with which bytes go on behind a code. -/
def lngN (L : Nat) (fs : List Tx) : Nat → List Int → Nat × Nat
  | c, [] => (c, 0)
  | c, x :: r => match ixT fs c x with
    | none => (c, 0)
    | some i => ((lngN L fs (fcN L + i) r).1, (lngN L fs (fcN L + i) r).2 + 1)
set_option maxHeartbeats 1600000 in
set_option maxRecDepth 100000 in
theorem plongest_any {w : World} {p r m L : Nat} {fs : List Tx} {wv : Value} {av : Option Addr} {n cap : Nat} {bs : List Int} (hpc : w.heap[p]? = some (.cells #[.int .i64 L, .pointer (some ⟨r, 0, none⟩), .map (some m), wv] 68 (0, 0))) (hm : MapT w m L fs) (hL : 2 ≤ L ∧ L ≤ 8) (hfs : fcN L + fs.length ≤ 4096) (hbn : bs.length = n) (hn1 : 1 ≤ n) (hnc : n ≤ 1000000) (hc : n ≤ cap) (hcap : cap ≤ 9223372036854775807) (hrow : Row w av bs) (hby : Bytes bs) :
    Calls Try.prog 33 #[.pointer (some ⟨p, 0, none⟩), .slice av n cap] w fun e w' => (∃ q, w' = w.drewN q) ∧ e = .returned (.tuple #[.int .i64 ((lngN L fs ((bs[0]?).getD 0).toNat (bs.drop 1)).1 : Int), .int .i64 (((lngN L fs ((bs[0]?).getD 0).toNat (bs.drop 1)).2 + 1 : Nat) : Int)]) := by
  obtain ⟨k0, k1, k2, k3, -⟩ := four_cells hpc
  obtain ⟨b, off, rfl, hcell⟩ : ∃ b off, av = some ⟨b, off, none⟩ ∧ ∀ i, i < bs.length → w.cell? ⟨b, off + i, none⟩ = some (.int .u8 ((bs[i]?).getD 0)) := by
    rcases hrow with h | ⟨b, off, h1, h2⟩
    · rw [h] at hbn; simp at hbn; omega
    · exact ⟨b, off, h1, fun i hi => by simpa using h2 i hi⟩
  have HA : Hid (MapT w m L fs ∧ bs.length = n ∧ (∀ i, i < bs.length → w.cell? ⟨b, off + i, none⟩ = some (.int .u8 ((bs[i]?).getD 0))) ∧ Bytes bs ∧ fcN L + fs.length ≤ 4096 ∧ 2 ≤ L ∧ L ≤ 8) := ⟨hm, hbn, hcell, hby, hfs, hL⟩
  obtain ⟨x0, hx0⟩ : ∃ x0 : Nat, (bs[0]?).getD 0 = (x0 : Int) ∧ x0 < 256 := by
    have := byte_at hby 0
    exact ⟨((bs[0]?).getD 0).toNat, by omega, by omega⟩
  have k9 := hcell 0 (by omega)
  rw [hx0.1] at k9
  rw [Nat.add_zero] at k9
  have HX : Hid (((bs[0]?).getD 0).toNat = x0) := by show _ = _; rw [hx0.1]; simp
  rw [HX.out]
  obtain ⟨R1, hR1⟩ : ∃ R1, (lngN L fs x0 (bs.drop 1)).1 = R1 := ⟨_, rfl⟩
  obtain ⟨R2, hR2⟩ : ∃ R2, (lngN L fs x0 (bs.drop 1)).2 + 1 = R2 := ⟨_, rfl⟩
  rw [hR1, hR2]
  have HR : Hid ((lngN L fs x0 (bs.drop 1)).1 = R1 ∧ (lngN L fs x0 (bs.drop 1)).2 + 1 = R2) := ⟨hR1, hR2⟩
  have hx1 := hx0.2
  clear hpc hm hL hfs hbn hrow hby hcell hx0 HX hR1 hR2 k0 k1 k3
  go_enter Try.func33, Try.ntmps33
  go_wp2
  go_loopw [4, 5, 6, 7, 12, 13, 14, 15, 16, 17, 18, 19, 20, 21, 22, 23, 24, 25, 26, 27, 28, 29, 30, 31, 32, 33, 34] (fun v4 v5 _ _ _ _ _ _ _ _ _ _ _ _ _ _ _ _ _ _ _ _ _ _ _ _ _ wr => ∃ c j q : Nat, v4 = .int .i64 (c : Int) ∧ v5 = .int .i64 (j : Int) ∧ 1 ≤ j ∧ j ≤ n ∧ c < 4096 ∧ Hid ((lngN L fs c (bs.drop j)).1 = R1 ∧ (lngN L fs c (bs.drop j)).2 + j = R2) ∧ wr = w.drewN q) (fun _ v5 _ _ _ _ _ _ _ _ _ _ _ _ _ _ _ _ _ _ _ _ _ _ _ _ _ _ => n - (intOf v5).toNat)
  case atStart => exact ⟨x0, 1, 0, rfl, rfl, Nat.le_refl _, hn1, by omega, HR.out, rfl⟩
  case round =>
    clear HR
    obtain ⟨c, j, q, rfl, rfl, hj1, hjn, hc4, HR, rfl⟩ := hrel
    by_cases hlt : j < n
    · have hltI : (j : Int) < (n : Int) := by omega
      have hce := HA.out.2.2.1 j (by have := HA.out.2.1; omega)
      have hyb := byte_at HA.out.2.2.2.1 j
      have hdr : bs.drop j = ((bs[j]?).getD 0) :: bs.drop (j + 1) := by
        rw [List.getElem?_eq_getElem (by have := HA.out.2.1; omega), Option.getD_some]
        exact List.drop_eq_getElem_cons (by have := HA.out.2.1; omega)
      obtain ⟨y, hy⟩ : ∃ y, (bs[j]?).getD 0 = y := ⟨_, rfl⟩
      rw [hy] at hce hyb hdr
      have hlk : ∀ q, (Instr.lookup 66 (.map (some m)) (.agg #[.int .i64 c, .int .u8 y]) true).run Try.prog (w.drewN q) = .ok (.tuple #[.int .i64 (((ixT fs c y).map fun i => ((fcN L + i : Nat) : Int)).getD 0), .bool (ixT fs c y).isSome]) (w.drewN q) := fun q => (HA.out.1.same (w' := w.drewN q) rfl).look c y (by omega) hyb
      have hj0 : (0 : Int) ≤ (j : Int) := by omega
      have hRR := HR.out
      rw [hdr] at hRR
      unfold lngN at hRR
      cases hix : ixT fs c y with
      | none =>
        rw [hix] at hlk hRR
        simp only at hRR
        simp only [Option.map_none, Option.getD_none, Option.isSome_none] at hlk
        have HE : Hid (c = R1 ∧ j = R2) := ⟨hRR.1, by have := hRR.2; omega⟩
        clear hRR HR hix hdr hy hyb
        go_wp2
        go_quiet (fail)
        go_wp2
        go_ret2
        exact ⟨⟨_, rfl⟩, by rw [← HE.out.1, ← HE.out.2]; rfl⟩
      | some i =>
        rw [hix] at hlk hRR
        simp only at hRR
        simp only [Option.map_some, Option.getD_some, Option.isSome_some] at hlk
        have hil : i < fs.length := by
          have := ixT_lt fs c y i hix
          exact (List.getElem?_eq_some_iff.1 this).1
        have hF4 : fcN L + i < 4096 := by have := HA.out.2.2.2.2.1; omega
        have HE : Hid ((lngN L fs (fcN L + i) (bs.drop (j + 1))).1 = R1 ∧ (lngN L fs (fcN L + i) (bs.drop (j + 1))).2 + (j + 1) = R2) := ⟨hRR.1, by have := hRR.2; omega⟩
        generalize fcN L + i = C at *
        clear hRR HR hix hdr hy hyb hil
        go_wp2
        go_quiet (fail)
        go_wp2
        go_roundw
        case rel => exact ⟨C, j + 1, _, rfl, by go_num, by omega, by omega, hF4, HE.out, rfl⟩
        case measure => simp [intOf]; omega
    · obtain rfl : j = n := by omega
      have HE : Hid (c = R1 ∧ j = R2) := by
        have h := HR.out
        have e : bs.drop j = [] := List.drop_eq_nil_of_le (by have := HA.out.2.1; omega)
        rw [e] at h
        exact ⟨h.1, by have := h.2; simp [lngN] at this; exact this⟩
      clear HR
      go_wp2
      go_ret2
      exact ⟨⟨_, rfl⟩, by rw [← HE.out.1, ← HE.out.2]; rfl⟩
/-- What learn leaves. -/
def lrnP (L : Nat) (fs : List Tx) (c : Nat) (y : Int) : List Tx := if fs.length < 4096 - fcN L then fs ++ [(c, y)] else fs
set_option maxHeartbeats 1600000 in
set_option maxRecDepth 100000 in
theorem plearn_any {base : Nat} {w : World} {p r m : Nat} {g : Option Nat} {L : Nat} {fs : List Tx} {wr : Nat} {es : List Em} {c : Nat} {y : Int} (hL : 2 ≤ L ∧ L ≤ 8) (h : Pk base w p r m g L fs wr es) (hc : c < 4096) (hy : 0 ≤ y ∧ y < 256) (hnew : ixT fs c y = none) (hfs : fs.length ≤ 4096) :
    Calls Try.prog 35 #[.pointer (some ⟨p, 0, none⟩), .agg #[.int .i64 (c : Int), .int .u8 y]] w fun e w' => PpP base w p r m L (lrnP L fs c y) wr es e w' := by
  obtain ⟨w1, hw1⟩ : ∃ w1, w.alloc (.cells #[.int .i64 (c : Int), .int .u8 y] 74) = w1 := ⟨_, rfl⟩
  have hb1 : Below w.heap.size w w1 := by rw [← hw1]; exact (Below.refl _ _).alloc (Nat.le_refl _) _
  have hp1 : Pk base w1 p r m g L fs wr es := by
    obtain ⟨zs, q1, q2⟩ := h.wz
    exact ⟨(hb1.block p (lt_of_block h.pc)).trans h.pc, ⟨zs, q1.old hb1, q2⟩, h.mp.same (hb1.block m h.mp.lt), h.bs⟩
  have hbb : Below base w w1 := hb1.mono (by have := lt_of_block h.pc; have := h.bs.1; omega)
  have x0 : w1.cell? ⟨w.heap.size, 0, none⟩ = some (.int .i64 (c : Int)) := by rw [← hw1]; rw [World.cell?_alloc_mark]; rfl
  have x1 : w1.cell? ⟨w.heap.size, 1, none⟩ = some (.int .u8 y) := by rw [← hw1]; rw [World.cell?_alloc_mark]; rfl
  obtain ⟨k0, k1, k2, k3, -⟩ := four_cells hp1.pc
  have HRo := proom_any hL k0
  have hlen := hp1.mp.len
  have hb := fc_bd hL
  have hF : 6 ≤ fcN L ∧ fcN L ≤ 258 := by unfold fcN; omega
  by_cases hrm : fs.length < 4096 - fcN L
  · have HE : Hid (∃ w', (Instr.mapUpdate 66 (.map (some m)) (.agg #[.int .i64 (c : Int), .int .u8 y]) (.int .i64 ((fcN L + fs.length : Nat) : Int))).run Try.prog w1.drew = .ok () w' ∧ PpP base w p r m L (lrnP L fs c y) wr es (.returned (.tuple #[])) w') := by
      obtain ⟨w', e1, e2, e3⟩ := (hp1.mp.same (w' := w1.drew) rfl).put (by omega) (by omega) c y (by omega) hy hnew
      obtain ⟨p1, p2⟩ := (show Pk base w1.drew p r m g L fs wr es from hp1.drewN 1).setM e2 e3
      refine ⟨w', e1, rfl, g, ?_, hbb.trans ⟨p2.os, p2.tape, p2.output, p2.size, p2.block⟩⟩
      unfold lrnP; rw [if_pos hrm]; exact p1
    obtain ⟨w', hmu, HP⟩ := HE.out
    have HPP : Hid (PpP base w p r m L (lrnP L fs c y) wr es (.returned (.tuple #[])) w') := HP
    have C := furtherCode_any hL w1.drew
    have hlen2 : ∀ ty, (Builtin.len_ #[66] ty #[.map (some m)]).run Try.prog w1.drew = .ok (.int .i64 fs.length) w1.drew := (hp1.mp.same (w' := w1.drew) rfl).len
    have hwa : IntKind.i64.wrap ((fcN L : Int) + (fs.length : Int)) = ((fcN L + fs.length : Nat) : Int) := by rw [IntKind.wrap_i64]; omega
    obtain ⟨N, hN⟩ : ∃ N, fcN L + fs.length = N := ⟨_, rfl⟩
    obtain ⟨R, hR⟩ : ∃ R, 4096 - fcN L = R := ⟨_, rfl⟩
    obtain ⟨n, hn⟩ : ∃ n, fs.length = n := ⟨_, rfl⟩
    obtain ⟨F, hFe⟩ : ∃ F, fcN L = F := ⟨_, rfl⟩
    rw [hN] at hmu hwa
    rw [hR] at HRo hrm
    rw [hn] at hlen hlen2 hrm hwa
    rw [hFe] at C hwa
    have hrmI : (n : Int) < (R : Int) := by omega
    have d0 : w1.drew.cell? ⟨p, 0, none⟩ = _ := k0
    have d2 : w1.drew.cell? ⟨p, 2, none⟩ = _ := k2
    have y0 : w1.drew.cell? ⟨w.heap.size, 0, none⟩ = _ := x0
    have y1 : w1.drew.cell? ⟨w.heap.size, 1, none⟩ = _ := x1
    clear HE HP h hp1 hnew hbb hb1 hN hR hn hFe hb hF hrm hfs k1 k3
    go_enter Try.func35, Try.ntmps35
    go_wp2_with fail
    refine HRo.mono ?_
    clear HRo
    rintro e w2 ⟨rfl, hw2⟩
    subst w2
    go_upto_region 2 with fail
    refine wp_region_still_tail 16 (by kernel_rfl) (by kernel_rfl) ?_
    simp only [List.take_succ_cons, List.take_zero, List.drop_succ_cons, List.drop_zero]
    rw [show ({ w1 with drawn := w1.drawn + 1 } : World) = w1.drew from rfl]
    iterate 9 still_step
    still_call C
    iterate 6 still_step
    refine wpStill_nil ?_
    go_wp2
    go_end0
    exact HPP.out
  · have HPP : Hid (PpP base w p r m L (lrnP L fs c y) wr es (.returned (.tuple #[])) w1) := by
      refine ⟨rfl, g, ?_, hbb⟩
      unfold lrnP; rw [if_neg hrm]; exact hp1
    obtain ⟨R, hR⟩ : ∃ R, 4096 - fcN L = R := ⟨_, rfl⟩
    obtain ⟨n, hn⟩ : ∃ n, fs.length = n := ⟨_, rfl⟩
    rw [hR] at HRo hrm
    rw [hn] at hlen hrm
    have hrmI : ¬ (n : Int) < (R : Int) := by omega
    clear h hp1 hnew hbb hb1 hR hn hb hF hrm hfs k1 k3 x0 x1
    go_enter Try.func35, Try.ntmps35
    go_wp2_with fail
    refine HRo.mono ?_
    clear HRo
    rintro e w2 ⟨rfl, hw2⟩
    subst w2
    go_wp2
    go_end0
    exact HPP.out
end Go.Proofs.Ytcbmlioeeoghkaa
