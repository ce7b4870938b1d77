import Derived.Test.YthoandjljgkcbaaRCu2
import Derived.Test.YthoandjljgkcbaaBack
import Derived.Deep.QuietTactic
import Derived.BigQuiet
namespace Go.Proofs.Ythoandjljgkcbaa
open Go.RowKit

def RRel (_w : World) (_c _x : Nat) (zs : List Int) (err : Int) : Prop := Inv zs err ∧ Bytes zs ∧ zs.length ≤ 140737488351232
theorem len_num (zs : List Int) (err n : Int) : (numZ zs err n).length ≤ zs.length := by
  unfold numZ nextZ failZ
  repeat' split
  all_goals simp
theorem len_byt (zs : List Int) (err n : Int) : (bytZ zs err n).length ≤ zs.length := by
  unfold bytZ nextZ failZ
  repeat' split
  all_goals simp
theorem len_fail (zs : List Int) (err e : Int) : (failZ zs err e).length ≤ zs.length := by
  unfold failZ
  split
  all_goals simp
theorem bytes_fail {zs : List Int} (h : Bytes zs) (err e : Int) : Bytes (failZ zs err e) := by
  unfold failZ
  split
  · exact h
  · exact Bytes.nil
theorem bytes_next {zs : List Int} (h : Bytes zs) (err n : Int) : Bytes (nextZ zs err n) := by
  unfold nextZ
  split
  · exact bytes_fail h _ _
  · exact h.drop _
theorem bytes_num {zs : List Int} (h : Bytes zs) (err n : Int) : Bytes (numZ zs err n) := by
  unfold numZ
  split
  · exact bytes_fail h _ _
  · exact bytes_next h _ _
theorem bytes_byt {zs : List Int} (h : Bytes zs) (err n : Int) : Bytes (bytZ zs err n) := by
  unfold bytZ
  split
  · exact bytes_fail h _ _
  · exact bytes_next h _ _
/-- A block that neither cursor changes. -/
theorem box_kept {w w' : World} {c bx : Nat} {o : Obj} (hg : w.grownBy w' (some c)) (hb : w.heap[bx]? = some o) (hne : bx ≠ c) : w'.heap[bx]? = some o :=
  (hg.block bx (lt_of_block hb) (fun e => hne (by simpa using e))).trans hb

theorem three_cells {w : World} {c : Nat} {v0 v1 v2 : Value} {t : TypeId} (h : w.heap[c]? = some (.cells #[v0, v1, v2] t (0, 0))) :
    w.cell? ⟨c, 1, none⟩ = some v1 ∧ w.cell? ⟨c, 2, none⟩ = some v2 := by
  constructor <;> simp [World.cell?, h]
theorem PC.first' {w w1 wr w' : World} {c x U : Nat} {zs zs' : List Int} {err err' : Int} (p : PC w w1 c x zs err) (hc : Cur w' c U zs' err') (hg : wr.grownBy w' (some c)) (hb : Below w1.heap.size w1 wr) : PC1 w w' c x zs zs' err err' :=
  (p.old hb).first hc hg
theorem row_past {w wr w' : World} {c x : Nat} {zs zs' l : List Int} {err err' : Int} {a : Option Addr} (r : Row wr a l) (p : PC1 w wr c x zs zs' err err') (hg : wr.grownBy w' (some x)) : Row w' a l := by
  obtain ⟨a', cap', hh', _⟩ := p.two
  exact r.grown hg (r.ne hh')
/-- What was handed in is changed: the cursors have their own. -/
theorem pc_after {w w5 wr : World} {c x S : Nat} {zs : List Int} {gopt : Option Nat} {a a' : Option Addr} {cap cap' : Nat} (hgr : w5.grownBy wr gopt) (hgS : ∀ q, gopt = some q → q < S) (hgw : ∀ q, gopt = some q → w.heap.size ≤ q) (hcS : S ≤ c) (hxS : S ≤ x) (hne : c ≠ x) (hwS : w.heap.size ≤ S) (bel : Below w.heap.size w w5)
    (hc : w5.heap[c]? = some (.cells #[.slice a zs.length cap, .int .i64 0] 54 (0, 0))) (c1 : zs.length ≤ cap) (c2 : cap ≤ maxLen) (rc : Row w5 a zs) (bc : ∀ y, a = some y → S ≤ y.block)
    (hx : w5.heap[x]? = some (.cells #[.slice a' zs.length cap', .int .i64 0] 38 (0, 0))) (x1 : zs.length ≤ cap') (x2 : cap' ≤ maxLen) (x3 : a' = none → cap' = 0) (rx : Row w5 a' zs) (bx : ∀ y, a' = some y → S ≤ y.block) : PC w wr c x zs 0 := by
  have hbc : wr.heap[c]? = w5.heap[c]? := hgr.block c (lt_of_block hc) (fun e => by have := hgS c e.symm; omega)
  have hbx : wr.heap[x]? = w5.heap[x]? := hgr.block x (lt_of_block hx) (fun e => by have := hgS x e.symm; omega)
  have keep : ∀ {a : Option Addr}, Row w5 a zs → (∀ y, a = some y → S ≤ y.block) → Row wr a zs := by
    intro a r hb
    cases gopt with
    | none => exact r.old ⟨hgr.os, hgr.tape, hgr.output, hgr.size, fun k hk => hgr.block k hk (by simp)⟩
    | some q => exact r.grown hgr (fun y hy _ => by have := hb y hy; have := hgS q rfl; omega)
  exact ⟨⟨wr.heap.size, a, cap, hbc.trans hc, c1, c2, keep rc bc, (keep rc bc).lt⟩, ⟨a', cap', hbx.trans hx, x1, x2, x3, keep rx bx⟩, hne, by omega, by omega, bel.grown hgr bel.size hgw⟩

set_option maxHeartbeats 3200000 in
set_option maxRecDepth 100000 in
theorem reads_walk (a0 : Option Addr) (len0 cap0 : Nat) (a1 : Option Addr) (len1 cap1 : Nat) (F : Nat → Int × Int × Int) (w : World) (h0 : BArg w a0 len0 cap0) (h1 : AArg w a1 len1 cap1 F) :
    Calls Try.prog 6 #[.slice a0 len0 cap0, .slice a1 len1 cap1] w fun e w' => e = .returned (.bool true) ∧ Below w.heap.size w w' := by
  obtain ⟨zs, hb0, rfl, hl0, hm0, hn0, hr0⟩ := h0
  obtain ⟨hl1, hm1, hF⟩ := h1
  unfold maxLen at hm1
  have H0 : Hid (Bytes zs ∧ (a0 = none → cap0 = 0) ∧ Row w a0 zs) := ⟨hb0, hn0, hr0⟩
  have HF : Hid (0 < len1 → ∃ b off, a1 = some ⟨b, off, none⟩ ∧ ∀ i, i < len1 → w.cell? ⟨b, off + i * 3, none⟩ = some (.int .u8 (F i).1) ∧ w.cell? ⟨b, off + i * 3 + 1, none⟩ = some (.int .i64 (F i).2.1) ∧ w.cell? ⟨b, off + i * 3 + 2, none⟩ = some (.int .i64 (F i).2.2) ∧ 0 ≤ (F i).1 ∧ (F i).1 < 256) := hF
  clear hb0 hn0 hr0 hF
  obtain ⟨B, hB⟩ : ∃ B, B = w.heap.size := ⟨_, rfl⟩
  have HB : Hid (B = w.heap.size) := hB
  clear hB
  go_enter Try.func6, Try.ntmps6
  go_wp2_with fail
  refine (fixed_any _).mono ?_
  rintro e w1 ⟨rfl, hb1⟩
  rw [← HB.out] at hb1
  have hw1 : B ≤ w1.heap.size := by have := hb1.size; have := HB.out; omega
  go_wp2_with (at_builtin; refine wpList_append_row rfl _ _ rfl B _ 0 [] rfl (World.ownsRow_lit w1 #[] 0 hw1 (by unfold maxLen; omega) rfl) a0 zs.length cap0 zs rfl rfl H0.out.2.1 ((H0.out.2.2.below hb1 (by rw [HB.out]; exact H0.out.2.2.lt)).old ((Below.refl _ _).alloc (Nat.le_refl _) _)) (by omega) (by simp; omega) ?_)
  intro v2 w2 hown hg2
  have hb2 : Below B w w2 := (hb1.alloc hw1 _).grown hg2 (by simp; omega) (fun k hk => by simp [Value.ownBlock] at hk; omega)
  have hown' : w2.ownsRow B 5 1 v2 zs.length (vals zs) := by simpa using hown
  obtain ⟨a2, c2, hv2, _, k21, k22, k23⟩ := row_of_owns hown'
  have k24 := nil_cap hown' hv2
  have hblk : ∀ q, v2.ownBlock = some q → q < w2.heap.size := fun q hq => (hown'.lt q hq).2
  rw [hv2]
  rw [hv2] at hown' hblk
  clear hown hg2 hb1 hv2
  go_wp2_with fail
  refine (new_any a2 _ c2 zs _ rfl k24 (by omega) k23).mono ?_
  rintro e w3 ⟨c, rfl, hc3, hb3, ac, cc, hh3, q31, q32, q33, q34⟩
  have hb3w : Below B w w3 := hb2.trans (hb3.mono (by have := hb2.size; have := HB.out; omega))
  have hw3 : B ≤ w3.heap.size := by have := hb3w.size; have := HB.out; omega
  have hown3 := own_below hown' hb3
  go_wp2_with (at_builtin; refine wpList_append_row rfl _ _ rfl w3.heap.size _ 0 [] rfl (World.ownsRow_lit w3 #[] 0 (Nat.le_refl _) (by unfold maxLen; omega) rfl) a0 zs.length cap0 zs rfl rfl H0.out.2.1 ((H0.out.2.2.below hb3w (by rw [HB.out]; exact H0.out.2.2.lt)).old ((Below.refl _ _).alloc (Nat.le_refl _) _)) (by omega) (by simp) ?_)
  intro v4 w4 hown4 hg4
  have hb4 : Below w3.heap.size w3 w4 := ((Below.refl _ _).alloc (Nat.le_refl _) _).grown hg4 (by simp) (fun k hk => by simp [Value.ownBlock] at hk; omega)
  have hown4' : w4.ownsRow w3.heap.size 5 1 v4 zs.length (vals zs) := by simpa using hown4
  obtain ⟨a4, c4, hv4, _, k41, k42, k43⟩ := row_of_owns hown4'
  have k44 := nil_cap hown4' hv4
  have k45 := owns_own hown4' hv4
  rw [hv4]
  clear hown4 hown4' hg4 hv4
  go_wp2
  obtain ⟨w5, hw5⟩ : ∃ w5, w5 = w4.alloc (.cells #[.slice a4 zs.length c4, .int .i64 0] 38) := ⟨_, rfl⟩
  obtain ⟨x, hx⟩ : ∃ x, x = w4.heap.size := ⟨_, rfl⟩
  have hb45 : Below w4.heap.size w4 w5 := by rw [hw5]; exact (Below.refl _ _).alloc (Nat.le_refl _) _
  have hb35 : Below w3.heap.size w3 w5 := hb4.trans (hb45.mono hb4.size)
  have hS : Hid (w2.heap.size ≤ c ∧ c < w3.heap.size ∧ w3.heap.size ≤ x ∧ B ≤ w2.heap.size) := ⟨hc3, lt_of_block hh3, by rw [hx]; exact hb4.size, by have := hb2.size; have := HB.out; omega⟩
  have HPC : Hid (∀ wr, w5.grownBy wr (Value.slice a2 zs.length c2).ownBlock → PC w wr c x zs 0) := by
    intro wr hgr
    have hq := hS.out
    refine pc_after (S := w2.heap.size) hgr hblk ?_ hq.1 (by have := hb3.size; omega) (by omega) (by rw [← HB.out]; omega) ?_ ((hb35.block c hq.2.1).trans hh3) q31 q32 (q33.old hb35) q34 ?_ k41 k42 k44 (k43.old hb45) ?_
    · intro q hq'
      rw [← HB.out]
      exact (hown'.lt q hq').1
    · rw [← HB.out]; exact hb3w.trans (hb35.mono hw3)
    · rw [hw5, hx]; exact heap_alloc_new _ _
    · intro y hy; have := k45 y hy; have := hb3.size; omega
  have hown5 := own_below hown3 hb35
  have HIN : Hid (w5.ownsRow B 5 1 (.slice a2 zs.length c2) zs.length (vals zs)) := hown5
  rw [← hw5, ← hx]
  clear hw5 hx hb45 hb35 hS hown5 hown3 hown' hb4 hb3 hb2 hh3 q31 q32 q33 q34 k41 k42 k43 k44 k45 k21 k22 k23 k24 hblk hc3 hb3w hw3 hw1
  go_loopw [8, 25] (fun _ t wr => ∃ k : Nat, k ≤ zs.length ∧ t = .int .i64 k ∧ ∃ Y : List Int, Bytes Y ∧ wr.ownsRow B 5 1 (.slice a2 zs.length c2) zs.length (vals Y) ∧ w5.grownBy wr (Value.slice a2 zs.length c2).ownBlock) (fun _ t _ => zs.length - (intOf t).toNat)
  case atStart => exact ⟨0, Nat.zero_le _, rfl, zs, H0.out.1, HIN.out, grownBy_refl _ _⟩
  case round =>
    clear HIN
    obtain ⟨k, hk, rfl, Y, hYb, hoY, hgY⟩ := hrel
    by_cases hlt : k < zs.length
    · obtain ⟨g, hga⟩ : ∃ g, a2 = some ⟨g, 0, none⟩ := by
        rcases hoY.2 with ⟨h, hn⟩ | ⟨g, cap, cur, h, _⟩
        · omega
        · simp only [Value.slice.injEq] at h; exact ⟨g, h.1⟩
      subst hga
      have hYl : Y.length = zs.length := by have := hoY.1; simpa [vals] using this
      have hck : wr.cell? ⟨g, k, none⟩ = some (.int .u8 (Y[k]?.getD 0)) := by
        rw [hoY.cellAt k (by omega)]; simp [vals, show k < Y.length by omega]
      have hfk := hoY.frozenAt k
      have hyb := hYb.at k
      have HST : Hid (∀ z : Int, 0 ≤ z → z < 256 → ∃ Y' : List Int, Bytes Y' ∧ (wr.setCell ⟨g, k, none⟩ (.int .u8 z)).ownsRow B 5 1 (.slice (some ⟨g, 0, none⟩) zs.length c2) zs.length (vals Y') ∧ w5.grownBy (wr.setCell ⟨g, k, none⟩ (.int .u8 z)) (Value.slice (some ⟨g, 0, none⟩) zs.length c2).ownBlock) := by
        intro z h0 h1
        have hst := hoY.stored k (.int .u8 z)
        rw [vals_set] at hst
        refine ⟨Y.set k z, ?_, hst.1, grownBy_trans hgY hst.2⟩
        intro y hy
        rcases List.mem_or_eq_of_mem_set hy with h | h
        · exact hYb y h
        · rw [h]; omega
      clear hoY hgY hYb hYl
      generalize Y[k]?.getD 0 = y at *
      go_wp2
      go_roundw
      case rel => exact ⟨k + 1, by omega, by go_num, HST.out _ (by omega) (by omega)⟩
      case measure => simp [intOf]; omega
    · have P0 := HPC.out wr hgY
      have HP0 : Hid (PC w wr c x zs 0 ∧ RRel w c x zs 0) := ⟨P0, fun h => absurd rfl h, H0.out.1, by omega⟩
      clear hoY hgY hYb P0 HPC
      go_wp2
      go_loopw [10, 37] (fun _ t wr => ∃ i : Nat, i ≤ len1 ∧ t = .int .i64 i ∧ ∃ Z E, PC w wr c x Z E ∧ RRel w c x Z E) (fun _ t _ => len1 - (intOf t).toNat)
      case atStart => exact ⟨0, Nat.zero_le _, rfl, zs, 0, HP0.out.1, HP0.out.2⟩
      case round =>
        clear HP0
        obtain ⟨i, hi, rfl, Z, E, P, hRR⟩ := hrel
        by_cases hlt1 : i < len1
        · obtain ⟨b, off, hab, hc⟩ := HF.out (by omega)
          have hbw : b < w.heap.size := cell_lt (hc i hlt1).1
          have q0 : wr.cell? ⟨b, off + i * 3, none⟩ = some (.int .u8 (F i).1) := (P.bel.cell (p := ⟨b, _, none⟩) hbw).trans (hc i hlt1).1
          have q1 : wr.cell? ⟨b, off + i * 3 + 1, none⟩ = some (.int .i64 (F i).2.1) := (P.bel.cell (p := ⟨b, _, none⟩) hbw).trans (hc i hlt1).2.1
          have q2 : wr.cell? ⟨b, off + i * 3 + 2, none⟩ = some (.int .i64 (F i).2.2) := (P.bel.cell (p := ⟨b, _, none⟩) hbw).trans (hc i hlt1).2.2.1
          have hk0 := (hc i hlt1).2.2.2
          subst hab
          clear hc
          generalize F i = f at *
          obtain ⟨fk, fn, fe⟩ := f
          simp only at q0 q1 q2 hk0
          obtain ⟨W1, hW1⟩ : ∃ W1, W1 = wr.alloc (.cells #[.int .u8 fk, .int .i64 fn, .int .i64 fe] 40) := ⟨_, rfl⟩
          have hbx : W1.heap[wr.heap.size]? = some (.cells #[.int .u8 fk, .int .i64 fn, .int .i64 fe] 40 (0, 0)) := by rw [hW1]; exact heap_alloc_new _ _
          have P1 : PC w W1 c x Z E := by rw [hW1]; exact P.old ((Below.refl _ _).alloc (Nat.le_refl _) _)
          have HNE : Hid (wr.heap.size ≠ c ∧ wr.heap.size ≠ x) := by
            obtain ⟨U, hcu⟩ := P.one
            have h1 := hcu.lt
            have h2 := P.two.lt
            exact ⟨by omega, by omega⟩
          have HBX : Hid (W1.heap[wr.heap.size]? = some (.cells #[.int .u8 fk, .int .i64 fn, .int .i64 fe] 40 (0, 0))) := hbx
          have HRR : Hid (Inv Z E ∧ Bytes Z ∧ Z.length ≤ 140737488351232) := hRR
          have HW1 : Hid (W1 = wr.alloc (.cells #[.int .u8 fk, .int .i64 fn, .int .i64 fe] 40)) := hW1
          clear P hRR hbx hW1
          have h4 : fk % 4 = 0 ∨ fk % 4 = 1 ∨ fk % 4 = 2 ∨ fk % 4 = 3 := by omega
          rcases h4 with h4 | h4 | h4 | h4
          · go_wp2
            rw [← HW1.out]
            obtain ⟨U1, hcu1⟩ := P1.one
            have hcell : W1.cell? ⟨wr.heap.size, 1, none⟩ = some (.int .i64 fn) := (three_cells HBX.out).1
            go_region_held3 (fun w' => w'.cell? ⟨wr.heap.size, 1, none⟩ = some (.int .i64 fn)) (assumption) (first
              | (go_at_call 20; refine Calls.mono (cbig_any c U1 Z E fn _ (hcu1.below ?_) HRR.out.2.1) ?_; exact ⟨rfl, rfl, rfl, Nat.le_refl _, fun _ _ => rfl⟩; rintro e w5 ⟨rfl, hc5, hg5⟩; have P5 := P1.first' hc5 hg5 ⟨rfl, rfl, rfl, Nat.le_refl _, fun _ _ => rfl⟩; have hbx5 := box_kept hg5 HBX.out HNE.out.1; have hq5 : w5.cell? ⟨wr.heap.size, 1, none⟩ = some (.int .i64 fn) := (three_cells hbx5).1)
              | (go_at_call 21; refine (rbig_any x Z E fn _ P5.two HRR.out.1 HRR.out.2.1 HRR.out.2.2).mono ?_; rintro e w6 ⟨rfl, hc6, hg6⟩; have P6 := P5.second hc6 hg6; have hbx6 := box_kept hg6 hbx5 HNE.out.2; have hq6 : w6.cell? ⟨wr.heap.size, 1, none⟩ = some (.int .i64 fn) := (three_cells hbx6).1))
            have HIN : Hid (Inv (numZ Z E fn) (numE Z E fn) ∧ Bytes (numZ Z E fn) ∧ (numZ Z E fn).length ≤ 140737488351232) := ⟨inv_num HRR.out.1, bytes_num HRR.out.2.1 _ _, Nat.le_trans (len_num _ _ _) HRR.out.2.2⟩
            clear hc5 hg5 P5 hbx5 hq5 hc6 hg6 hbx6 hq6 hcell hcu1 P1 HRR HBX HW1 q0 q1 q2
            have HI6 : Hid (Inv (numZ Z E fn) (numE Z E fn) ∧ Bytes (numZ Z E fn) ∧ (numZ Z E fn).length ≤ 140737488351232) := HIN.out
            generalize numZ Z E fn = z6 at *
            generalize numE Z E fn = r6 at *
            obtain ⟨U6, hc6⟩ := P6.one
            obtain ⟨ax6, cpx6, hx6, -, -, -⟩ := P6.two
            obtain ⟨y0, y1, -, -⟩ := two_cells hx6
            have HC6 : Hid (∀ n, Cur (w6.drewN n) c U6 z6 r6) := fun n => hc6.below ⟨rfl, rfl, rfl, Nat.le_refl _, fun _ _ => rfl⟩
            have HR6 : Hid (RRel w c x z6 r6) := HI6.out
            have HP6 : Hid (∀ n, PC w (w6.drewN n) c x z6 r6) := fun n => P6.old ⟨rfl, rfl, rfl, Nat.le_refl _, fun _ _ => rfl⟩
            have hzl6 : (z6.length : Int) ≤ 140737488351232 := by have := HI6.out.2.2; omega
            clear hc6 hx6 P6 HIN hk0
            go_wp2
            go_quiet ((first | (go_at_call 28; exact Calls.quiet_of_same (err_any c U6 z6 r6 _ (HC6.out _))) | (go_at_call 29; exact Calls.quiet_of_same (left_any c U6 z6 r6 _ (HC6.out _)))))
            have HP9 : Hid (PC w (w6.drewN nq) c x z6 r6) := HP6.out nq
            generalize w6.drewN nq = w9 at *
            clear HP6 HC6 y0 y1
            go_wp2
            go_roundw
            case rel => exact ⟨i + 1, by omega, by go_num, z6, r6, HP9.out, HR6.out⟩
            case measure => simp [intOf]; omega
          · go_wp2
            rw [← HW1.out]
            obtain ⟨U1, hcu1⟩ := P1.one
            have hcell : W1.cell? ⟨wr.heap.size, 1, none⟩ = some (.int .i64 fn) := (three_cells HBX.out).1
            go_region_held3 (fun w' => w'.cell? ⟨wr.heap.size, 1, none⟩ = some (.int .i64 fn)) (assumption) (first
              | (go_at_call 22; refine Calls.mono (clittle_any c U1 Z E fn _ (hcu1.below ?_) HRR.out.2.1) ?_; exact ⟨rfl, rfl, rfl, Nat.le_refl _, fun _ _ => rfl⟩; rintro e w5 ⟨rfl, hc5, hg5⟩; have P5 := P1.first' hc5 hg5 ⟨rfl, rfl, rfl, Nat.le_refl _, fun _ _ => rfl⟩; have hbx5 := box_kept hg5 HBX.out HNE.out.1; have hq5 : w5.cell? ⟨wr.heap.size, 1, none⟩ = some (.int .i64 fn) := (three_cells hbx5).1)
              | (go_at_call 23; refine (rlittle_any x Z E fn _ P5.two HRR.out.1 HRR.out.2.1 HRR.out.2.2).mono ?_; rintro e w6 ⟨rfl, hc6, hg6⟩; have P6 := P5.second hc6 hg6; have hbx6 := box_kept hg6 hbx5 HNE.out.2; have hq6 : w6.cell? ⟨wr.heap.size, 1, none⟩ = some (.int .i64 fn) := (three_cells hbx6).1))
            have HIN : Hid (Inv (numZ Z E fn) (numE Z E fn) ∧ Bytes (numZ Z E fn) ∧ (numZ Z E fn).length ≤ 140737488351232) := ⟨inv_num HRR.out.1, bytes_num HRR.out.2.1 _ _, Nat.le_trans (len_num _ _ _) HRR.out.2.2⟩
            clear hc5 hg5 P5 hbx5 hq5 hc6 hg6 hbx6 hq6 hcell hcu1 P1 HRR HBX HW1 q0 q1 q2
            have HI6 : Hid (Inv (numZ Z E fn) (numE Z E fn) ∧ Bytes (numZ Z E fn) ∧ (numZ Z E fn).length ≤ 140737488351232) := HIN.out
            generalize numZ Z E fn = z6 at *
            generalize numE Z E fn = r6 at *
            obtain ⟨U6, hc6⟩ := P6.one
            obtain ⟨ax6, cpx6, hx6, -, -, -⟩ := P6.two
            obtain ⟨y0, y1, -, -⟩ := two_cells hx6
            have HC6 : Hid (∀ n, Cur (w6.drewN n) c U6 z6 r6) := fun n => hc6.below ⟨rfl, rfl, rfl, Nat.le_refl _, fun _ _ => rfl⟩
            have HR6 : Hid (RRel w c x z6 r6) := HI6.out
            have HP6 : Hid (∀ n, PC w (w6.drewN n) c x z6 r6) := fun n => P6.old ⟨rfl, rfl, rfl, Nat.le_refl _, fun _ _ => rfl⟩
            have hzl6 : (z6.length : Int) ≤ 140737488351232 := by have := HI6.out.2.2; omega
            clear hc6 hx6 P6 HIN hk0
            go_wp2
            go_quiet ((first | (go_at_call 28; exact Calls.quiet_of_same (err_any c U6 z6 r6 _ (HC6.out _))) | (go_at_call 29; exact Calls.quiet_of_same (left_any c U6 z6 r6 _ (HC6.out _)))))
            have HP9 : Hid (PC w (w6.drewN nq) c x z6 r6) := HP6.out nq
            generalize w6.drewN nq = w9 at *
            clear HP6 HC6 y0 y1
            go_wp2
            go_roundw
            case rel => exact ⟨i + 1, by omega, by go_num, z6, r6, HP9.out, HR6.out⟩
            case measure => simp [intOf]; omega
          · go_wp2
            rw [← HW1.out]
            obtain ⟨U1, hcu1⟩ := P1.one
            have hcell : W1.cell? ⟨wr.heap.size, 1, none⟩ = some (.int .i64 fn) := (three_cells HBX.out).1
            go_region_held3 (fun w' => w'.cell? ⟨wr.heap.size, 1, none⟩ = some (.int .i64 fn)) (assumption) (first
              | (go_at_call 24; refine Calls.mono (cbytes_any c U1 Z E fn _ (hcu1.below ?_) HRR.out.2.2) ?_; exact ⟨rfl, rfl, rfl, Nat.le_refl _, fun _ _ => rfl⟩; rintro e w5 ⟨a5, cp5, rfl, _, _, _, r5, hc5, hg5⟩; have P5 := P1.first' hc5 hg5 ⟨rfl, rfl, rfl, Nat.le_refl _, fun _ _ => rfl⟩; have hbx5 := box_kept hg5 HBX.out HNE.out.1; have hq5 : w5.cell? ⟨wr.heap.size, 1, none⟩ = some (.int .i64 fn) := (three_cells hbx5).1)
              | (go_at_call 25; refine (rbytes_any x Z E fn _ P5.two HRR.out.1 HRR.out.2.2).mono ?_; rintro e w7 ⟨a6, cp6, rfl, r6, hc6, hg6⟩; have P6 := P5.second hc6 hg6; have r56 := row_past r5 P5 hg6; have hbx6 := box_kept hg6 hbx5 HNE.out.2; have hq6 : w7.cell? ⟨wr.heap.size, 1, none⟩ = some (.int .i64 fn) := (three_cells hbx6).1)
              | (go_at_call 14; refine (same_any a5 a6 _ cp5 cp6 (bytL Z fn) _ rfl r56 r6).mono ?_; rintro e w6 ⟨rfl, rfl⟩))
            have HIN : Hid (Inv (bytZ Z E fn) (bytE Z E fn) ∧ Bytes (bytZ Z E fn) ∧ (bytZ Z E fn).length ≤ 140737488351232) := ⟨inv_byt HRR.out.1, bytes_byt HRR.out.2.1 _ _, Nat.le_trans (len_byt _ _ _) HRR.out.2.2⟩
            clear hc5 hg5 P5 hbx5 hq5 hc6 hg6 hbx6 hq6 hcell hcu1 P1 HRR HBX HW1 q0 q1 q2 r5 r6 r56
            have HI6 : Hid (Inv (bytZ Z E fn) (bytE Z E fn) ∧ Bytes (bytZ Z E fn) ∧ (bytZ Z E fn).length ≤ 140737488351232) := HIN.out
            generalize bytZ Z E fn = z6 at *
            generalize bytE Z E fn = r6 at *
            obtain ⟨U6, hc6⟩ := P6.one
            obtain ⟨ax6, cpx6, hx6, -, -, -⟩ := P6.two
            obtain ⟨y0, y1, -, -⟩ := two_cells hx6
            have HC6 : Hid (∀ n, Cur (w6.drewN n) c U6 z6 r6) := fun n => hc6.below ⟨rfl, rfl, rfl, Nat.le_refl _, fun _ _ => rfl⟩
            have HR6 : Hid (RRel w c x z6 r6) := HI6.out
            have HP6 : Hid (∀ n, PC w (w6.drewN n) c x z6 r6) := fun n => P6.old ⟨rfl, rfl, rfl, Nat.le_refl _, fun _ _ => rfl⟩
            have hzl6 : (z6.length : Int) ≤ 140737488351232 := by have := HI6.out.2.2; omega
            clear hc6 hx6 P6 HIN hk0
            go_wp2
            go_quiet ((first | (go_at_call 28; exact Calls.quiet_of_same (err_any c U6 z6 r6 _ (HC6.out _))) | (go_at_call 29; exact Calls.quiet_of_same (left_any c U6 z6 r6 _ (HC6.out _)))))
            have HP9 : Hid (PC w (w6.drewN nq) c x z6 r6) := HP6.out nq
            generalize w6.drewN nq = w9 at *
            clear HP6 HC6 y0 y1
            go_wp2
            go_roundw
            case rel => exact ⟨i + 1, by omega, by go_num, z6, r6, HP9.out, HR6.out⟩
            case measure => simp [intOf]; omega
          · obtain ⟨U1, hcu1⟩ := P1.one
            go_wp2_with fail
            rw [← HW1.out]
            refine (fail_any c U1 Z E fe _ hcu1).mono ?_
            rintro e w5 ⟨rfl, hc5, hg5⟩
            have P5 := P1.first hc5 hg5
            have hbx5 := box_kept hg5 HBX.out HNE.out.1
            have hq5 : w5.cell? ⟨wr.heap.size, 2, none⟩ = some (.int .i64 fe) := (three_cells hbx5).2
            go_wp2_with fail
            refine (rfail_any x Z E fe _ P5.two).mono ?_
            rintro e w6 ⟨rfl, hc6, hg6⟩
            have P6 := P5.second hc6 hg6
            have HIN : Hid (Inv (failZ Z E fe) (failE E fe) ∧ Bytes (failZ Z E fe) ∧ (failZ Z E fe).length ≤ 140737488351232) := ⟨inv_fail HRR.out.1, bytes_fail HRR.out.2.1 _ _, Nat.le_trans (len_fail _ _ _) HRR.out.2.2⟩
            clear hc5 hg5 P5 hbx5 hq5 hc6 hg6 hcu1 P1 HRR HBX HW1 q0 q1 q2
            have HI6 : Hid (Inv (failZ Z E fe) (failE E fe) ∧ Bytes (failZ Z E fe) ∧ (failZ Z E fe).length ≤ 140737488351232) := HIN.out
            generalize failZ Z E fe = z6 at *
            generalize failE E fe = r6 at *
            obtain ⟨U6, hc6⟩ := P6.one
            obtain ⟨ax6, cpx6, hx6, -, -, -⟩ := P6.two
            obtain ⟨y0, y1, -, -⟩ := two_cells hx6
            have HC6 : Hid (∀ n, Cur (w6.drewN n) c U6 z6 r6) := fun n => hc6.below ⟨rfl, rfl, rfl, Nat.le_refl _, fun _ _ => rfl⟩
            have HR6 : Hid (RRel w c x z6 r6) := HI6.out
            have HP6 : Hid (∀ n, PC w (w6.drewN n) c x z6 r6) := fun n => P6.old ⟨rfl, rfl, rfl, Nat.le_refl _, fun _ _ => rfl⟩
            have hzl6 : (z6.length : Int) ≤ 140737488351232 := by have := HI6.out.2.2; omega
            clear hc6 hx6 P6 HIN hk0
            go_wp2
            go_quiet ((first | (go_at_call 28; exact Calls.quiet_of_same (err_any c U6 z6 r6 _ (HC6.out _))) | (go_at_call 29; exact Calls.quiet_of_same (left_any c U6 z6 r6 _ (HC6.out _)))))
            have HP9 : Hid (PC w (w6.drewN nq) c x z6 r6) := HP6.out nq
            generalize w6.drewN nq = w9 at *
            clear HP6 HC6 y0 y1
            go_wp2
            go_roundw
            case rel => exact ⟨i + 1, by omega, by go_num, z6, r6, HP9.out, HR6.out⟩
            case measure => simp [intOf]; omega
        · have HBL : Hid (Below w.heap.size w wr) := P.bel
          clear P
          go_wp2
          go_ret
          exact ⟨rfl, HBL.out⟩
end Go.Proofs.Ythoandjljgkcbaa
