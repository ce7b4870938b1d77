/- Joined: LrI Ip Ih Il Io. -/
import Derived.Test.YtloagniacjfkfaaGreatDoorQF
import Derived.Test.YtloagniacjfkfaaGreatDoorQH
import Derived.Test.YtloagniacjfkfaaGreatDoorQG
/- Rows of ints that were made. -/
namespace Go.Proofs.YtloagniacjfkfaaGreatDoor
open Go.RowKit

def LRow (w : World) (g : Nat) (ls : List Int) : Prop := w.heap[g]? = some (.cells (ivals ls).toArray 3 (0, 0))
theorem LRow.cell {w : World} {g : Nat} {ls : List Int} (h : LRow w g ls) (i : Nat) (hi : i < ls.length) : w.cell? ⟨g, i, none⟩ = some (.int .i64 (ls[i]?.getD 0)) ∧ w.frozen? ⟨g, i, none⟩ = false := by
  unfold LRow at h
  constructor
  · simp [World.cell?, h, ivals, hi]
  · simp [World.frozen?, h]
theorem LRow.set {w : World} {g : Nat} {ls : List Int} (h : LRow w g ls) (i : Nat) (v : Int) : LRow (w.setCell ⟨g, i, none⟩ (.int .i64 v)) g (ls.set i v) := by
  have := heap_setCell_same w g i _ 3 (.int .i64 v) h
  unfold LRow
  rw [this]
  simp [ivals]
theorem LRow.same {w w' : World} {g : Nat} {ls : List Int} (h : LRow w g ls) (hs : w'.heap[g]? = w.heap[g]?) : LRow w' g ls := hs.trans h
theorem LRow.made {w : World} {base B len n : Nat} (h : w.ownsRow base 3 1 (.slice (some ⟨B, 0, none⟩) len len) n (madeCells (Value.int .i64 0).cells (len * 1)).toList) : LRow w B (List.replicate len 0) := by
  obtain ⟨hl, h⟩ := h
  rw [Array.length_toList, size_madeCells] at hl
  obtain rfl : len = n := by omega
  rcases h with ⟨h, _⟩ | ⟨g, cap, cur, h, _, hh, h1, h2, h3, h4⟩
  · cases h
  · simp only [Value.slice.injEq, Option.some.injEq, Addr.mk.injEq] at h
    obtain ⟨⟨rfl, _, _⟩, _, rfl⟩ := h
    rw [List.take_of_length_le (by rw [Array.length_toList, h3]; exact Nat.le_refl _)] at h4
    have h5 : cur = madeCells (Value.int .i64 0).cells (len * 1) := Array.toList_inj.1 h4
    unfold LRow
    rw [hh, h5]
    congr 2
    apply Array.ext_getElem?
    intro i
    unfold madeCells ivals
    have e1 : (Value.int .i64 0).cells = #[Value.int .i64 0] := rfl
    by_cases hi : i < len
    · simp [hi, e1, Nat.mod_one]
    · simp [hi]
theorem LRow.irow {w : World} {g : Nat} {ls : List Int} (h : LRow w g ls) : IRow w (some ⟨g, 0, none⟩) ls := by
  refine .inr ⟨g, 0, rfl, fun i hi => ?_⟩
  rw [Nat.zero_add]
  exact (h.cell i hi).1
theorem Tryz.info3 : (Tryz.prog.info? 3).map (fun i => (i.zero, i.size, i.bytes)) = some (some (.int .i64 0), 1, 8) := by kernel_rfl
end Go.Proofs.YtloagniacjfkfaaGreatDoor
/- The fixed codes; a block's head. -/
namespace Go.Proofs.YtloagniacjfkfaaGreatDoor
open Go.RowKit
def FcPost (w : World) (d lim n0 : Nat) (s : St) (L : List Int) (a : Nat) (o : Ow) (e : Ending) (w' : World) : Prop :=
  ∃ c1 c2 V', e = .returned (.agg #[.pointer (some ⟨c1, 0, none⟩), .pointer (some ⟨c2, 0, none⟩)]) ∧ CodeAt w' c1 fixL ∧ CodeAt w' c2 fixD ∧ Live w' d lim n0 s L a o V' ∧ Step w w' d o o
def flA (t : Nat) : List Int := ((List.range t).map fun s => (fixN s : Int)) ++ List.replicate (288 - t) 0
def flD (t : Nat) : List Int := List.replicate t 5 ++ List.replicate (32 - t) 0
theorem flA_end : flA 288 = ints fixL := by unfold flA ints fixL; rw [Nat.sub_self, List.map_map]; simp
theorem flD_end : flD 32 = ints fixD := by decide
theorem flA_set (t : Nat) (h : t < 288) : (flA t).set t (fixN t : Int) = flA (t + 1) := by
  unfold flA
  have hl : ((List.range t).map fun s => (fixN s : Int)).length = t := by simp
  rw [List.set_append_right _ _ (by rw [hl]; exact Nat.le_refl _), hl, Nat.sub_self, show 288 - t = (288 - (t + 1)) + 1 by omega, List.replicate_succ, List.set_cons_zero, List.range_succ, List.map_append, List.append_assoc]
  rfl
theorem flD_set (t : Nat) (h : t < 32) : (flD t).set t 5 = flD (t + 1) := by
  unfold flD
  have hl : (List.replicate t (5 : Int)).length = t := by simp
  rw [List.set_append_right _ _ (by rw [hl]; exact Nat.le_refl _), hl, Nat.sub_self, show 32 - t = (32 - (t + 1)) + 1 by omega, List.replicate_succ, List.set_cons_zero, List.replicate_succ', List.append_assoc]
  rfl
theorem flA_len (t : Nat) (h : t ≤ 288) : (flA t).length = 288 := by unfold flA; simp; omega
theorem flD_len (t : Nat) (h : t ≤ 32) : (flD t).length = 32 := by unfold flD; rw [List.length_append, List.length_replicate, List.length_replicate]; omega
theorem fixL_ok : okLens (ints fixL) = true := by decide +kernel
theorem fixL_whole : wholeB (ints fixL) = true := by decide +kernel
theorem fixD_ok : okLens (ints fixD) = true := by decide +kernel
theorem fixD_whole : wholeB (ints fixD) = true := by decide +kernel
theorem ints_back (ns : List Nat) : (ints ns).map Int.toNat = ns := by
  unfold ints
  rw [List.map_map]
  conv => rhs; rw [← List.map_id ns]
  exact List.map_congr_left fun x _ => rfl
theorem fixL_cd : Cd fixL := by have := whole_cd fixL_ok fixL_whole; rwa [ints_back] at this
theorem fixD_cd : Cd fixD := by have := whole_cd fixD_ok fixD_whole; rwa [ints_back] at this
section
variable {w : World} {d lim n0 : Nat} {s : St} {L : List Int} {a : Nat} {o : Ow} {V : Vs}
set_option maxHeartbeats 1600000 in
set_option maxRecDepth 20000 in
theorem fixedCodes_old (h : Live w d lim n0 s L a o V) (hf1 : PtrC w V.f1 (some fixL)) (hf2 : PtrC w V.f2 (some fixD)) :
    Calls Tryz.prog 125 #[.pointer (some ⟨d, 0, none⟩)] w fun e w' => FcPost w d lim n0 s L a o e w' := by
  obtain ⟨c1, e1, hc1, _⟩ := hf1
  obtain ⟨c2, e2, hc2, _⟩ := hf2
  obtain ⟨g, zs, gone, hd⟩ := h.dk
  have q1 : w.cell? ⟨d, 32786, none⟩ = some (.pointer (some ⟨c1, 0, none⟩)) := by rw [← e1]; exact hd.f1
  have q2 : w.cell? ⟨d, 32787, none⟩ = some (.pointer (some ⟨c2, 0, none⟩)) := by rw [← e2]; exact hd.f2
  have hdl := h.lt
  have hne : ¬ d = w.heap.size := by omega
  have hne2 : ¬ w.heap.size = d := by omega
  have HP : Hid (∀ ob, FcPost w d lim n0 s L a o (.returned (.agg #[.pointer (some ⟨c1, 0, none⟩), .pointer (some ⟨c2, 0, none⟩)])) (w.alloc ob)) := fun ob => by
    have hb : Below w.heap.size w (w.alloc ob) := (Below.refl _ _).alloc (Nat.le_refl _) _
    exact ⟨c1, c2, V, rfl, hc1.old hb, hc2.old hb, h.old hb, Below.step hb⟩
  clear hd h hc1 hc2 e1 e2
  go_enter Tryz.func125, Tryz.ntmps125
  go_wp2
  refine bodyPost_ret (v := .agg #[.pointer (some ⟨c1, 0, none⟩), .pointer (some ⟨c2, 0, none⟩)]) (by simp [results, go_sem]) rfl ?_
  exact HP.out _
theorem fc_dk {w w5 : World} (h : Live w d lim n0 s L a o V) {zs : List Int} {gone : Nat} (hd : Dk w d o.g zs gone (mkT s lim V)) (hb : Below w.heap.size w w5) : Dk w5 d o.g zs gone (mkT s lim V) := by
  obtain ⟨_, tgg, _⟩ := h.tags
  exact hd.same (hb.block _ hd.lt) fun j hj => by obtain ⟨c, e⟩ := tgg j hj; exact hb.block j (lt_of_block e)
theorem fc_mid {w w5 w7 : World} {R c1 : Nat} (h : Live w d lim n0 s L a o V) (hRR : w.heap.size = R) (hb5 : Below w.heap.size w w5) (hR5 : w5.heap[R]? = some (.cells #[.pointer none, .pointer none] 115 (0, 0))) {zs : List Int} {gone : Nat} (hd : Dk w d o.g zs gone (mkT s lim V))
    (hb7 : Below (w5.setCell ⟨d, 32786, none⟩ (.pointer (some ⟨c1, 0, none⟩))).heap.size (w5.setCell ⟨d, 32786, none⟩ (.pointer (some ⟨c1, 0, none⟩))) w7) :
    Dk w7 d o.g zs gone { mkT s lim V with f1 := .pointer (some ⟨c1, 0, none⟩) } ∧ w7.heap[R]? = some (.cells #[.pointer none, .pointer none] 115 (0, 0)) := by
  have hd5 := fc_dk h hd hb5
  have hd6 := hd5.s_f1 (.pointer (some ⟨c1, 0, none⟩))
  have hdl := hd.lt
  refine ⟨hd6.same (hb7.block _ hd6.lt) fun j hj => ?_, ?_⟩
  · obtain ⟨c, e⟩ := hd6.gtag j hj; exact hb7.block j (lt_of_block e)
  · have e : (w5.setCell ⟨d, 32786, none⟩ (.pointer (some ⟨c1, 0, none⟩))).heap[R]? = w5.heap[R]? := Below.heap_setCell _ _ _ _ (by simp; omega)
    rw [hb7.block R (by simp [World.setCell]; exact lt_of_block hR5), e, hR5]
theorem fc_fin {w w5 w7 : World} {R c1 c2 : Nat} (h : Live w d lim n0 s L a o V) (hRR : w.heap.size = R) (hb5 : Below w.heap.size w w5) (hR5 : w5.heap[R]? = some (.cells #[.pointer none, .pointer none] 115 (0, 0))) (hc1 : CodeAt w5 c1 fixL) {zs : List Int} {gone : Nat} (hd : Dk w d o.g zs gone (mkT s lim V)) (hr : RI zs gone L a)
    (hb7 : Below (w5.setCell ⟨d, 32786, none⟩ (.pointer (some ⟨c1, 0, none⟩))).heap.size (w5.setCell ⟨d, 32786, none⟩ (.pointer (some ⟨c1, 0, none⟩))) w7) (hc2 : CodeAt w7 c2 fixD) :
    FcPost w d lim n0 s L a o (.returned (.agg #[.pointer (some ⟨c1, 0, none⟩), .pointer (some ⟨c2, 0, none⟩)])) (((w7.setCell ⟨d, 32787, none⟩ (.pointer (some ⟨c2, 0, none⟩))).setCell ⟨R, 0, none⟩ (.pointer (some ⟨c1, 0, none⟩))).setCell ⟨R, 1, none⟩ (.pointer (some ⟨c2, 0, none⟩))) := by
  obtain ⟨hd7, hR7⟩ := fc_mid h hRR hb5 hR5 hd hb7
  obtain ⟨tg, tgg, tq, tt⟩ := h.tags
  have hdl := hd.lt
  have hRd : ¬ d = R := by omega
  have hs5 : w5.heap.size ≤ w7.heap.size := by have := hb7.size; simpa [World.setCell] using this
  have blk : ∀ k, k ≠ d → k ≠ R → (((w7.setCell ⟨d, 32787, none⟩ (.pointer (some ⟨c2, 0, none⟩))).setCell ⟨R, 0, none⟩ (.pointer (some ⟨c1, 0, none⟩))).setCell ⟨R, 1, none⟩ (.pointer (some ⟨c2, 0, none⟩))).heap[k]? = w7.heap[k]? := fun k h1 h2 => by
    rw [Below.heap_setCell _ _ _ _ h2, Below.heap_setCell _ _ _ _ h2, Below.heap_setCell _ _ _ _ h1]
  have blk5 : ∀ k, k < w5.heap.size → k ≠ d → w7.heap[k]? = w5.heap[k]? := fun k hk h1 => by
    rw [hb7.block k (by simpa [World.setCell] using hk), Below.heap_setCell _ _ _ _ h1]
  have tame5 : Tame w5 (((w7.setCell ⟨d, 32787, none⟩ (.pointer (some ⟨c2, 0, none⟩))).setCell ⟨R, 0, none⟩ (.pointer (some ⟨c1, 0, none⟩))).setCell ⟨R, 1, none⟩ (.pointer (some ⟨c2, 0, none⟩))) := by
    refine ⟨by simpa [World.setCell] using hs5, fun k hk => ?_⟩
    by_cases h1 : k = d
    · subst h1
      obtain ⟨cur, e⟩ := (fc_dk h hd hb5).tag
      exact .inr ⟨_, _, e, .inl rfl⟩
    · by_cases h2 : k = R
      · subst h2; exact .inr ⟨_, _, hR5, .inr (.inr (.inr (.inl rfl)))⟩
      · exact .inl ((blk k h1 h2).trans (blk5 k hk h1))
  have tame7 : Tame w7 (((w7.setCell ⟨d, 32787, none⟩ (.pointer (some ⟨c2, 0, none⟩))).setCell ⟨R, 0, none⟩ (.pointer (some ⟨c1, 0, none⟩))).setCell ⟨R, 1, none⟩ (.pointer (some ⟨c2, 0, none⟩))) := by
    refine ⟨by simp [World.setCell], fun k hk => ?_⟩
    by_cases h1 : k = d
    · subst h1
      obtain ⟨cur, e⟩ := hd7.tag
      exact .inr ⟨_, _, e, .inl rfl⟩
    · by_cases h2 : k = R
      · subst h2; exact .inr ⟨_, _, hR7, .inr (.inr (.inr (.inl rfl)))⟩
      · exact .inl (blk k h1 h2)
  have hst : Step w (((w7.setCell ⟨d, 32787, none⟩ (.pointer (some ⟨c2, 0, none⟩))).setCell ⟨R, 0, none⟩ (.pointer (some ⟨c1, 0, none⟩))).setCell ⟨R, 1, none⟩ (.pointer (some ⟨c2, 0, none⟩))) d o o := by
    refine ⟨hb7.os.trans hb5.os, hb7.tape.trans hb5.tape, hb7.output.trans hb5.output, ?_, fun k hk h1 _ _ _ => ?_, fun _ h => .inl h, fun _ h => .inl h, fun _ h => .inl h⟩
    · have := hb5.size
      simp only [World.setCell, Array.size_modify] at hs5 ⊢
      omega
    · rw [blk k h1 (by omega), blk5 k (Nat.lt_of_lt_of_le hk hb5.size) h1, hb5.block k hk]
  have hc1' := hc1.tame tame5
  have hc2' := hc2.tame tame7
  have ht := h.tame hst
  have hh := h.2.1
  have old : ∀ k, k < w.heap.size → k ≠ d → (((w7.setCell ⟨d, 32787, none⟩ (.pointer (some ⟨c2, 0, none⟩))).setCell ⟨R, 0, none⟩ (.pointer (some ⟨c1, 0, none⟩))).setCell ⟨R, 1, none⟩ (.pointer (some ⟨c2, 0, none⟩))).heap[k]? = w.heap[k]? := fun k hk h1 => by
    rw [blk k h1 (by omega), blk5 k (Nat.lt_of_lt_of_le hk hb5.size) h1, hb5.block k hk]
  obtain ⟨n1, n2, n3⟩ := h.neq
  refine ⟨c1, c2, { V with f1 := .pointer (some ⟨c1, 0, none⟩), f2 := .pointer (some ⟨c2, 0, none⟩) }, rfl, hc1', hc2', ⟨⟨zs, gone, ?_, hr⟩, ⟨hh.le, hh.nle, hh.win, hh.byt, ?_, hh.code.tame ht, ?_, hh.c1.tame ht, hh.c2.tame ht, .inr ⟨⟨c1, rfl, hc1', fixL_cd⟩, ⟨c2, rfl, hc2', fixD_cd⟩⟩, hh.sep⟩, h.2.2⟩, hst⟩
  · have hd8 := hd7.s_f2 (.pointer (some ⟨c2, 0, none⟩))
    refine hd8.same ?_ fun j hj => ?_
    · rw [Below.heap_setCell _ _ _ _ hRd, Below.heap_setCell _ _ _ _ hRd]
    · obtain ⟨c, e⟩ := tgg j hj
      have hjl := lt_of_block e
      rw [Below.heap_setCell _ _ _ _ (by simp; omega), Below.heap_setCell _ _ _ _ (by simp; omega)]
  · exact hh.told.same fun k hk => by obtain ⟨c, e⟩ := tt k hk; exact old k (lt_of_block e) (n2 k hk).1
  · exact hh.row.same fun k hk => by obtain ⟨c, e⟩ := tq k hk; exact old k (lt_of_block e) (n1 k hk).1
set_option maxHeartbeats 1600000 in
set_option maxRecDepth 20000 in
theorem fixedCodes_new (h : Live w d lim n0 s L a o V) (hf1 : V.f1 = .pointer none) :
    Calls Tryz.prog 125 #[.pointer (some ⟨d, 0, none⟩)] w fun e w' => FcPost w d lim n0 s L a o e w' := by
  have HL : Hid (Live w d lim n0 s L a o V) := h
  obtain ⟨g, zs, gone, hd⟩ := h.dk
  have q1 : w.cell? ⟨d, 32786, none⟩ = some (.pointer none) := by rw [← hf1]; exact hd.f1
  have hdl := h.lt
  have hne : ¬ d = w.heap.size := by omega
  clear hd h
  obtain ⟨i0, hi, hz0, hz1, hz2⟩ := info_parts Tryz.info3
  have hmk : i0.bytes * 288 ≤ 281474976710656 := by rw [hz2]; omega
  have hmk2 : i0.bytes * 32 ≤ 281474976710656 := by rw [hz2]; omega
  have hbR : Below w.heap.size w (w.alloc (.cells #[.pointer none, .pointer none] 115)) := (Below.refl _ _).alloc (Nat.le_refl _) _
  have HBR : Hid (Below w.heap.size w (w.alloc (.cells #[.pointer none, .pointer none] 115))) := hbR
  go_enter Tryz.func125, Tryz.ntmps125
  go_wp2_with (at_make; refine wpList_make_full _ rfl _ _ 57 rfl (w.alloc (.cells #[.pointer none, .pointer none] 115)).heap.size 3 i0 _ 1 Tryz.underlying57 hi hz0 hz1 .i64 .i64 288 288 288 rfl rfl rfl rfl hmk (by unfold maxLen; omega) (Nat.le_refl _) ?_)
  intro w1 hown hgrow
  have hb1 : Below (w.alloc (.cells #[.pointer none, .pointer none] 115)).heap.size (w.alloc (.cells #[.pointer none, .pointer none] 115)) w1 := ⟨hgrow.os, hgrow.tape, hgrow.output, hgrow.size, fun k hk => hgrow.block k hk (by simp)⟩
  have hl1 : LRow w1 (w.heap.size + 1) (flA 0) := LRow.made hown
  have HB1 : Hid (Below w.heap.size w w1) := hbR.trans (hb1.mono hbR.size)
  have HR1 : Hid (w1.heap[w.heap.size]? = some (.cells #[.pointer none, .pointer none] 115 (0, 0))) := (hb1.block _ (by simp)).trans (heap_alloc_new _ _)
  have HL1 : Hid (LRow w1 (w.heap.size + 1) (flA 0)) := hl1
  obtain ⟨R, hRR⟩ : ∃ R, w.heap.size = R := ⟨_, rfl⟩
  have HRR : Hid (w.heap.size = R) := hRR
  rw [hRR] at hdl hne HR1 HL1
  clear hown hgrow hb1 hl1 hbR HBR
  go_wp2
  rw [hRR]
  clear hRR q1
  go_loopw [20] (fun i wr => ∃ t : Nat, t ≤ 288 ∧ i = .int .i64 t ∧ Hid (LRow wr (R + 1) (flA t) ∧ Fr w1 wr (R + 1) none)) (fun i _ => 288 - (intOf i).toNat)
  case atStart => exact ⟨0, by omega, rfl, HL1.out, Fr.refl _ _ _⟩
  case round =>
    obtain ⟨t, ht, rfl, HQ⟩ := hrel
    by_cases hlt : t < 288
    · have hlti : (t : Int) < 288 := by omega
      obtain ⟨c0, f0⟩ := HQ.out.1.cell t (by rw [flA_len t ht]; exact hlt)
      have HF : Hid (∀ W, Calls Tryz.prog 147 #[.int .i64 t] W fun e w' => e = .returned (.int .i64 (fixN t : Nat)) ∧ w' = W) := fun W => fixedLength_any t W hlt
      go_wp2_with fail
      refine (HF.out _).mono ?_
      rintro e w2 ⟨rfl, rfl⟩
      go_wp2
      go_roundw
      case rel => exact ⟨t + 1, by omega, by go_num, by rw [← flA_set t hlt]; exact HQ.out.1.set t _, HQ.out.2.trans (Fr.set (R + 1) t _ none) (.inl rfl)⟩
      case measure => simp [intOf]; omega
    · obtain rfl : t = 288 := by omega
      have HB2 : Hid (Below w.heap.size w wr ∧ wr.heap[R]? = some (.cells #[.pointer none, .pointer none] 115 (0, 0)) ∧ LRow wr (R + 1) (ints fixL)) := by
        refine ⟨Fr.below HB1.out HQ.out.2 (by rw [HRR.out]; omega) (by intro q hq; cases hq) HB1.out.size, ?_, ?_⟩
        · exact (HQ.out.2.block R (lt_of_block HR1.out) (by omega) (by simp)).trans HR1.out
        · rw [← flA_end]; exact HQ.out.1
      clear HQ HB1 HR1 HL1
      go_wp2_with (at_make; refine wpList_make_full _ rfl _ _ 57 rfl wr.heap.size 3 i0 _ 1 Tryz.underlying57 hi hz0 hz1 .i64 .i64 32 32 32 rfl rfl rfl rfl hmk2 (by unfold maxLen; omega) (Nat.le_refl _) ?_)
      intro w3 hown hgrow
      have hb3 : Below wr.heap.size wr w3 := ⟨hgrow.os, hgrow.tape, hgrow.output, hgrow.size, fun k hk => hgrow.block k hk (by simp)⟩
      have hl3 : LRow w3 wr.heap.size (flD 0) := LRow.made hown
      have HB3 : Hid (Below w.heap.size w w3 ∧ w3.heap[R]? = some (.cells #[.pointer none, .pointer none] 115 (0, 0)) ∧ LRow w3 (R + 1) (ints fixL)) := ⟨HB2.out.1.trans (hb3.mono HB2.out.1.size), (hb3.block _ (lt_of_block HB2.out.2.1)).trans HB2.out.2.1, HB2.out.2.2.same (hb3.block _ (lt_of_block HB2.out.2.2))⟩
      have HL3 : Hid (LRow w3 wr.heap.size (flD 0)) := hl3
      have hRw : R + 1 < wr.heap.size := lt_of_block HB2.out.2.2
      clear hown hgrow hb3 hl3 HB2
      go_wp2
      generalize wr.heap.size = B2 at HL3 hRw ⊢
      go_loopw [32] (fun i wq => ∃ t : Nat, t ≤ 32 ∧ i = .int .i64 t ∧ Hid (LRow wq B2 (flD t) ∧ Fr w3 wq B2 none)) (fun i _ => 32 - (intOf i).toNat)
      case atStart => exact ⟨0, by omega, rfl, HL3.out, Fr.refl _ _ _⟩
      case round =>
        obtain ⟨t, ht2, rfl, HQ⟩ := hrel
        by_cases hlt2 : t < 32
        · have hlti : (t : Int) < 32 := by omega
          obtain ⟨c0, f0⟩ := HQ.out.1.cell t (by rw [flD_len t ht2]; exact hlt2)
          go_wp2
          go_roundw
          case rel => exact ⟨t + 1, by omega, by go_num, by rw [← flD_set t hlt2]; exact HQ.out.1.set t _, HQ.out.2.trans (Fr.set B2 t _ none) (.inl rfl)⟩
          case measure => simp [intOf]; omega
        · obtain rfl : t = 32 := by omega
          have HB4 : Hid (Below w.heap.size w wr ∧ wr.heap[R]? = some (.cells #[.pointer none, .pointer none] 115 (0, 0)) ∧ LRow wr (R + 1) (ints fixL) ∧ LRow wr B2 (ints fixD)) := by
            refine ⟨Fr.below HB3.out.1 HQ.out.2 (by rw [HRR.out]; omega) (by intro q hq; cases hq) HB3.out.1.size, ?_, ?_, ?_⟩
            · exact (HQ.out.2.block R (lt_of_block HB3.out.2.1) (by omega) (by simp)).trans HB3.out.2.1
            · exact HB3.out.2.2.same (HQ.out.2.block _ (lt_of_block HB3.out.2.2) (by omega) (by simp))
            · rw [← flD_end]; exact HQ.out.1
          clear HQ HB3 HL3
          have N1 := new_yes (some ⟨R + 1, 0, none⟩) 288 288 (ints fixL) wr (by rw [ints_len]; decide) (by omega) HB4.out.2.2.1.irow fixL_ok fixL_whole
          rw [ints_back] at N1
          go_wp2_with fail
          refine N1.mono ?_
          rintro e w5 ⟨c1, rfl, hc1, hca1, hb5⟩
          obtain ⟨⟨zs, gone, hd, hr⟩, _, _⟩ := HL.out
          have hb05 : Below w.heap.size w w5 := HB4.out.1.trans (hb5.mono HB4.out.1.size)
          have hd5 := fc_dk HL.out hd hb05
          have hR5 : w5.heap[R]? = some (.cells #[.pointer none, .pointer none] 115 (0, 0)) := (hb5.block _ (lt_of_block HB4.out.2.1)).trans HB4.out.2.1
          have hl5 : LRow w5 B2 (ints fixD) := HB4.out.2.2.2.same (hb5.block _ (lt_of_block HB4.out.2.2.2))
          have H5 : Hid (Below w.heap.size w w5 ∧ w5.heap[R]? = some (.cells #[.pointer none, .pointer none] 115 (0, 0)) ∧ CodeAt w5 c1 fixL ∧ Dk w d o.g zs gone (mkT s lim V) ∧ RI zs gone L a) := ⟨hb05, hR5, hca1, hd, hr⟩
          have q1 := hd5.f1
          have q2 := hd5.f2
          have fz := hd5.fz
          have hdB : ¬ B2 = d := by omega
          have N2 := new_yes (some ⟨B2, 0, none⟩) 32 32 (ints fixD) (w5.setCell ⟨d, 32786, none⟩ (.pointer (some ⟨c1, 0, none⟩))) (by rw [ints_len]; decide) (by omega) (hl5.same (Below.heap_setCell _ _ _ _ hdB)).irow fixD_ok fixD_whole
          rw [ints_back] at N2
          clear N1 hb5 hb05 hd5 hR5 hl5 hca1 hd hr HB4
          go_wp2_with fail
          refine N2.mono ?_
          rintro e w7 ⟨c2, rfl, hc2, hca2, hb7⟩
          obtain ⟨hd7, hR7⟩ := fc_mid HL.out HRR.out H5.out.1 H5.out.2.1 H5.out.2.2.2.1 hb7
          have HP : Hid (FcPost w d lim n0 s L a o (.returned (.agg #[.pointer (some ⟨c1, 0, none⟩), .pointer (some ⟨c2, 0, none⟩)])) (((w7.setCell ⟨d, 32787, none⟩ (.pointer (some ⟨c2, 0, none⟩))).setCell ⟨R, 0, none⟩ (.pointer (some ⟨c1, 0, none⟩))).setCell ⟨R, 1, none⟩ (.pointer (some ⟨c2, 0, none⟩)))) := fc_fin HL.out HRR.out H5.out.1 H5.out.2.1 H5.out.2.2.1 H5.out.2.2.2.1 H5.out.2.2.2.2 hb7 hca2
          have p1 : w7.cell? ⟨d, 32786, none⟩ = some (.pointer (some ⟨c1, 0, none⟩)) := hd7.f1
          have p2 := hd7.f2
          have pf := hd7.fz
          obtain ⟨r0, r1, rf0, rf1⟩ := two_cells hR7
          have hRd : ¬ R = d := by omega
          have hdR : ¬ d = R := by omega
          clear hd7 hR7 hb7 hca2 q1 q2 fz N2 H5
          go_wp2
          refine bodyPost_ret (v := .agg #[.pointer (some ⟨c1, 0, none⟩), .pointer (some ⟨c2, 0, none⟩)]) (by simp [results, go_sem, r0, r1]) rfl ?_
          exact HP.out
end
end Go.Proofs.YtloagniacjfkfaaGreatDoor
/- A block's head. -/
namespace Go.Proofs.YtloagniacjfkfaaGreatDoor
open Go.RowKit
section
variable {w : World} {d lim n0 : Nat} {s : St} {L : List Int} {a : Nat} {o : Ow} {V : Vs}
theorem fixedCodes_any (h : Live w d lim n0 s L a o V) :
    Calls Tryz.prog 125 #[.pointer (some ⟨d, 0, none⟩)] w fun e w' => FcPost w d lim n0 s L a o e w' := by
  rcases h.2.1.fx with hf | hf
  · exact fixedCodes_new h hf
  · exact fixedCodes_old h hf.1 hf.2
theorem Live.codes7 {w : World} {c1 c2 : Nat} (h : Live w d lim n0 s L a o V) (h1 : CodeAt w c1 fixL) (h2 : CodeAt w c2 fixD) :
    Live (((w.setCell ⟨d, 32784, none⟩ (.pointer (some ⟨c1, 0, none⟩))).setCell ⟨d, 32785, none⟩ (.pointer (some ⟨c2, 0, none⟩))).setCell ⟨d, 2, none⟩ (.int .i64 7)) d lim n0 { s with la := some fixL, da := some fixD, now := 7 } L a o { V with c1 := .pointer (some ⟨c1, 0, none⟩), c2 := .pointer (some ⟨c2, 0, none⟩) } ∧ Step w (((w.setCell ⟨d, 32784, none⟩ (.pointer (some ⟨c1, 0, none⟩))).setCell ⟨d, 32785, none⟩ (.pointer (some ⟨c2, 0, none⟩))).setCell ⟨d, 2, none⟩ (.int .i64 7)) d o o := by
  have hf : Fr w (((w.setCell ⟨d, 32784, none⟩ (.pointer (some ⟨c1, 0, none⟩))).setCell ⟨d, 32785, none⟩ (.pointer (some ⟨c2, 0, none⟩))).setCell ⟨d, 2, none⟩ (.int .i64 7)) d o.g := (((Fr.refl _ _ _).snoc _ _).snoc _ _).snoc _ _
  have hh := Hold.via h hf
  have ht := h.tame hf.step
  obtain ⟨⟨zs, gone, hd, hr⟩, _, hll⟩ := h
  exact ⟨⟨⟨zs, gone, ((hd.s_c1 _).s_c2 _).s_now 7, hr⟩, ⟨hh.le, hh.nle, hh.win, hh.byt, hh.told, hh.code, hh.row, ⟨c1, rfl, h1.tame ht, fixL_cd⟩, ⟨c2, rfl, h2.tame ht, fixD_cd⟩, hh.fx, hh.sep⟩, hll⟩, hf.step⟩
set_option maxHeartbeats 1600000 in
set_option maxRecDepth 20000 in
theorem readHead_any (h : Live w d lim n0 s L a o V) (hnow : s.now = 0) :
    Calls Tryz.prog 108 #[.pointer (some ⟨d, 0, none⟩)] w fun e w' => ItPost w d lim n0 s L a o (itHead s (L.drop a)) e w' := by
  have hle2 := h.ale
  by_cases hl : L.length < a + 3
  · have e1 : itHead s (L.drop a) = .short := by unfold itHead; rw [if_pos (by rw [List.length_drop]; omega)]
    rw [e1]
    have HT := live_take_no 3 h hl
    clear e1
    go_enter Tryz.func108, Tryz.ntmps108
    go_wp2_with fail
    refine HT.mono ?_
    rintro e w2 ⟨rfl, hl2, hs2⟩
    go_wp2
    go_ret
    exact ⟨rfl, o, V, LiveA.of hl2 (by omega), hs2⟩
  · have HO : Hid (itHead s (L.drop a) = if bV (L.drop a) 1 2 = 0 then .ok { s with last := decide (bV (L.drop a) 0 1 = 1), now := 1 } (3 + (L.length - a - 3) % 8) else if bV (L.drop a) 1 2 = 1 then .ok { s with last := decide (bV (L.drop a) 0 1 = 1), la := some fixL, da := some fixD, now := 7 } 3 else if bV (L.drop a) 1 2 = 2 then .ok { s with last := decide (bV (L.drop a) 0 1 = 1), now := 3 } 3 else .bad 3 s.out) := by
      show _ = _
      unfold itHead
      rw [if_neg (by rw [List.length_drop]; omega), List.length_drop]
    have hbit := h.bit.drop a
    have hsp := bV_split hbit 0 1 2 (by rw [List.length_drop]; omega)
    rw [Nat.zero_add] at hsp
    have hsp2 : bV (L.drop a) 0 3 = bV (L.drop a) 0 1 + 2 * bV (L.drop a) 1 2 := hsp
    have hA : bV (L.drop a) 0 1 < 2 := bV_small hbit 0 1
    have hK : bV (L.drop a) 1 2 < 4 := bV_small hbit 1 2
    have HT := live_take 3 h (by omega) (by omega)
    generalize bV (L.drop a) 0 3 = B at *
    generalize bV (L.drop a) 0 1 = A at *
    generalize bV (L.drop a) 1 2 = K at *
    have hand : bits .and .i64 (B : Int) 1 = (A : Int) := by
      have := i64_mask B 1 1 (by decide) (by omega) (by omega)
      rw [show B % 2 ^ 1 = A by omega] at this
      exact this
    have hshr : (B : Int) / 2 = (K : Int) := by omega
    obtain ⟨lb, hlb⟩ : ∃ lb, decide (A = 1) = lb := ⟨_, rfl⟩
    have hlb2 : ((A : Int) == 1) = lb := by
      rw [← hlb]
      by_cases h1 : A = 1
      · subst h1; rfl
      · rw [decide_eq_false h1]; simp; omega
    rw [hlb] at HO
    clear hsp hbit hsp2 h hlb
    go_enter Tryz.func108, Tryz.ntmps108
    go_wp2_with fail
    refine HT.mono ?_
    rintro e w2 ⟨rfl, l2, s2⟩
    obtain ⟨g, zs, gone, hd⟩ := l2.dk
    have k2 := hd.k2
    have k9 := hd.last
    have fz := hd.fz
    obtain ⟨l3, s3⟩ := l2.fld (s' := { s with last := lb }) (fun zs gone hk => hk.s_last lb) ((Fr.refl _ _ _).snoc _ _) rfl rfl rfl rfl rfl
    have HL3 : Hid (Live (w2.setCell ⟨d, 32776, none⟩ (.bool lb)) d lim n0 { s with last := lb } L (a + 3) o V ∧ Step w (w2.setCell ⟨d, 32776, none⟩ (.bool lb)) d o o) := ⟨l3, s2.trans s3⟩
    clear hd l2 s2 l3 s3 HT
    rcases (show K = 0 ∨ K = 1 ∨ K = 2 ∨ K = 3 by omega) with rfl | rfl | rfl | rfl
    · have HP : Hid (ItPost w d lim n0 s L a o (itHead s (L.drop a)) (.returned (.int .i64 0)) ((w2.setCell ⟨d, 32776, none⟩ (.bool lb)).setCell ⟨d, 2, none⟩ (.int .i64 1))) := by
        show ItPost _ _ _ _ _ _ _ _ _ _ _
        obtain ⟨l4, s4⟩ := HL3.out.1.fld (s' := { s with last := lb, now := 1 }) (fun zs gone hk => hk.s_now 1) ((Fr.refl _ _ _).snoc _ _) rfl rfl rfl rfl rfl
        rw [HO.out, if_pos rfl]
        refine ⟨rfl, o, V, ?_, HL3.out.2.trans s4⟩
        unfold AtS LiveA
        rw [if_neg (by simp), if_pos rfl]
        exact ⟨a + 3, by rw [Nat.sub_sub]; omega, l4⟩
      clear HO HL3
      go_wp2
      go_ret
      exact HP.out
    · have HO2 : Hid (itHead s (L.drop a) = .ok { s with last := lb, la := some fixL, da := some fixD, now := 7 } 3) := by
        show _ = _
        rw [HO.out, if_neg (by decide), if_pos rfl]
      clear HO
      have HFC := fixedCodes_any HL3.out.1
      go_wp2_with fail
      refine HFC.mono ?_
      rintro e w4 ⟨c1, c2, V4, rfl, hc1, hc2, l4, s4⟩
      obtain ⟨l5, s5⟩ := l4.codes7 hc1 hc2
      have HP : Hid (ItPost w d lim n0 s L a o (itHead s (L.drop a)) (.returned (.int .i64 0)) (((w4.setCell ⟨d, 32784, none⟩ (.pointer (some ⟨c1, 0, none⟩))).setCell ⟨d, 32785, none⟩ (.pointer (some ⟨c2, 0, none⟩))).setCell ⟨d, 2, none⟩ (.int .i64 7))) := by
        show ItPost _ _ _ _ _ _ _ _ _ _ _
        rw [HO2.out]
        exact ⟨rfl, o, _, AtS.of l5 (by simp) (by simp), (HL3.out.2.trans s4).trans s5⟩
      obtain ⟨g, zs, gone, hd⟩ := l4.dk
      have p2 := hd.k2
      have p3 := hd.c1
      have p4 := hd.c2
      have pf := hd.fz
      clear hd HO2 HL3 HFC hc1 hc2 l4 s4 l5 s5 k2 k9 fz
      go_wp2
      go_ret
      exact HP.out
    · have HP : Hid (ItPost w d lim n0 s L a o (itHead s (L.drop a)) (.returned (.int .i64 0)) ((w2.setCell ⟨d, 32776, none⟩ (.bool lb)).setCell ⟨d, 2, none⟩ (.int .i64 3))) := by
        show ItPost _ _ _ _ _ _ _ _ _ _ _
        obtain ⟨l4, s4⟩ := HL3.out.1.fld (s' := { s with last := lb, now := 3 }) (fun zs gone hk => hk.s_now 3) ((Fr.refl _ _ _).snoc _ _) rfl rfl rfl rfl rfl
        rw [HO.out, if_neg (by decide), if_neg (by decide), if_pos rfl]
        exact ⟨rfl, o, V, AtS.of l4 (by simp) (by simp), HL3.out.2.trans s4⟩
      clear HO HL3
      go_wp2
      go_ret
      exact HP.out
    · have HP : Hid (ItPost w d lim n0 s L a o (itHead s (L.drop a)) (.returned (.int .i64 3)) (w2.setCell ⟨d, 32776, none⟩ (.bool lb))) := by
        show ItPost _ _ _ _ _ _ _ _ _ _ _
        rw [HO.out, if_neg (by decide), if_neg (by decide), if_neg (by decide)]
        exact ⟨rfl, by decide, by decide, _, _, o, V, HL3.out.1, rfl, by simp only; omega, HL3.out.2⟩
      clear HO HL3
      go_wp2
      go_ret
      exact HP.out
end
end Go.Proofs.YtloagniacjfkfaaGreatDoor
/- A distance's bits, and the copy. -/
namespace Go.Proofs.YtloagniacjfkfaaGreatDoor
open Go.RowKit
section
variable {w : World} {d lim n0 : Nat} {s : St} {L : List Int} {a : Nat} {o : Ow} {V : Vs}
set_option maxHeartbeats 800000 in
set_option maxRecDepth 20000 in
theorem again_far (n dist : Nat) (h : Live w d lim n0 s L a o V) (h3 : s.out.length < dist) :
    Calls Tryz.prog 135 #[.pointer (some ⟨d, 0, none⟩), .int .i64 n, .int .i64 dist] w fun e w' => e = .returned (.int .i64 7) ∧ w' = w := by
  have k6 : w.cell? ⟨d, 6, none⟩ = some (.int .i64 s.out.length) := by obtain ⟨g, zs, gone, hd⟩ := h.dk; exact hd.k6
  have h3i : (s.out.length : Int) < dist := by omega
  clear h
  go_enter Tryz.func135, Tryz.ntmps135
  go_wp2
  go_ret
  exact ⟨rfl, rfl⟩
set_option maxHeartbeats 1600000 in
set_option maxRecDepth 20000 in
theorem readFar_any (h : Live w d lim n0 s L a o V) (hlim : lim ≤ 1000000) (hnow : s.now = 10) (hnb : s.nb ≤ 32) (hle : s.least ≤ 100000) (hl1 : 1 ≤ s.least) (hl2 : s.least + 2 ^ s.nb ≤ 32769) (hlen : s.len ≤ 1000000) :
    Calls Tryz.prog 118 #[.pointer (some ⟨d, 0, none⟩)] w fun e w' => ItPost w d lim n0 s L a o (itFar lim s (L.drop a)) e w' := by
  have hle2 : a ≤ L.length := by obtain ⟨⟨zs, gone, _, hr⟩, _⟩ := h; exact hr.le
  by_cases hl : L.length < a + s.nb
  · have e1 : itFar lim s (L.drop a) = .short := by unfold itFar; rw [if_pos (by rw [List.length_drop]; omega)]
    rw [e1]
    have HT := takeN_no h hl hle
    clear e1
    go_enter Tryz.func118, Tryz.ntmps118
    go_wp2_with fail
    refine HT.mono ?_
    rintro e w2 ⟨rfl, hl2, hs2⟩
    go_wp2
    go_ret
    exact ⟨rfl, o, V, LiveA.of hl2 (by omega), hs2⟩
  · have hbv : bV (L.drop a) 0 s.nb < 2 ^ s.nb := by
      have hb := h.bit
      have h1 := (binN_bound (((hb.drop a).drop 0).take s.nb)).2
      have h2 : (((L.drop a).drop 0).take s.nb).length ≤ s.nb := by rw [List.length_take]; omega
      have h3 : (2 : Nat) ^ (((L.drop a).drop 0).take s.nb).length ≤ 2 ^ s.nb := Nat.pow_le_pow_right (by omega) h2
      have e : (2 : Int) ^ (((L.drop a).drop 0).take s.nb).length = ((2 ^ (((L.drop a).drop 0).take s.nb).length : Nat) : Int) := by rw [Int.natCast_pow]; rfl
      have h4 := Nat.two_pow_pos s.nb
      unfold bV
      rw [e] at h1
      omega
    have HO : Hid (itFar lim s (L.drop a) = if s.out.length < s.least + bV (L.drop a) 0 s.nb then .bad 7 s.out else if (cpy lim (s.least + bV (L.drop a) 0 s.nb) s.len s.out).2 then .ok { s with out := (cpy lim (s.least + bV (L.drop a) 0 s.nb) s.len s.out).1, now := 7 } s.nb else .bad 9 (cpy lim (s.least + bV (L.drop a) 0 s.nb) s.len s.out).1) := by
      show _ = _
      unfold itFar
      rw [if_neg (by rw [List.length_drop]; omega)]
    have HT := takeN_yes h hnb (by omega) hle
    clear h
    obtain ⟨X, hX⟩ : ∃ X, s.least + bV (L.drop a) 0 s.nb = X := ⟨_, rfl⟩
    rw [hX] at HT HO
    have hX1 : 1 ≤ X := by omega
    have hX2 : X ≤ 32768 := by omega
    clear hX hbv
    go_enter Tryz.func118, Tryz.ntmps118
    go_wp2_with fail
    refine HT.mono ?_
    rintro e w2 ⟨rfl, hl2, hs2⟩
    obtain ⟨g, zs, gone, hd⟩ := hl2.dk
    have k2 := hd.k2
    have k3 : w2.cell? ⟨d, 32790, none⟩ = some (.int .i64 s.len) := hd.len
    have fz := hd.fz
    have HL : Hid (Live w2 d lim n0 s L (a + s.nb) o V) := hl2
    have HS2 : Hid (Step w w2 d o o) := hs2
    clear hd hl2 hs2 HT
    go_wp2_with fail
    obtain ⟨l3, s3⟩ := HL.out.fld (s' := { s with now := 7 }) (fun zs gone hk => hk.s_now 7) ((Fr.refl _ _ _).snoc _ _) rfl rfl rfl rfl rfl
    by_cases hf : s.out.length < X
    · refine (again_far s.len X l3 hf).mono ?_
      rintro e w4 ⟨rfl, hw4⟩
      rw [hw4]
      have HP : Hid (ItPost w d lim n0 s L a o (itFar lim s (L.drop a)) (.returned (.int .i64 7)) (w2.setCell ⟨d, 2, none⟩ (.int .i64 7))) := by
        show ItPost _ _ _ _ _ _ _ _ _ _ _
        rw [HO.out, if_pos hf]
        exact ⟨rfl, by decide, by decide, _, _, o, V, l3, rfl, by simp, HS2.out.trans s3⟩
      clear l3 s3 HO hw4
      go_wp2
      go_ret
      exact HP.out
    · refine (again_any s.len X l3 hlim hlen hX1 hX2 (by simp only; omega)).mono ?_
      rintro e w4 ⟨he, o', V', l4, s4⟩
      simp only at he l4
      by_cases hc : (cpy lim X s.len s.out).2 = true
      · rw [if_pos hc] at he
        subst he
        have HP : Hid (ItPost w d lim n0 s L a o (itFar lim s (L.drop a)) (.returned (.int .i64 0)) w4) := by
          show ItPost _ _ _ _ _ _ _ _ _ _ _
          rw [HO.out, if_neg hf, if_pos hc]
          exact ⟨rfl, o', V', AtS.of l4 (by simp) (by simp), (HS2.out.trans s3).trans s4⟩
        clear l3 s3 HO l4 s4
        go_wp2
        go_ret
        exact HP.out
      · rw [if_neg hc] at he
        subst he
        have HP : Hid (ItPost w d lim n0 s L a o (itFar lim s (L.drop a)) (.returned (.int .i64 9)) w4) := by
          show ItPost _ _ _ _ _ _ _ _ _ _ _
          rw [HO.out, if_neg hf, if_neg hc]
          exact ⟨rfl, by decide, by decide, _, _, o', V', l4, rfl, by simp, (HS2.out.trans s3).trans s4⟩
        clear l3 s3 HO l4 s4
        go_wp2
        go_ret
        exact HP.out
end
end Go.Proofs.YtloagniacjfkfaaGreatDoor
/- The two numbers of a stored block. -/
namespace Go.Proofs.YtloagniacjfkfaaGreatDoor
open Go.RowKit
section
variable {w : World} {d lim n0 : Nat} {s : St} {L : List Int} {a : Nat} {o : Ow} {V : Vs}
set_option maxHeartbeats 1600000 in
set_option maxRecDepth 70000 in
theorem readSize_any {a0 : Nat} (h : Live w d lim n0 s L a0 o V) (ha : a = a0 + (L.length - a0) % 8) (hnow : s.now = 1) :
    Calls Tryz.prog 109 #[.pointer (some ⟨d, 0, none⟩)] w fun e w' => ItPost w d lim n0 s L a o (itSize s (L.drop a)) e w' := by
  have hle0 := h.ale
  have HA8 : Hid ((L.length - a) % 8 = 0) := by show _ = _; omega
  have HAL := live_align h
  rw [← ha] at HAL
  clear h
  by_cases hl : L.length < a + 32
  · have HO : Hid (itSize s (L.drop a) = .short) := by show _ = _; unfold itSize; rw [if_pos (by rw [List.length_drop]; omega)]
    clear ha hle0
    go_enter Tryz.func109, Tryz.ntmps109
    go_wp2_with fail
    refine HAL.mono ?_
    rintro e w2 ⟨v, rfl, l2, s2⟩
    go_wp2_with fail
    refine (live_take_no 32 l2 hl).mono ?_
    rintro e w3 ⟨rfl, l3, s3⟩
    go_wp2
    go_ret
    rw [HO.out]
    refine ⟨rfl, o, V, ?_, s2.trans s3⟩
    unfold LiveA
    rw [if_pos hnow]
    exact ⟨a, by rw [HA8.out, Nat.add_zero], l3⟩
  · have HO : Hid (itSize s (L.drop a) = if bV (L.drop a) 16 16 ≠ 65535 - bV (L.drop a) 0 16 then .bad 8 s.out else if bV (L.drop a) 0 16 = 0 then endB { s with left := 0 } (L.drop a) 32 else .ok { s with left := bV (L.drop a) 0 16, now := 2 } 32) := by
      show _ = _
      unfold itSize
      rw [if_neg (by rw [List.length_drop]; omega)]
    clear ha hle0
    go_enter Tryz.func109, Tryz.ntmps109
    go_wp2_with fail
    refine HAL.mono ?_
    rintro e w2 ⟨v, rfl, l2, s2⟩
    have hbit := l2.bit.drop a
    have hsp := bV_split hbit 0 16 16 (by rw [List.length_drop]; omega)
    rw [Nat.zero_add] at hsp
    have hA : bV (L.drop a) 0 16 < 65536 := bV_small hbit 0 16
    have hC : bV (L.drop a) 16 16 < 65536 := bV_small hbit 16 16
    have HTK := live_take 32 l2 (by omega) (by omega)
    have hsp2 : bV (L.drop a) 0 32 = bV (L.drop a) 0 16 + 65536 * bV (L.drop a) 16 16 := hsp
    generalize bV (L.drop a) 0 32 = B at *
    generalize bV (L.drop a) 0 16 = A at *
    generalize bV (L.drop a) 16 16 = C at *
    have hand : bits .and .i64 (B : Int) 65535 = (A : Int) := by
      have := i64_mask B 65535 16 (by decide) (by omega) (by omega)
      rw [show B % 2 ^ 16 = A by omega] at this
      exact this
    have hshr : (B : Int) / 65536 = (C : Int) := by omega
    clear hsp hbit hsp2
    go_wp2_with fail
    refine HTK.mono ?_
    rintro e w3 ⟨rfl, l3, s3⟩
    obtain ⟨g, zs, gone, hd⟩ := l3.dk
    have k2 := hd.k2
    have k9 := hd.left
    have fz := hd.fz
    have HL : Hid (Live w3 d lim n0 s L (a + 32) o V ∧ Step w w3 d o o) := ⟨l3, s2.trans s3⟩
    clear hd l2 s2 l3 s3 HTK HAL
    by_cases hne : C = 65535 - A
    · have hneb : ((C : Int) == 65535 - (A : Int)) = true := by simp; omega
      have HO2 : Hid (itSize s (L.drop a) = if A = 0 then endB { s with left := 0 } (L.drop a) 32 else .ok { s with left := A, now := 2 } 32) := by
        show _ = _
        rw [HO.out, if_neg (fun h => h hne)]
      clear HO hne
      by_cases h0 : A = 0
      · subst h0
        have HEB : Hid (Calls Tryz.prog 127 #[.pointer (some ⟨d, 0, none⟩)] ((w3.setCell ⟨d, 32777, none⟩ (.int .i64 0)).setCell ⟨d, 2, none⟩ (.int .i64 2)) (fun e w' => EbPost ((w3.setCell ⟨d, 32777, none⟩ (.int .i64 0)).setCell ⟨d, 2, none⟩ (.int .i64 2)) d lim n0 { s with left := 0, now := 2 } L (a + 32) o e w') ∧ Step w3 ((w3.setCell ⟨d, 32777, none⟩ (.int .i64 0)).setCell ⟨d, 2, none⟩ (.int .i64 2)) d o o) := by
          obtain ⟨l4, s4⟩ := HL.out.1.fld (s' := { s with left := 0, now := 2 }) (fun zs gone hk => (hk.s_left 0).s_now 2) (((Fr.refl _ _ _).snoc _ _).snoc _ _) rfl rfl rfl rfl rfl
          exact ⟨endBlock_any l4, s4⟩
        have HP : Hid (∀ w4, EbPost ((w3.setCell ⟨d, 32777, none⟩ (.int .i64 0)).setCell ⟨d, 2, none⟩ (.int .i64 2)) d lim n0 { s with left := 0, now := 2 } L (a + 32) o (.returned (.tuple #[])) w4 → ItPost w d lim n0 s L a o (itSize s (L.drop a)) (.returned (.int .i64 0)) w4) := fun w4 hq => by
          rw [HO2.out, if_pos rfl]
          exact ItPost.endB (HL.out.2.trans HEB.out.2) hq rfl
        clear HO2 HL
        go_wp2_with fail
        refine HEB.out.1.mono ?_
        rintro e w4 hq
        have hq2 := hq
        obtain ⟨rfl, _⟩ := hq2
        have HQ : Hid (ItPost w d lim n0 s L a o (itSize s (L.drop a)) (.returned (.int .i64 0)) w4) := HP.out w4 hq
        clear HP HEB hq
        go_wp2
        go_ret
        exact HQ.out
      · have h0b : ((A : Int) == 0) = false := by simp; omega
        have HP : Hid (ItPost w d lim n0 s L a o (itSize s (L.drop a)) (.returned (.int .i64 0)) ((w3.setCell ⟨d, 32777, none⟩ (.int .i64 A)).setCell ⟨d, 2, none⟩ (.int .i64 2))) := by
          show ItPost _ _ _ _ _ _ _ _ _ _ _
          obtain ⟨l4, s4⟩ := HL.out.1.fld (s' := { s with left := A, now := 2 }) (fun zs gone hk => (hk.s_left A).s_now 2) (((Fr.refl _ _ _).snoc _ _).snoc _ _) rfl rfl rfl rfl rfl
          rw [HO2.out, if_neg h0]
          exact ⟨rfl, o, V, AtS.of l4 (by simp) (by simp), HL.out.2.trans s4⟩
        clear HO2 HL h0
        go_wp2
        go_ret
        exact HP.out
    · have hneb : ((C : Int) == 65535 - (A : Int)) = false := by simp; omega
      have HP : Hid (ItPost w d lim n0 s L a o (itSize s (L.drop a)) (.returned (.int .i64 8)) (w3.setCell ⟨d, 32777, none⟩ (.int .i64 A))) := by
        show ItPost _ _ _ _ _ _ _ _ _ _ _
        obtain ⟨l4, s4⟩ := HL.out.1.fld (s' := { s with left := A }) (fun zs gone hk => hk.s_left A) ((Fr.refl _ _ _).snoc _ _) rfl rfl rfl rfl rfl
        rw [HO.out, if_pos hne]
        exact ⟨rfl, by decide, by decide, _, _, o, V, l4, rfl, by simp only; omega, HL.out.2.trans s4⟩
      clear HO HL hne
      go_wp2
      go_ret
      exact HP.out
end
end Go.Proofs.YtloagniacjfkfaaGreatDoor
