/- A GIF's beginning: an extension: the program's walk. -/
import Derived.Test.YtgffcdldljgiiaaGreatScE
namespace Go.Proofs.YtgffcdldljgiiaaGreat
open Go.RowKit
/-- Colours in memory. -/
def TJ (w : World) (v : Value) (T : List Int) : Prop := ∃ a n cap, v = .slice a n cap ∧ 3 * n = T.length ∧ n ≤ cap ∧ n ≤ 256 ∧ Row w a T
theorem TI.toTJ {w : World} {B : Nat} {v : Value} {T : List Int} (h : TI w B v T) : TJ w v T := by
  obtain ⟨a, n, cap, h1, h2, h3, h3b, h4, _⟩ := h
  exact ⟨a, n, cap, h1, h2, h3, h3b, h4⟩
theorem TJ.old {w w' : World} {v : Value} {T : List Int} (h : TJ w v T) (hb : Below w.heap.size w w') : TJ w' v T := by
  obtain ⟨a, n, cap, h1, h2, h3, h3b, h4⟩ := h
  exact ⟨a, n, cap, h1, h2, h3, h3b, h4.old hb⟩
theorem TJ.grown {w w' : World} {v : Value} {T : List Int} {b : Nat} (h : TJ w v T) (hg : w.grownBy w' (some b)) (hne : ∀ (a : Option Addr) (zs : List Int), Row w a zs → ∀ x, a = some x → zs ≠ [] → x.block ≠ b) : TJ w' v T := by
  obtain ⟨a, n, cap, h1, h2, h3, h3b, h4⟩ := h
  exact ⟨a, n, cap, h1, h2, h3, h3b, h4.grown hg (hne a T h4)⟩
/-- The screen's seven cells at block sb. -/
def SC (w : World) (sb : Nat) (W H : Int) (tv : Value) (Lo : Bool) (C : Int) (La : Bool) (B : Int) : Prop := w.heap[sb]? = some (.cells #[.int .i64 W, .int .i64 H, tv, .bool Lo, .int .i64 C, .bool La, .int .i64 B] 303 (0, 0))
theorem SC.row {w : World} {sb : Nat} {W H : Int} {a0 : Option Addr} {n0 c0 : Nat} {Lo : Bool} {C : Int} {La : Bool} {B : Int} (h : SC w sb W H (.slice a0 n0 c0) Lo C La B) (a : Option Addr) (zs : List Int) (hr : Row w a zs) : ∀ x, a = some x → zs ≠ [] → x.block ≠ sb := by
  intro x hx hz
  rcases hr with hr | ⟨b, off, rfl, hc⟩
  · exact absurd hr hz
  · simp at hx
    subst hx
    rintro rfl
    have h0 := hc 0 (List.length_pos_iff.2 hz)
    unfold SC at h
    simp only [World.cell?, h, Nat.add_zero] at h0
    match off, h0 with
    | 0, h0 => simp at h0
    | 1, h0 => simp at h0
    | 2, h0 => simp at h0
    | 3, h0 => simp at h0
    | 4, h0 => simp at h0
    | 5, h0 => simp at h0
    | 6, h0 => simp at h0
    | n + 7, h0 => simp at h0
theorem CS.row {w : World} {c U : Nat} {st : St} (h : CS w c U st) (a : Option Addr) (zs : List Int) (hr : Row w a zs) : ∀ x, a = some x → zs ≠ [] → x.block ≠ c := by
  obtain ⟨s, cap, hh, _⟩ := h.cur
  exact hr.ne hh
/-- What may be changed: the cursor, the screen; and new blocks. -/
structure F2 (w w' : World) (c sb : Nat) : Prop where
  os : w'.os = w.os
  tape : w'.tape = w.tape
  output : w'.output = w.output
  size : w.heap.size ≤ w'.heap.size
  block : ∀ k, k < w.heap.size → k ≠ c → k ≠ sb → w'.heap[k]? = w.heap[k]?
theorem F2.refl (w : World) (c sb : Nat) : F2 w w c sb := ⟨rfl, rfl, rfl, Nat.le_refl _, fun _ _ _ _ => rfl⟩
theorem F2.trans {a b d : World} {c sb : Nat} (h : F2 a b c sb) (k : F2 b d c sb) : F2 a d c sb := ⟨k.os.trans h.os, k.tape.trans h.tape, k.output.trans h.output, Nat.le_trans h.size k.size, fun j hj h1 h2 => (k.block j (Nat.lt_of_lt_of_le hj h.size) h1 h2).trans (h.block j hj h1 h2)⟩
theorem F2.c {w w' : World} {c : Nat} (sb : Nat) (h : w.grownBy w' (some c)) : F2 w w' c sb := ⟨h.os, h.tape, h.output, h.size, fun k hk h1 _ => h.block k hk (by simp; omega)⟩
theorem F2.s {w w' : World} {sb : Nat} (c : Nat) (h : w.grownBy w' (some sb)) : F2 w w' c sb := ⟨h.os, h.tape, h.output, h.size, fun k hk _ h2 => h.block k hk (by simp; omega)⟩
/-- The cursor, the screen and its colours. -/
structure SI (w : World) (c U sb : Nat) (W H : Int) (tv : Value) (T : List Int) (Lo : Bool) (C : Int) (La : Bool) (B : Int) (st : St) (wr : World) : Prop where
  cs : CS wr c U st
  sc : SC wr sb W H tv Lo C La B
  ti : TJ wr tv T
  fr : F2 w wr c sb
  us : U ≤ sb
theorem SI.step {w : World} {c U sb : Nat} {W H : Int} {tv : Value} {T : List Int} {Lo : Bool} {C : Int} {La : Bool} {B : Int} {st st' : St} {wr w' : World} (h : SI w c U sb W H tv T Lo C La B st wr) (hc : CS w' c U st') (hg : wr.grownBy w' (some c)) : SI w c U sb W H tv T Lo C La B st' w' :=
  ⟨hc, (hg.block sb (lt_of_block h.sc) (by have := h.cs.cu; have := h.us; simp; omega)).trans h.sc, h.ti.grown hg h.cs.row, h.fr.trans (F2.c sb hg), h.us⟩
theorem SI.below {w : World} {c U sb : Nat} {W H : Int} {tv : Value} {T : List Int} {Lo : Bool} {C : Int} {La : Bool} {B : Int} {st : St} {wr w' : World} (h : SI w c U sb W H tv T Lo C La B st wr) (hb : Below wr.heap.size wr w') : SI w c U sb W H tv T Lo C La B st w' := h.step (h.cs.old hb) (grownBy_of_below hb _)
/-- One cell of the screen is set. -/
theorem SI.set {w : World} {c U sb : Nat} {W H : Int} {tv : Value} {T : List Int} {Lo : Bool} {C : Int} {La : Bool} {B : Int} {st : St} {wr : World} (h : SI w c U sb W H tv T Lo C La B st wr) (i : Nat) (u : Value) {W' H' : Int} {tv' : Value} {T' : List Int} {Lo' : Bool} {C' : Int} {La' : Bool} {B' : Int} (hs : SC (wr.setCell ⟨sb, i, none⟩ u) sb W' H' tv' Lo' C' La' B') (ht : TJ wr tv' T') : SI w c U sb W' H' tv' T' Lo' C' La' B' st (wr.setCell ⟨sb, i, none⟩ u) := by
  obtain ⟨a, n, cap, rfl, _⟩ := h.ti
  exact ⟨h.cs.grown (grownBy_set _ _ _ _) h.us, hs, ht.grown (grownBy_set _ _ _ _) h.sc.row, h.fr.trans (F2.s c (grownBy_set _ _ _ _)), h.us⟩
section
variable {w : World} {sb : Nat} {W H : Int} {tv : Value} {Lo : Bool} {C : Int} {La : Bool} {B : Int}
theorem SC.set2 (h : SC w sb W H tv Lo C La B) (u : Value) : SC (w.setCell ⟨sb, 2, none⟩ u) sb W H u Lo C La B := by unfold SC at h ⊢; rw [heap_setCell_same w sb 2 _ _ _ h]; rfl
theorem SC.set3 (h : SC w sb W H tv Lo C La B) (u : Bool) : SC (w.setCell ⟨sb, 3, none⟩ (.bool u)) sb W H tv u C La B := by unfold SC at h ⊢; rw [heap_setCell_same w sb 3 _ _ _ h]; rfl
theorem SC.set4 (h : SC w sb W H tv Lo C La B) (u : Int) : SC (w.setCell ⟨sb, 4, none⟩ (.int .i64 u)) sb W H tv Lo u La B := by unfold SC at h ⊢; rw [heap_setCell_same w sb 4 _ _ _ h]; rfl
theorem SC.set5 (h : SC w sb W H tv Lo C La B) (u : Bool) : SC (w.setCell ⟨sb, 5, none⟩ (.bool u)) sb W H tv Lo C u B := by unfold SC at h ⊢; rw [heap_setCell_same w sb 5 _ _ _ h]; rfl
theorem SC.set6 (h : SC w sb W H tv Lo C La B) (u : Int) : SC (w.setCell ⟨sb, 6, none⟩ (.int .i64 u)) sb W H tv Lo C La u := by unfold SC at h ⊢; rw [heap_setCell_same w sb 6 _ _ _ h]; rfl
theorem SC.cells (h : SC w sb W H tv Lo C La B) : w.cell? ⟨sb, 0, none⟩ = some (.int .i64 W) ∧ w.cell? ⟨sb, 1, none⟩ = some (.int .i64 H) ∧ w.cell? ⟨sb, 2, none⟩ = some tv ∧ w.cell? ⟨sb, 3, none⟩ = some (.bool Lo) ∧ w.cell? ⟨sb, 4, none⟩ = some (.int .i64 C) ∧ w.cell? ⟨sb, 5, none⟩ = some (.bool La) ∧ w.cell? ⟨sb, 6, none⟩ = some (.int .i64 B) ∧ ∀ i, w.frozen? ⟨sb, i, none⟩ = false := seven_cells h
end
theorem u8_and1 (x : Int) (h0 : 0 ≤ x) (h1 : x ≤ 255) : bits .and .u8 x 1 = x % 2 := by
  obtain ⟨k, rfl⟩ := Int.eq_ofNat_of_zero_le h0
  show IntKind.u8.wrap ((BitVec.ofInt 8 k &&& BitVec.ofInt 8 1).toNat : Nat) = _
  rw [BitVec.toNat_and, BitVec.toNat_ofInt]
  have e1 : (((k : Int)) % ((2 ^ 8 : Nat) : Int)).toNat = k := by omega
  have e2 : (BitVec.ofInt 8 1).toNat = 1 := by decide
  rw [e1, e2, Nat.and_one_is_mod, IntKind.wrap_u8]
  omega
theorem bgo_bytes : ∀ (xs : List Int) (s : Bs), Bytes xs → Bytes (bgo s xs).1
  | [], s, _ => by simp [bgo]; exact Bytes.nil
  | x :: xs, s, hb => by
    have hx := hb x (by simp)
    have hb' : Bytes xs := fun z hz => hb z (by simp [hz])
    by_cases hd : s.done = true
    · rw [bgo_done hd]; exact Bytes.nil
    · have hd' : s.done = false := by simpa using hd
      by_cases h0 : s.left = 0
      · rw [bgo_zero hd' h0]; exact bgo_bytes xs _ hb'
      · rw [bgo_succ hd' h0]
        intro z hz
        rcases List.mem_cons.1 hz with rfl | q
        · exact hx
        · exact bgo_bytes xs _ hb' z q
def ExPost (w : World) (c U sb : Nat) (W H : Int) (tv : Value) (T : List Int) (Lo : Bool) (C : Int) (La : Bool) (B : Int) (st : St) (e : Ending) (w' : World) : Prop := e = .returned (.tuple #[]) ∧ SI w c U sb W H tv T Lo C La B st w'
set_option maxHeartbeats 3200000 in
set_option maxRecDepth 20000 in
theorem readExtension_any (c U sb : Nat) (W H : Int) (tv : Value) (T : List Int) (Lo : Bool) (C : Int) (La : Bool) (B : Int) (st : St) (w0 w : World) (h : SI w0 c U sb W H tv T Lo C La B st w) : Calls Tryz.prog 242 #[.pointer (some ⟨c, 0, none⟩), .pointer (some ⟨sb, 0, none⟩)] w fun e w' => ExPost w0 c U sb W H tv T Lo (exC C st) La B (exS st) e w' := by
  have HI : Hid (SI w0 c U sb W H tv T Lo C La B st w) := h
  have CL := h.cs.big
  have HB : Hid (∀ w1, SI w0 c U sb W H tv T Lo C La B (bS 1 st) w1 → Calls Tryz.prog 261 #[.pointer (some ⟨c, 0, none⟩)] w1 fun e w' => RkPost w1 c U (bS 1 st) e w') := fun w1 h => readBlocks_any c U (bS 1 st) w1 h.cs (by have := h.us; have := lt_of_block h.sc; omega)
  have HC : Hid ((b1 st = 249 → stE (bkS (bS 1 st)) = 0 → (bkT (bS 1 st)).length = 4 ∧ bkN (bS 1 st) = 6 → exC C st = (if (bkT (bS 1 st))[0]?.getD 0 % 2 = 1 then (bkT (bS 1 st))[3]?.getD 0 else -1) ∧ exS st = bkS (bS 1 st)) ∧ (b1 st = 249 → stE (bkS (bS 1 st)) = 0 → ¬ ((bkT (bS 1 st)).length = 4 ∧ bkN (bS 1 st) = 6) → exC C st = C ∧ exS st = fS 3 (bkS (bS 1 st))) ∧ (¬ (b1 st = 249 ∧ stE (bkS (bS 1 st)) = 0) → exC C st = C ∧ exS st = bkS (bS 1 st))) := by
    refine ⟨fun h1 h2 h3 => ⟨if_pos ⟨⟨h1, h2⟩, h3⟩, if_neg (fun k => k.2 h3)⟩, fun h1 h2 h3 => ⟨if_neg (fun k => h3 k.2), if_pos ⟨⟨h1, h2⟩, h3⟩⟩, fun h => ⟨if_neg (fun k => h k.1), if_neg (fun k => h k.1)⟩⟩
  have HBy : Hid (Bytes (bkT (bS 1 st))) := by
    have hcs : Bytes (stZ (bS 1 st)) := by
      have := h.cs.byt
      cases st with
      | ok z =>
        by_cases q : z.length < 1
        · rw [bS_short q]; exact Bytes.nil
        · rw [bS_more q]; exact Bytes.drop this 1
      | error e => exact Bytes.nil
    exact bgo_bytes _ bs0 hcs
  generalize exC C st = C' at *
  generalize exS st = S' at *
  generalize b1 st = Lb at *
  generalize bS 1 st = s1 at *
  clear h
  go_enter Tryz.func242, Tryz.ntmps242
  go_wp2_with fail
  refine CL.mono ?_
  clear CL
  rintro e w1 ⟨rfl, hc1, hg1⟩
  have HI1 : Hid (SI w0 c U sb W H tv T Lo C La B s1 w1) := HI.out.step hc1 hg1
  have CB := HB.out w1 HI1.out
  clear hc1 hg1 HI HB
  go_wp2_with fail
  refine CB.mono ?_
  clear CB
  rintro e w2 ⟨a2, cap2, g2, rfl, hs2, hc2, hg2⟩
  have HI2 : Hid (SI w0 c U sb W H tv T Lo C La B (bkS s1) w2) := HI1.out.step hc2 hg2
  have HRow : Hid (Row w2 a2 (bkT s1)) := hs2.row rfl
  have hcl := (hs2.shape)
  have CE := HI2.out.cs.err
  have HF : Hid (∀ x : Int, x ≠ 0 → Calls Tryz.prog 123 #[.pointer (some ⟨c, 0, none⟩), .int .i64 x] w2 fun e w' => e = .returned (.tuple #[]) ∧ CS w' c U (fS x (bkS s1)) ∧ w2.grownBy w' (some c)) := fun x hx => HI2.out.cs.fail x hx
  obtain ⟨z0, z1, z2, z3, z4, z5, z6, zf⟩ := HI2.out.sc.cells
  have zf4 := zf 4
  clear hs2 hc2 hg2 HI1 hcl z0 z1 z2 z3 z5 z6 zf
  generalize bkS s1 = s2 at *
  generalize bkT s1 = X at *
  generalize bkN s1 = N at *
  by_cases h249 : Lb = 249
  · by_cases hE : stE s2 = 0
    · rw [hE] at CE
      by_cases hG : X.length = 4 ∧ N = 6
      · obtain ⟨eC, eS⟩ := HC.out.1 h249 hE hG
        obtain ⟨hX4, hN6⟩ := hG
        have HCS : Hid (C' = _ ∧ S' = s2) := ⟨eC, eS⟩
        match X, hX4 with
        | [x0, x1, x2, x3], _ =>
          obtain ⟨b, off, rfl, hcell⟩ : ∃ b off, a2 = some ⟨b, off, none⟩ ∧ ∀ j, j < [x0, x1, x2, x3].length → w2.cell? ⟨b, off + j, none⟩ = some (.int .u8 ([x0, x1, x2, x3][j]?.getD 0)) := by
            rcases HRow.out with e | e
            · cases e
            · exact e
          have y0 := hcell 0 (by simp)
          have y3 := hcell 3 (by simp)
          simp only [List.getElem?_cons_zero, List.getElem?_cons_succ, Option.getD_some, Nat.add_zero] at y0 y3 HCS
          have hx0 := HBy.out x0 (by simp)
          have hand := u8_and1 x0 hx0.1 (by omega)
          have hx3 := HBy.out x3 (by simp)
          clear hcell HC HBy HRow HF eC eS
          by_cases hodd : x0 % 2 = 1
          · rw [if_pos hodd] at HCS
            rw [hodd] at hand
            have HP : Hid (SI w0 c U sb W H tv T Lo C' La B S' (w2.setCell ⟨sb, 4, none⟩ (.int .i64 x3))) := by
              show SI ..
              rw [HCS.out.1, HCS.out.2]; exact HI2.out.set 4 _ (HI2.out.sc.set4 x3) HI2.out.ti
            subst h249 hN6
            clear HCS hE hodd
            go_wp2_with (go_at_call 139; refine CE.mono ?_; rintro e w3 ⟨rfl, rfl⟩; clear CE)
            go_end0
            exact ⟨rfl, HP.out⟩
          · have h0 : x0 % 2 = 0 := by omega
            rw [if_neg hodd] at HCS
            rw [h0] at hand
            have HP : Hid (SI w0 c U sb W H tv T Lo C' La B S' (w2.setCell ⟨sb, 4, none⟩ (.int .i64 (-1)))) := by
              show SI ..
              rw [HCS.out.1, HCS.out.2]; exact HI2.out.set 4 _ (HI2.out.sc.set4 (-1)) HI2.out.ti
            subst h249 hN6
            clear HCS hE hodd h0
            go_wp2_with (go_at_call 139; refine CE.mono ?_; rintro e w3 ⟨rfl, rfl⟩; clear CE)
            go_end0
            exact ⟨rfl, HP.out⟩
      · obtain ⟨eC, eS⟩ := HC.out.2.1 h249 hE hG
        have hcs : X.length ≠ 4 ∨ (X.length = 4 ∧ N ≠ 6) := by
          by_cases q : X.length = 4
          · exact .inr ⟨q, fun k => hG ⟨q, k⟩⟩
          · exact .inl q
        have CF := HF.out 3 (by omega)
        have HP : Hid (∀ w', CS w' c U (fS 3 s2) → w2.grownBy w' (some c) → SI w0 c U sb W H tv T Lo C' La B S' w') := fun w' h1 h2 => by rw [eC, eS]; exact HI2.out.step h1 h2
        subst h249
        clear HC HBy HRow HF eC eS hE hG HI2
        generalize X.length = XL at *
        rcases hcs with q | ⟨rfl, q⟩
        · have q1 : ((XL : Int) != 4) = true := by simp; omega
          have q2 : ((XL : Int) == 4) = false := by simp; omega
          go_wp2_with (first | (go_at_call 139; refine CE.mono ?_; rintro e w3 ⟨rfl, rfl⟩; clear CE) | (go_at_call 123; refine CF.mono ?_; rintro e w4 ⟨rfl, hc4, hg4⟩; clear CF))
          go_end0
          exact ⟨rfl, HP.out _ hc4 hg4⟩
        · have q1 : ((N : Int) != 6) = true := by simp; omega
          have q2 : ((N : Int) == 6) = false := by simp; omega
          go_wp2_with (first | (go_at_call 139; refine CE.mono ?_; rintro e w3 ⟨rfl, rfl⟩; clear CE) | (go_at_call 123; refine CF.mono ?_; rintro e w4 ⟨rfl, hc4, hg4⟩; clear CF))
          go_end0
          exact ⟨rfl, HP.out _ hc4 hg4⟩
    · obtain ⟨eC, eS⟩ := HC.out.2.2 (fun k => hE k.2)
      have HP : Hid (SI w0 c U sb W H tv T Lo C' La B S' w2) := by show SI ..; rw [eC, eS]; exact HI2.out
      have q1 : (stE s2 != 0) = true := by simpa using hE
      have q2 : (stE s2 == 0) = false := by simpa using hE
      generalize stE s2 = ES at *
      subst h249
      clear HC HBy HRow HF eC eS hE HI2
      go_wp2_with (go_at_call 139; refine CE.mono ?_; rintro e w3 ⟨rfl, rfl⟩; clear CE)
      refine bodyPost_ret (results_none rfl _ _ _) rfl ?_
      exact ⟨rfl, HP.out⟩
  · obtain ⟨eC, eS⟩ := HC.out.2.2 (fun k => h249 k.1)
    have HP : Hid (SI w0 c U sb W H tv T Lo C' La B S' w2) := by show SI ..; rw [eC, eS]; exact HI2.out
    have q1 : (Lb != 249) = true := by simpa using h249
    have q2 : (Lb == 249) = false := by simpa using h249
    clear HC HBy HRow HF eC eS HI2 CE h249
    go_wp2
    refine bodyPost_ret (results_none rfl _ _ _) rfl ?_
    exact ⟨rfl, HP.out⟩
end Go.Proofs.YtgffcdldljgiiaaGreat
