/- Joined: Jn Jo Jp. -/
import Derived.Test.YtloagniacjfkfaaGreatDoorQF
import Derived.Test.YtloagniacjfkfaaGreatDoorQM
/- A new decoder's cells. -/
namespace Go.Proofs.YtloagniacjfkfaaGreatDoor
open Go.RowKit
def zHead (x : Int) : List Value := [.int .i64 0, .int .i64 0, .slice none 0 0, .int .i64 x, .int .i64 0]
def zTail : List Value := [.slice none 0 0, .bool false, .int .i64 0, .int .i64 0, .int .i64 0, .int .i64 0, .pointer none, .slice none 0 0, .int .i64 0, .pointer none, .pointer none, .pointer none, .pointer none, .int .i64 0, .int .i64 0, .int .i64 0]
def zWin (n : Nat) : List Value := List.replicate n (Value.int .u8 0)
def zTl (x : Int) (n : Nat) : List Value := zHead x ++ (zWin n ++ zTail)
def zAll (x : Int) (n : Nat) : Array Value := ([Value.slice none 0 0, Value.int .i64 0] ++ zTl x n).toArray
theorem zWin_len (n : Nat) : (zWin n).length = n := by unfold zWin; rw [List.length_replicate]
theorem zTl_len (x : Int) (n : Nat) : (zTl x n).length = n + 21 := by
  unfold zTl
  rw [List.length_append, List.length_append, zWin_len]
  simp only [zHead, zTail, List.length_cons, List.length_nil]
  omega
theorem zAll_size (x : Int) (n : Nat) : (zAll x n).size = n + 23 := by
  unfold zAll
  rw [List.size_toArray, List.length_append, zTl_len]
  simp only [List.length_cons, List.length_nil]
  omega
theorem zAll_split (x : Int) (n : Nat) : zAll x n = #[Value.slice none 0 0, Value.int .i64 0] ++ (zTl x n).toArray := by
  unfold zAll
  rw [← List.append_toArray]
theorem zAll_set (x y : Int) (n : Nat) : (zAll x n).setIfInBounds 5 (.int .i64 y) = zAll y n := by
  unfold zAll
  rw [List.setIfInBounds_toArray]
  rfl
set_option maxRecDepth 1000000 in
theorem zc_list : Tryz.zeroCells119.toList = [Value.slice none 0 0, Value.int .i64 0] ++ (zHead 0 ++ (List.replicate 32768 (Value.int .u8 0) ++ zTail)) := by kernel_rfl
theorem zc_all : Tryz.zeroCells119 = zAll 0 32768 := Array.toList_inj.1 zc_list
/-- What a new decoder's cells hold. -/
def t0 (x : Int) : Tv := ⟨0, 0, .slice none 0 0, x, 0, fun _ => 0, .slice none 0 0, false, 0, 0, 0, 0, .pointer none, .slice none 0 0, 0, .pointer none, .pointer none, .pointer none, .pointer none, 0, 0, 0⟩
theorem zTl_at (x : Int) (i : Nat) (h2 : 2 ≤ i) (hi : i < 32791) : (zTl x 32768).toArray[i - 2]? = some ((t0 x).at i) := by
  rw [List.getElem?_toArray]
  unfold zTl Tv.at
  by_cases h7 : i < 7
  · rw [if_pos h7, List.getElem?_append_left (by simp only [zHead, List.length_cons, List.length_nil]; omega)]
    match i, h2, h7 with
    | 2, _, _ | 3, _, _ | 4, _, _ | 5, _, _ | 6, _, _ => rfl
    | n + 7, _, h7 => exact absurd h7 (by omega)
    | 0, h2, _ => exact absurd h2 (by omega)
    | 1, h2, _ => exact absurd h2 (by omega)
  · rw [if_neg h7, List.getElem?_append_right (by simp only [zHead, List.length_cons, List.length_nil]; omega)]
    rw [show (zHead x).length = 5 from rfl]
    by_cases h8 : i < 32775
    · rw [if_pos h8, List.getElem?_append_left (by rw [zWin_len]; omega)]
      unfold zWin
      rw [List.getElem?_replicate, if_pos (by omega)]
      rfl
    · rw [if_neg h8, List.getElem?_append_right (by rw [zWin_len]; omega), zWin_len]
      obtain ⟨j, rfl⟩ : ∃ j, i = 32775 + j := ⟨i - 32775, by omega⟩
      rw [show 32775 + j - 2 - 5 - 32768 = j by omega, show 32775 + j - 32775 = j by omega]
      have hj : j < 16 := by omega
      clear h2 hi h7 h8
      match j, hj with
      | 0, _ | 1, _ | 2, _ | 3, _ | 4, _ | 5, _ | 6, _ | 7, _ | 8, _ | 9, _ | 10, _ | 11, _ | 12, _ | 13, _ | 14, _ | 15, _ => rfl
      | n + 16, hj => exact absurd hj (by omega)
theorem dk_new (w : World) (x : Int) : Dk (w.alloc (.cells (zAll x 32768) 119)) w.heap.size none [] 0 (t0 x) := by
  refine ⟨(zTl x 32768).toArray, ⟨.slice none 0 0, ?_, Sl.nil _ _⟩, ?_, zTl_at x⟩
  · rw [zAll_split]
    exact heap_alloc_new _ _
  · rw [List.size_toArray, zTl_len]
end Go.Proofs.YtloagniacjfkfaaGreatDoor
/- A new decoder; a decoder is given more bytes. -/
namespace Go.Proofs.YtloagniacjfkfaaGreatDoor
open Go.RowKit
def o0 : Ow := ⟨none, none, none⟩
def NwPost (w : World) (lim : Nat) (e : Ending) (w' : World) : Prop :=
  e = .returned (.pointer (some ⟨w.heap.size, 0, none⟩)) ∧ Dec w.heap.size w' w.heap.size lim [] o0 (.stop St.start []) ∧ Below w.heap.size w w'
theorem dec_new (w : World) (lim : Nat) : NwPost w lim (.returned (.pointer (some ⟨w.heap.size, 0, none⟩))) (w.alloc (.cells (zAll lim 32768) 119)) := by
  refine ⟨rfl, ⟨.short (by decide) rfl, ⟨0, ⟨fun _ => 0, .slice none 0 0, .pointer none, .slice none 0 0, .pointer none, .pointer none, .pointer none, .pointer none⟩, rfl, ?_, inv_start⟩, rfl, ⟨Nat.le_refl _, (fun k hk => by cases hk), (fun k hk => by cases hk), (fun k hk => by cases hk)⟩, Bit.nil, rfl⟩, (Below.refl _ _).alloc (Nat.le_refl _) _⟩
  refine AtS.of ⟨⟨[], 0, dk_new w lim, RI.nil⟩, ?_, by simp⟩ (by decide) (by decide)
  exact ⟨Nat.zero_le _, Nat.zero_le _, (fun k hk _ => absurd hk (by simp [St.start])), Bytes.nil, Sl.nil _ _, rfl, Sl.nil _ _, rfl, rfl, .inl rfl, .inl rfl⟩
set_option maxHeartbeats 800000 in
set_option maxRecDepth 20000 in
theorem new_pos (n : Nat) (w : World) (hn : n ≤ 1000000) : Calls Tryz.prog 38 #[.int .i64 n] w fun e w' => NwPost w n e w' := by
  have HP : Hid (NwPost w n (.returned (.pointer (some ⟨w.heap.size, 0, none⟩))) (w.alloc (.cells (zAll n 32768) 119))) := dec_new w n
  go_enter Tryz.func38, Tryz.ntmps38
  go_wp2
  rw [zc_all, zAll_set]
  go_ret
  exact HP.out
set_option maxHeartbeats 800000 in
set_option maxRecDepth 20000 in
theorem new_neg (x : Int) (w : World) (hn : x < 0) : Calls Tryz.prog 38 #[.int .i64 x] w fun e w' => NwPost w 0 e w' := by
  have HP : Hid (NwPost w 0 (.returned (.pointer (some ⟨w.heap.size, 0, none⟩))) (w.alloc (.cells (zAll 0 32768) 119))) := dec_new w 0
  go_enter Tryz.func38, Tryz.ntmps38
  go_wp2
  rw [zc_all, zAll_set]
  go_ret
  exact HP.out
theorem new_any (x : Int) (w : World) (hn : x ≤ 1000000) : Calls Tryz.prog 38 #[.int .i64 x] w fun e w' => NwPost w x.toNat e w' := by
  by_cases h : x < 0
  · rw [show x.toNat = 0 by omega]; exact new_neg x w h
  · have := new_pos x.toNat w (by omega)
    rwa [show ((x.toNat : Nat) : Int) = x by omega] at this
def PsPost (base : Nat) (w : World) (d lim : Nat) (L : List Int) (o : Ow) (r : Og) (e : Ending) (w' : World) : Prop :=
  ∃ r' o' tv tg, e = .returned (.tuple #[tv, .int .i64 r'.err]) ∧ Dec base w' d lim L o' r' ∧ r.out <+: r'.out ∧ Sl w' 5 tv tg (vals (r'.out.drop r.out.length)) ∧ (∀ k, tg = some k → w.heap.size ≤ k) ∧ Step w w' d o o'
set_option maxHeartbeats 800000 in
set_option maxRecDepth 20000 in
theorem push_nil (v : Value) (w : World) : Calls Tryz.prog 40 #[.pointer none, v] w fun e w' => e = .returned (.tuple #[.slice none 0 0, .int .i64 1]) ∧ w' = w := by
  go_enter Tryz.func40, Tryz.ntmps40
  go_wp2
  go_ret2
  exact ⟨rfl, rfl⟩
section
variable {base : Nat} {w : World} {d lim : Nat} {L : List Int} {o : Ow} {r : Og}
theorem bitsL_m8 (bs : List Int) : (bitsL bs).length % 8 = 0 := by rw [bitsL_len]; omega
theorem Dec.drewN (h : Dec base w d lim L o r) (n : Nat) : Dec base (w.drewN n) d lim L o r := h.old ⟨rfl, rfl, rfl, Nat.le_refl _, fun _ _ => rfl⟩
theorem Dec.fail_more {er : Int} {out : List Int} (h : Dec base w d lim L o (.fail er out)) (bs : List Int) : Dec base w d lim (L ++ bitsL bs) o (.fail er out) :=
  ⟨h.runs.more_fail (bitsL_m8 bs) h.bit inv_start, h.stand, h.t, h.fr, h.bit.append (bitsL_bit bs), by rw [List.length_append]; have := h.m8; have := bitsL_m8 bs; omega⟩
set_option maxHeartbeats 800000 in
set_option maxRecDepth 20000 in
theorem push_fail {er : Int} {out : List Int} (bs : List Int) (v : Value) (h : Dec base w d lim L o (.fail er out)) : Calls Tryz.prog 40 #[.pointer (some ⟨d, 0, none⟩), v] w fun e w' => PsPost base w d lim (L ++ bitsL bs) o (.fail er out) e w' := by
  have HD : Hid (Dec base w d lim L o (.fail er out)) := h
  obtain ⟨⟨t, hd, h1, h2, h3, h4, h5⟩, h6, _⟩ := h.stand
  have k3 := hd.k3
  rw [h1] at k3
  have hb : (er == 0) = false := by simpa using h6
  have HP : Hid (∀ n, PsPost base w d lim (L ++ bitsL bs) o (.fail er out) (.returned (.tuple #[.slice none 0 0, .int .i64 er])) (w.drewN n)) := fun n =>
    ⟨.fail er out, o, .slice none 0 0, none, rfl, (HD.out.fail_more bs).drewN n, List.prefix_refl _, by rw [List.drop_length]; exact Sl.nil _ _, (fun k hk => by cases hk), (Step.refl _ _ _).drewN n⟩
  clear h hd h1 h2 h3 h4 h5 h6
  go_enter Tryz.func40, Tryz.ntmps40
  go_wp2
  go_region_held3 (fun u => u.cell? ⟨d, 3, none⟩ = some (.int .i64 er)) (go_keep) (fail)
  go_wp2
  go_ret2
  exact HP.out 1
end
end Go.Proofs.YtloagniacjfkfaaGreatDoor
/- A decoder is given more bytes: behind the end; on the way. -/
namespace Go.Proofs.YtloagniacjfkfaaGreatDoor
open Go.RowKit
section
variable {base : Nat} {w : World} {d lim : Nat} {L : List Int} {o : Ow} {r : Og}
theorem drop_more {a : Nat} (x : List Int) (h : a ≤ L.length) : (L ++ x).drop a = L.drop a ++ x := by rw [List.drop_append_of_le_length h]
theorem end_push {w1 : World} {s : St} {l : List Int} {a : Nat} {V : Vs} {rv : Value} {zs : List Int} (h : Dec base w d lim L o (.stop s l)) (h11 : s.now = 11) (hl : l = L.drop a) (hd : Dk w d none [] 0 { mkT s lim V with rest := rv }) (hs : Sl w 5 rv o.g (vals zs)) (hr : RI zs 0 L a) (hh : Hold w s lim s.out.length V o) (hi : Inv s)
    (bs : List Int) (hb : Bytes bs) {g' : Option Nat} {v' : Value} (hgrow : w.grownBy w1 o.g) (hsl : Sl w1 5 v' g' (vals (zs ++ bs))) (hg : g' = o.g ∨ ∃ k, g' = some k ∧ w.heap.size ≤ k) (hbase : base ≤ w.heap.size) (hL : L.length + 8 * bs.length ≤ 1125899906842624) :
    PsPost base w d lim (L ++ bitsL bs) o (.stop s l) (.returned (.tuple #[.slice none 0 0, .int .i64 0])) (w1.setCell ⟨d, 4, none⟩ v') := by
  obtain ⟨cd, td⟩ := hd.tag
  have htag : ∀ {k : Nat} {c1 c2 : Array Value} {t1 t2 : TypeId}, w.heap[k]? = some (.cells c1 t1 (0, 0)) → w.heap[k]? = some (.cells c2 t2 (0, 0)) → t1 = t2 := by
    intro k c1 c2 t1 t2 e1 e2
    rw [e1] at e2
    simp only [Option.some.injEq, Obj.cells.injEq] at e2
    exact e2.2.1
  have hod : some d ≠ o.g := by
    intro e
    obtain ⟨c2, e2⟩ := hs.tag _ e.symm
    exact absurd (htag td e2) (by decide)
  have hgd : ∀ k, g' = some k → k ≠ d := by
    rintro k e rfl
    rcases hg with e2 | ⟨k', e2, hk⟩
    · exact hod (e2 ▸ e.symm)
    · rw [e2] at e; cases e; have := hd.lt; omega
  have hf : Fr w w1 d o.g := Fr.grown hgrow
  have hf2 : Fr w (w1.setCell ⟨d, 4, none⟩ v') d o.g := hf.snoc 4 v'
  have hd1 : Dk w1 d none [] 0 { mkT s lim V with rest := rv } := hd.same (hgrow.block d hd.lt hod) (fun k hk => by cases hk)
  have hh1 : Hold w1 s lim s.out.length V o := by
    refine hh.keep ⟨hgrow.size, fun k hk => ?_⟩ (fun k hk => by rw [h.t] at hk; cases hk) (fun k hk => ?_)
    · by_cases e : some k = o.g
      · obtain ⟨c, e2⟩ := hs.tag k e.symm
        exact .inr ⟨_, _, e2, .inr (.inl rfl)⟩
      · exact .inl (hgrow.block k hk e)
    · obtain ⟨c, e⟩ := hh.row.tag k hk
      refine hgrow.block k (lt_of_block e) fun e1 => ?_
      obtain ⟨c2, e2⟩ := hs.tag k e1.symm
      exact absurd (htag e e2) (by decide)
  have hh2 := hh1.setd hd1 4 v'
  have hst : Step w (w1.setCell ⟨d, 4, none⟩ v') d o { o with g := g' } := by
    have h0 : Step w (w1.setCell ⟨d, 4, none⟩ v') d o o := hf2.step
    refine ⟨h0.os, h0.tape, h0.output, h0.size, h0.block, fun k hk => ?_, h0.q, h0.t⟩
    rcases hg with e | ⟨k', e, hk'⟩
    · exact .inl (e ▸ hk)
    · have hk : g' = some k := hk
      rw [e] at hk; cases hk; exact .inr hk'
  refine ⟨.stop s (l ++ bitsL bs), { o with g := g' }, .slice none 0 0, none, rfl, ⟨h.runs.more_end (bitsL_m8 bs) h.bit inv_start h11, ⟨a, V, ?_, ?_, hi⟩, h.t, h.fr.step hst hbase, h.bit.append (bitsL_bit bs), ?_⟩, List.prefix_refl _, ?_, (fun k hk => by cases hk), hst⟩
  · rw [drop_more _ hr.le, hl]
  · unfold AtS
    rw [if_pos h11]
    refine ⟨v', zs ++ bs, hd1.s_rest v', hsl.same fun k hk => Below.heap_setCell _ _ _ _ (hgd k hk), hr.feed hb, ⟨hh2.le, hh2.nle, hh2.win, hh2.byt, hh2.told, hh2.code, hh2.row, hh2.c1, hh2.c2, hh2.fx, ?_⟩, ?_⟩
    · have : ({ o with g := g' } : Ow).t = none := h.t
      rw [this]
      cases g' with
      | none => exact .inl rfl
      | some k => exact .inr (by simp)
    · rw [List.length_append, bitsL_len]; exact hL
  · rw [List.length_append]; have := h.m8; have := bitsL_m8 bs; omega
  · show Sl _ 5 _ none (vals (s.out.drop s.out.length))
    rw [List.drop_length]; exact Sl.nil _ _
set_option maxHeartbeats 800000 in
set_option maxRecDepth 20000 in
theorem push_end {s : St} {l : List Int} (h : Dec base w d lim L o (.stop s l)) (h11 : s.now = 11) (bs : List Int) (av : Option Addr) (m c : Nat) (hm : bs.length = m) (hb : Bytes bs) (hc : av = none → m = 0 ∧ c = 0) (hrow : Row w av bs) (hbase : base ≤ w.heap.size) (hL : L.length + 8 * m ≤ 1125899906842624) :
    Calls Tryz.prog 40 #[.pointer (some ⟨d, 0, none⟩), .slice av m c] w fun e w' => PsPost base w d lim (L ++ bitsL bs) o (.stop s l) e w' := by
  obtain ⟨a, V, hl, ha, hi⟩ := h.stand
  unfold AtS at ha
  rw [if_pos h11] at ha
  obtain ⟨rv, zs, hd, hs, hr, hh, hll⟩ := ha
  have k2 := hd.k2
  have k3 := hd.k3
  have k4 := hd.k4
  have fz := hd.fz
  have e2 : (({ mkT s lim V with rest := rv } : Tv).now) = 11 := by show (s.now : Int) = 11; rw [h11]; rfl
  have e3 : (({ mkT s lim V with rest := rv } : Tv).failed) = 0 := rfl
  have e4 : (({ mkT s lim V with rest := rv } : Tv).rest) = rv := rfl
  rw [e2] at k2
  rw [e3] at k3
  rw [e4] at k4
  have hlen := hr.len
  have HE : Hid (∀ (w1 : World) (g' : Option Nat) (v' : Value), w.grownBy w1 o.g → Sl w1 5 v' g' (vals (zs ++ bs)) → (g' = o.g ∨ ∃ k, g' = some k ∧ w.heap.size ≤ k) → PsPost base w d lim (L ++ bitsL bs) o (.stop s l) (.returned (.tuple #[.slice none 0 0, .int .i64 0])) (w1.setCell ⟨d, 4, none⟩ v')) :=
    fun w1 g' v' g1 g2 g3 => end_push h h11 hl hd hs hr hh hi bs hb g1 g2 g3 hbase (by rw [hm]; exact hL)
  obtain ⟨i0, hi0, hz0, hz1, hz2⟩ := info_parts Tryz.info5
  obtain ⟨ax, cx, hv, hl1, hl2, hl3⟩ := hs.shape
  rw [vals_len] at hv hl1
  subst hv
  have HS : Hid (Sl w 5 (.slice ax zs.length cx) o.g (vals zs)) := hs
  have HR : Hid (Row w av bs) := hrow
  have HM : Hid (bs.length = m) := hm
  have HDk : Hid (∀ w1, w.grownBy w1 o.g → w1.cell? ⟨d, 4, none⟩ = some (.slice ax zs.length cx) ∧ ∀ j, w1.frozen? ⟨d, j, none⟩ = false) := by
    intro w1 hg
    have hod : some d ≠ o.g := by
      intro e
      obtain ⟨c2, e2⟩ := hs.tag _ e.symm
      obtain ⟨cd, td⟩ := hd.tag
      rw [td] at e2
      simp only [Option.some.injEq, Obj.cells.injEq] at e2
      exact absurd e2.2.1 (by decide)
    exact ⟨(World.cell?_of_block (a := ⟨d, 4, none⟩) (hg.block d hd.lt hod)).trans hd.k4, fun j => (World.frozen?_of_block (a := ⟨d, j, none⟩) (hg.block d hd.lt hod)).trans (hd.fz j)⟩
  clear h hl hi hd hs hr hh hll h11 hrow hb e2 e3 e4
  cases av with
  | none =>
    obtain ⟨rfl, rfl⟩ := hc rfl
    have hz := List.length_eq_zero_iff.1 HM.out
    subst hz
    clear HM hm
    go_enter Tryz.func40, Tryz.ntmps40
    go_wp2_with (at_builtin; refine wpList_append_sl_none rfl _ _ 22 rfl 5 i0 Tryz.underlying22 hi0 ax zs.length cx rfl hl1 rfl ?_)
    go_ret2
    refine HE.out w o.g (.slice ax zs.length cx) ⟨rfl, rfl, rfl, Nat.le_refl _, fun _ _ _ => rfl⟩ ?_ (.inl rfl)
    rw [List.append_nil]
    exact HS.out
  | some x =>
    clear hc hm
    go_enter Tryz.func40, Tryz.ntmps40
    go_wp2_with (at_builtin; refine wpList_append_sl rfl _ _ 22 rfl 5 i0 (.int .u8 0) 1 Tryz.underlying22 hi0 hz0 hz1 hz2 rfl (.slice ax zs.length cx) o.g (vals zs) rfl HS.out x m c (vals bs) rfl (by rw [vals_len]; exact HM.out) (news_row HR.out) (vals_one bs) (by rw [vals_len]; omega) (by rw [vals_len]; unfold maxLen; omega) ?_)
    intro v' w1 g' hsl hg' hgrow
    have HE2 : Hid (PsPost base w d lim (L ++ bitsL bs) o (.stop s l) (.returned (.tuple #[.slice none 0 0, .int .i64 0])) (w1.setCell ⟨d, 4, none⟩ v')) := HE.out w1 g' v' hgrow (by rw [vals_append]; exact hsl) hg'
    obtain ⟨q4, qf⟩ := HDk.out w1 hgrow
    obtain ⟨a', c', hv, _⟩ := hsl.shape
    rw [List.length_append, vals_len, vals_len] at hv
    rw [hv] at HE2
    rw [hv]
    clear hsl hg' hgrow HE HS HR HM HDk k2 k3 k4 fz hv
    go_wp2
    go_ret2
    exact HE2.out
theorem Stand.cells {n0 : Nat} (h : Stand w d lim n0 L o r) : ∃ tv, w.cell? ⟨d, 32775, none⟩ = some tv ∧ Sl w 5 tv o.t (vals (r.out.drop n0)) ∧ w.cell? ⟨d, 3, none⟩ = some (.int .i64 r.err) ∧ (∀ j, w.frozen? ⟨d, j, none⟩ = false) ∧ (∀ k, o.t = some k → k ≠ d) ∧ d < w.heap.size := by
  have key : ∀ {g : Option Nat} {zs : List Int} {gone : Nat} {t : Tv}, Dk w d g zs gone t → Sl w 5 t.told o.t (vals (r.out.drop n0)) → ∀ k, o.t = some k → k ≠ d := by
    intro g zs gone t hd hs k hk e
    subst e
    obtain ⟨c2, e2⟩ := hs.tag _ hk
    obtain ⟨cd, td⟩ := hd.tag
    rw [td] at e2
    simp only [Option.some.injEq, Obj.cells.injEq] at e2
    exact absurd e2.2.1 (by decide)
  cases r with
  | stop s l =>
    obtain ⟨a, V, hl, ha, hi⟩ := h
    obtain ⟨g, zs, gone, rv, hd⟩ := ha.dk
    have ht : Sl w 5 V.told o.t (vals (s.out.drop n0)) := ha.hold.told
    exact ⟨_, hd.told, ht, hd.k3, hd.fz, key hd ht, hd.lt⟩
  | fail er out =>
    obtain ⟨⟨t, hd, h1, h2, h3, h4, h5⟩, h6, _⟩ := h
    refine ⟨_, hd.told, h5, ?_, hd.fz, key hd h5, hd.lt⟩
    rw [← h1]; exact hd.k3
theorem Stand.calm {n0 : Nat} (h : Stand w d lim n0 L o r) : Stand (w.setCell ⟨d, 32775, none⟩ (.slice none 0 0)) d lim r.out.length L { o with t := none } r := by
  cases r with
  | stop s l =>
    obtain ⟨a, V, hl, ha, hi⟩ := h
    exact ⟨a, _, hl, ha.calm, hi⟩
  | fail er out =>
    obtain ⟨hf, h6⟩ := h
    exact ⟨hf.calm, h6⟩
set_option maxHeartbeats 1600000 in
set_option maxRecDepth 20000 in
theorem push_live {s : St} {l : List Int} (h : Dec base w d lim L o (.stop s l)) (h10 : s.now ≤ 10) (bs : List Int) (av : Option Addr) (m c : Nat) (hm : bs.length = m) (hb : Bytes bs) (hc : av = none → m = 0 ∧ c = 0) (hrow : Row w av bs) (hbase : base ≤ w.heap.size) (h1 : 3 ≤ base) (hord : Ord w) (hlim : lim ≤ 1000000) (hL : L.length + 8 * m ≤ 1125899906842624) :
    Calls Tryz.prog 40 #[.pointer (some ⟨d, 0, none⟩), .slice av m c] w fun e w' => PsPost base w d lim (L ++ bitsL bs) o (.stop s l) e w' := by
  obtain ⟨a, V, hl, ha, hi⟩ := h.stand
  obtain ⟨g, zs, gone, rv, hd⟩ := ha.dk
  have k2 : w.cell? ⟨d, 2, none⟩ = some (.int .i64 s.now) := hd.k2
  have k3 : w.cell? ⟨d, 3, none⟩ = some (.int .i64 0) := hd.k3
  have hne : ((s.now : Int) == 11) = false := by simp; omega
  have hle := ha.bits.2.1
  have hown := h.fr.own h1
  have HD : Hid (Dec base w d lim L o (.stop s l)) := h
  have HF := feed_at ha h10 bs av m c hm hb (fun e => (hc e).2) hrow hL
  have HI : Hid (Inv s ∧ Ord w ∧ Own1 d o ∧ d < w.heap.size ∧ l = L.drop a ∧ a ≤ L.length) := ⟨hi, hord, hown, hd.lt, hl, hle⟩
  clear h ha hi hd hord hown hrow hb hl hle
  go_enter Tryz.func40, Tryz.ntmps40
  go_wp2_with fail
  refine HF.mono ?_
  rintro e w1 ⟨rfl, o1, a1, st1, ot1, oq1⟩
  have HR := read_any a1 HI.out.1 (HI.out.2.1.step HI.out.2.2.1 st1 HI.out.2.2.2.1) (HI.out.2.2.1.step st1 HI.out.2.2.2.1) hlim
  have H1 : Hid (Step w w1 d o o1 ∧ o1.t = o.t) := ⟨st1, ot1⟩
  clear HF a1 st1 ot1 oq1 k2 k3
  go_wp2_with fail
  refine HR.mono ?_
  rintro e w2 ⟨rfl, r', o2, rn, sd, st2⟩
  obtain ⟨tv, q1, hsl, q3, qf, htd, hdl⟩ := sd.cells
  have HP : Hid (∀ n, PsPost base w d lim (L ++ bitsL bs) o (.stop s l) (.returned (.tuple #[tv, .int .i64 r'.err])) ((w2.setCell ⟨d, 32775, none⟩ (.slice none 0 0)).drewN n)) := by
    intro n
    have hst : Step w (w2.setCell ⟨d, 32775, none⟩ (.slice none 0 0)) d o { o2 with t := none } := by
      have h0 := H1.out.1.trans st2
      have hf : Fr w2 (w2.setCell ⟨d, 32775, none⟩ (.slice none 0 0)) d o2.g := (Fr.refl _ _ _).snoc _ _
      have h3 := h0.trans hf.step
      exact ⟨h3.os, h3.tape, h3.output, h3.size, h3.block, h3.g, h3.q, (fun k hk => by cases hk)⟩
    have hrun : Runs lim St.start (L ++ bitsL bs) r' := by
      refine HD.out.runs.more_stop (bitsL_m8 bs) HD.out.bit inv_start ?_
      rw [HI.out.2.2.2.2.1, ← drop_more _ HI.out.2.2.2.2.2]
      exact rn
    have hpre : s.out <+: r'.out := rn.pre
    have hdec : Dec base (w2.setCell ⟨d, 32775, none⟩ (.slice none 0 0)) d lim (L ++ bitsL bs) { o2 with t := none } r' :=
      ⟨hrun, sd.calm, rfl, HD.out.fr.step hst hbase, HD.out.bit.append (bitsL_bit bs), by rw [List.length_append]; have := HD.out.m8; have := bitsL_m8 bs; omega⟩
    refine ⟨r', { o2 with t := none }, tv, o2.t, rfl, hdec.drewN n, hpre, ?_, fun k hk => ?_, hst.drewN n⟩
    · exact hsl.same fun k hk => (Below.heap_setCell _ _ _ _ (htd k hk) : _)
    · rcases st2.t k hk with e | e
      · rw [H1.out.2, HD.out.t] at e; cases e
      · exact Nat.le_trans H1.out.1.size e
  obtain ⟨ax, cx, hv, _⟩ := hsl.shape
  subst hv
  generalize r'.err = er at q3 HP
  clear HR H1 HI HD rn sd st2 hsl htd
  have HQ : Hid ((w2.setCell ⟨d, 32775, none⟩ (.slice none 0 0)).cell? ⟨d, 3, none⟩ = some (.int .i64 er)) := by
    show _ = _
    rw [← q3]
    apply World.cell?_setCell_other
    intro e
    cases e
  go_wp2
  generalize hw3 : w2.setCell ⟨d, 32775, none⟩ (.slice none 0 0) = w3 at HP HQ ⊢
  clear hw3 q1 q3 qf
  have q3 := HQ.out
  go_region_held3 (fun u => u.cell? ⟨d, 3, none⟩ = some (.int .i64 er)) (go_keep) (fail)
  go_wp2
  go_ret2
  exact HP.out 1
theorem push_any (h : Dec base w d lim L o r) (bs : List Int) (av : Option Addr) (m c : Nat) (hm : bs.length = m) (hb : Bytes bs) (hc : av = none → m = 0 ∧ c = 0) (hrow : Row w av bs) (hbase : base ≤ w.heap.size) (h1 : 3 ≤ base) (hord : Ord w) (hlim : lim ≤ 1000000) (hL : L.length + 8 * m ≤ 1125899906842624) :
    Calls Tryz.prog 40 #[.pointer (some ⟨d, 0, none⟩), .slice av m c] w fun e w' => PsPost base w d lim (L ++ bitsL bs) o r e w' := by
  cases r with
  | fail er out => exact push_fail bs _ h
  | stop s l =>
    by_cases h11 : s.now = 11
    · exact push_end h h11 bs av m c hm hb hc hrow hbase hL
    · have : s.now ≤ 10 := by obtain ⟨_, _, _, _, hi⟩ := h.stand; have := hi.now; omega
      exact push_live h this bs av m c hm hb hc hrow hbase h1 hord hlim hL
end
end Go.Proofs.YtloagniacjfkfaaGreatDoor
