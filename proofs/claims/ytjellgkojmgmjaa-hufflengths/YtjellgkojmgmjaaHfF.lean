/- A code as New makes it. -/
import Derived.Test.YtjellgkojmgmjaaHfE
import Derived.Deep.RegionLaw
namespace Go.Proofs.Ytjellgkojmgmjaa
open Go.RowKit

def wdP (ns : List Nat) (l b s : Nat) : Bool := decide (hn ns s = l ∧ hn ns s ≠ 0 ∧ hv ns s = b)
def wdF (ns : List Nat) (i l b : Nat) : Option Int := ((List.range i).find? (wdP ns l b)).map fun s => (s : Int)
theorem wdF_zero (ns : List Nat) (l b : Nat) : wdF ns 0 l b = none := rfl
theorem wdF_skip (ns : List Nat) (i l b : Nat) (h : hn ns i = 0) : wdF ns i l b = wdF ns (i + 1) l b := by
  unfold wdF
  rw [List.range_succ, List.find?_append]
  have : [i].find? (wdP ns l b) = none := by simp [wdP, h]
  rw [this, Option.or_none]
theorem wdF_at {ns : List Nat} (hc : Cd ns) {i : Nat} {s : Nat} (hs : s < i) (h : hn ns s ≠ 0) : wdF ns i (hn ns s) (hv ns s) = some (s : Int) := by
  unfold wdF
  cases hx : (List.range i).find? (wdP ns (hn ns s) (hv ns s)) with
  | none =>
    have := List.find?_eq_none.1 hx s (by simpa using hs)
    simp [wdP, h] at this
  | some t =>
    have := List.find?_some hx
    simp only [wdP, decide_eq_true_eq] at this
    have := hc.inj this.2.1 h this.1 this.2.2
    rw [this]; rfl
theorem wdF_none {ns : List Nat} {i l b : Nat} (h : ∀ s, s < i → hn ns s ≠ 0 → hn ns s = l → hv ns s ≠ b) : wdF ns i l b = none := by
  unfold wdF
  have : (List.range i).find? (wdP ns l b) = none := by
    rw [List.find?_eq_none]
    intro s hs
    simp only [wdP, decide_eq_true_eq]
    rintro ⟨h1, h2, h3⟩
    exact h s (by simpa using hs) h2 h1 h3
  rw [this]; rfl
theorem wdF_put {ns : List Nat} (hc : Cd ns) (i l b : Nat) (h : hn ns i ≠ 0) : (if l = hn ns i ∧ b = hv ns i then some (i : Int) else wdF ns i l b) = wdF ns (i + 1) l b := by
  by_cases e : l = hn ns i ∧ b = hv ns i
  · obtain ⟨rfl, rfl⟩ := e
    rw [if_pos ⟨rfl, rfl⟩, wdF_at hc (by omega) h]
  · rw [if_neg e]
    unfold wdF
    rw [List.range_succ, List.find?_append]
    have : [i].find? (wdP ns l b) = none := by
      simp only [List.find?_cons, List.find?_nil]
      have : wdP ns l b i = false := by
        simp only [wdP, decide_eq_false_iff_not]
        rintro ⟨h1, _, h3⟩
        exact e ⟨h1.symm, h3.symm⟩
      rw [this]
    rw [this, Option.or_none]

theorem kraft_zero {ls : List Int} (h : wordsN ls = 0) : sharesN ls = 0 := by
  induction ls with
  | nil => rfl
  | cons x r ih =>
    unfold wordsN at h ih
    rw [List.countP_cons] at h
    have h1 : ¬ 0 < x := by
      intro hx
      simp [hx] at h
    have h2 := ih (by omega)
    unfold sharesN kraft at h2 ⊢
    simp only [List.map_cons, List.sum_cons]
    rw [h2, show x.toNat = 0 by omega]
    rfl
theorem whole_cd {ls : List Int} (h1 : okLens ls = true) (h2 : wholeB ls = true) : Cd (ls.map Int.toNat) := by
  refine ⟨by rw [List.length_map]; exact okLens_few h1, fun s => ?_, ?_⟩
  · have := okLens_at h1 s
    unfold hn
    rw [toNat_at]
    omega
  · show sharesN ls ≤ 32768
    unfold wholeB at h2
    by_cases e0 : wordsN ls = 0
    · rw [kraft_zero e0]; omega
    · rw [if_neg e0] at h2
      by_cases e1 : wordsN ls = 1
      · rw [if_pos e1] at h2; simp at h2; omega
      · rw [if_neg e1] at h2; simp at h2; omega

def fin (ns : List Nat) (s : Nat) : Nat × Nat := (hn ns s, hv ns s)
/-- A code at block c. -/
def CodeAt (w : World) (c : Nat) (ns : List Nat) : Prop :=
  ∃ bw bs B n1 n2, w.heap[c]? = some (.cells #[.map (some bw), .map (some bs), .slice (some ⟨B, 0, none⟩) ns.length ns.length] 66 (0, 0)) ∧ MapF w bw n1 (wdF ns ns.length) ∧ MapF w bs n2 (stF (fin ns) ns.length) ∧ WRow w B ns.length (fin ns)
theorem CodeAt.old {w w' : World} {c : Nat} {ns : List Nat} (h : CodeAt w c ns) (hb : Below w.heap.size w w') : CodeAt w' c ns := by
  obtain ⟨bw, bs, B, n1, n2, h1, h2, h3, h4⟩ := h
  exact ⟨bw, bs, B, n1, n2, (hb.block _ (lt_of_block h1)).trans h1, h2.same (hb.block _ h2.lt), h3.same (hb.block _ h3.lt), h4.same (hb.block _ h4.lt)⟩
theorem CodeAt.lt {w : World} {c : Nat} {ns : List Nat} (h : CodeAt w c ns) : c < w.heap.size := by
  obtain ⟨bw, bs, B, n1, n2, h1, _⟩ := h; exact lt_of_block h1
def NewPost (w : World) (ns : List Nat) (e : Ending) (w' : World) : Prop :=
  ∃ c, e = .returned (.tuple #[.pointer (some ⟨c, 0, none⟩), .int .i64 0]) ∧ w.heap.size ≤ c ∧ CodeAt w' c ns ∧ Below w.heap.size w w'
theorem three_cells {w : World} {c : Nat} {v0 v1 v2 : Value} {t : TypeId} (h : w.heap[c]? = some (.cells #[v0, v1, v2] t (0, 0))) :
    w.cell? ⟨c, 0, none⟩ = some v0 ∧ w.cell? ⟨c, 1, none⟩ = some v1 ∧ w.cell? ⟨c, 2, none⟩ = some v2 ∧ w.frozen? ⟨c, 1, none⟩ = false := by
  simp [World.cell?, World.frozen?, h]
theorem three_set1 {w : World} {c : Nat} {v0 v1 v2 u : Value} {t : TypeId} (h : w.heap[c]? = some (.cells #[v0, v1, v2] t (0, 0))) : (w.setCell ⟨c, 1, none⟩ u).heap[c]? = some (.cells #[v0, u, v2] t (0, 0)) := by
  simp [World.setCell, Array.getElem?_modify, h]

def NwRel (w : World) (c bw B : Nat) (ns : List Nat) (i : Nat) (wr : World) : Prop :=
  wr.heap[c]? = some (.cells #[.map (some bw), .map none, .slice (some ⟨B, 0, none⟩) ns.length ns.length] 66 (0, 0)) ∧ MapF wr bw i (wdF ns i) ∧ WRow wr B ns.length (fin ns) ∧ Below w.heap.size w wr

set_option maxHeartbeats 400000 in
theorem new_arg (a : Option Addr) (len cap : Nat) (ls : List Int) (w : World) (hn : ls.length = len) (hl : len ≤ 140737488355328) (hr : IRow w a ls) (hk : okLens ls = false) :
    Calls Try.prog 10 #[.slice a len cap] w fun e w' => e = .returned (.tuple #[.pointer none, .int .i64 1]) ∧ w' = w := by
  have C := allowed_any a len cap ls w hn hl hr
  rw [hk] at C
  clear hn hr hk
  go_enter Try.func10, Try.ntmps10
  go_wp2_with (go_at_call 26; refine C.mono ?_; rintro e w' ⟨rfl, rfl⟩)
  go_ret2
  exact ⟨rfl, rfl⟩
set_option maxHeartbeats 400000 in
theorem new_code (a : Option Addr) (len cap : Nat) (ls : List Int) (w : World) (hn : ls.length = len) (hl : len ≤ 140737488355328) (hr : IRow w a ls) (hk : okLens ls = true) (hw : wholeB ls = false) :
    Calls Try.prog 10 #[.slice a len cap] w fun e w' => e = .returned (.tuple #[.pointer none, .int .i64 5]) ∧ w' = w := by
  have C := allowed_any a len cap ls w hn hl hr
  have C2 := whole_any a len cap ls w hn hk hr
  rw [hk] at C
  rw [hw] at C2
  clear hn hr hk hw
  go_enter Try.func10, Try.ntmps10
  go_wp2_with (first | (go_at_call 26; refine C.mono ?_; rintro e w' ⟨rfl, rfl⟩) | (go_at_call 27; refine C2.mono ?_; rintro e w' ⟨rfl, rfl⟩))
  go_ret2
  exact ⟨rfl, rfl⟩
set_option maxHeartbeats 1600000 in
set_option maxRecDepth 20000 in
theorem new_yes (a : Option Addr) (len cap : Nat) (ls : List Int) (w : World) (hn' : ls.length = len) (hl : len ≤ 140737488355328) (hr : IRow w a ls) (hk : okLens ls = true) (hw : wholeB ls = true) :
    Calls Try.prog 10 #[.slice a len cap] w fun e w' => NewPost w (ls.map Int.toNat) e w' := by
  have C := allowed_any a len cap ls w hn' hl hr
  have C2 := whole_any a len cap ls w hn' hk hr
  have hcd := whole_cd hk hw
  rw [hk] at C
  rw [hw] at C2
  have HE : Hid (ints (ls.map Int.toNat) = ls) := ints_toNat hk
  have HN : Hid ((ls.map Int.toNat).length = len) := by show _ = _; rw [List.length_map]; exact hn'
  have HR : Hid (IRow w a (ints (ls.map Int.toNat))) := by rw [HE.out]; exact hr
  have HC : Hid (Cd (ls.map Int.toNat)) := hcd
  have hmm := Try.mkmap
  generalize ls.map Int.toNat = ns at HE HN HR HC ⊢
  clear hn' hr hk hw hcd
  go_enter Try.func10, Try.ntmps10
  go_wp2_with (first | (go_at_call 26; refine C.mono ?_; rintro e w ⟨rfl, rfl⟩) | (go_at_call 27; refine C2.mono ?_; rintro e w ⟨rfl, rfl⟩))
  have HWW : Hid (∀ W, Below w.heap.size w W → Calls Try.prog 28 #[.slice a len cap] W fun e w' => e = .returned (.int .i64 (wordsN (ints ns))) ∧ w' = W) := fun W hb => withWord_any a len cap (ints ns) W (by rw [ints_len]; exact HN.out) hl (HR.out.old hb)
  have HSP : Hid (∀ W, Below w.heap.size w W → Calls Try.prog 29 #[.slice a len cap] W fun e w' => SpPost W len ns e w') := fun W hb => spell_any a len cap ns W HN.out HC.out (HR.out.old hb)
  have hlen : len ≤ 288 := by have := HC.out.few; rw [HN.out] at this; exact this
  obtain ⟨S0, hS0⟩ : ∃ S0, w.heap.size = S0 := ⟨_, rfl⟩
  have HS0 : Hid (w.heap.size = S0) := hS0
  clear hS0 C C2
  have hb0 : Below w.heap.size w w.drew := ⟨rfl, rfl, rfl, Nat.le_refl _, fun _ _ => rfl⟩
  have hb1 : Below w.heap.size w (w.drew.alloc (.map #[] 0)) := ⟨rfl, rfl, rfl, by simp, fun k hk => ((Below.refl w.drew.heap.size w.drew).alloc (Nat.le_refl _) (.map #[] 0)).block k hk⟩
  go_region_law (first
    | (go_simp; go_at_call 28; refine Calls.mono (HWW.out _ ?_) ?_; (first | exact hb0 | exact hb1 | exact hbs | assumption); rintro e w' ⟨rfl, rfl⟩)
    | (go_simp; go_at_call 29; refine Calls.mono (HSP.out _ ?_) ?_; (first | exact hb0 | exact hb1 | assumption); rintro e w2 ⟨B, rfl, hB, hrow, hb2⟩; have hbs : Below w.heap.size w w2 := by first | exact hb0.trans (hb2.mono (Nat.le_refl _)) | exact hb1.trans (hb2.mono hb1.size))
    | fail)
  · have hr2 : WRow w2 B len (fin ns) := hrow
    have HBB : Hid (Below w.heap.size w w2) := hbs
    have HW2 : Hid (WRow w2 B len (fin ns)) := hr2
    have hm2 : MapF w2 w.heap.size 0 fun _ _ => none := (MapF.same (w := w.alloc (.map #[] 0)) (MapF.made w) (hb2.block _ (by simp)))
    have hB2 : w.heap.size < B := by simp at hB; omega
    have hb3 : B < w2.heap.size := hr2.lt
    obtain ⟨w3, hw3⟩ : ∃ w3, w2 = w3 := ⟨_, rfl⟩
    subst hw3
    have HM2 : Hid (MapF w2 w.heap.size 0 fun _ _ => none) := hm2
    have HCC : Hid (w2.heap.size = w2.heap.size) := rfl
    clear hrow hr2 hb2 hbs hB hm2 hmm hb0 hb1 HWW HSP
    go_wp2
    obtain ⟨bw, hbw⟩ : ∃ bw, w.heap.size = bw := ⟨_, rfl⟩
    have HBW : Hid (w.heap.size ≤ bw) := Nat.le_of_eq hbw
    rw [hbw] at hB2 HM2 ⊢
    generalize hc : w2.heap.size = c at hb3 HCC ⊢
    have HCC : Hid (w2.heap.size = c) := hc
    clear hbw hc
    have hbc : bw < c := by omega
    obtain ⟨w3, hw3⟩ : ∃ w3, w2 = w3 := ⟨_, rfl⟩
    rw [hw3] at HCC HM2 HW2 HBB ⊢
    clear hw3
    have HS : Hid (NwRel w c bw B ns 0 (w3.alloc (.cells #[.map (some bw), .map none, .slice (some ⟨B, 0, none⟩) len len] 66))) := by
      have h1 : Below w3.heap.size w3 (w3.alloc (.cells #[.map (some bw), .map none, .slice (some ⟨B, 0, none⟩) len len] 66)) := (Below.refl _ _).alloc (Nat.le_refl _) _
      refine ⟨?_, (HM2.out.same (h1.block _ HM2.out.lt)).congr fun l b => (wdF_zero ns l b).symm, ?_, HBB.out.alloc HBB.out.size _⟩
      · rw [HN.out, ← HCC.out]; exact heap_alloc_new _ _
      · rw [HN.out]; exact HW2.out.same (h1.block _ HW2.out.lt)
    clear HBB HW2 HM2 HCC
    go_loopw [25] (fun i wr => ∃ t : Nat, t ≤ len ∧ i = .int .i64 t ∧ NwRel w c bw B ns t wr) (fun i _ => len - (intOf i).toNat)
    case atStart => exact ⟨0, Nat.zero_le _, rfl, HS.out⟩
    case round =>
      clear HS
      obtain ⟨t, ht, rfl, hcode, hmap, hrow, hbel⟩ := hrel
      rw [HN.out] at hcode hrow
      obtain ⟨p0, p1, p2, g1⟩ := three_cells hcode
      by_cases hlt : t < len
      · obtain ⟨c0, c1⟩ := hrow.cell t hlt
        have h15 : (fin ns t).1 ≤ 15 := HC.out.le t
        have hvs : (fin ns t).2 < 65536 := by
          have h1 := HC.out.lt t
          have h2 : (2 : Nat) ^ hn ns t ≤ 2 ^ 15 := Nat.pow_le_pow_right (by omega) (HC.out.le t)
          show hv ns t < 65536
          omega
        have HK : Hid (NwRel w c bw B ns t wr) := by refine ⟨?_, hmap, ?_, hbel⟩ <;> rw [HN.out] <;> assumption
        have HFN : Hid ((fin ns t).1 = hn ns t ∧ (fin ns t).2 = hv ns t) := ⟨rfl, rfl⟩
        have hcw : c < wr.heap.size := lt_of_block hcode
        have hbwr : bw < wr.heap.size := hmap.lt
        have hBwr : B < wr.heap.size := hrow.lt
        clear hcode hmap hrow hbel
        generalize (fin ns t).1 = L at *
        generalize (fin ns t).2 = X at *
        by_cases hz : L = 0
        · subst hz
          have R : Hid (NwRel w c bw B ns (t + 1) (wr.alloc (.cells #[.int .u16 0, .int .u16 X] 68))) := by
            obtain ⟨r1, r2, r3, r4⟩ := HK.out
            have h1 : Below wr.heap.size wr (wr.alloc (.cells #[.int .u16 0, .int .u16 X] 68)) := (Below.refl _ _).alloc (Nat.le_refl _) _
            exact ⟨(h1.block _ hcw).trans r1, ((r2.same (h1.block _ hbwr)).mono (by omega)).congr fun l b => wdF_skip ns t l b HFN.out.1.symm, r3.same (h1.block _ hBwr), r4.alloc r4.size _⟩
          go_wp2
          go_roundw
          case rel => exact ⟨t + 1, by omega, by go_num, R.out⟩
          case measure => simp [intOf]; omega
        · have hLp : (0 : Int) < (L : Int) := by omega
          have hm1 : MapF (wr.alloc (.cells #[.int .u16 L, .int .u16 X] 68)).drew bw t (wdF ns t) := by
            obtain ⟨r1, r2, r3, r4⟩ := HK.out
            have h1 : Below wr.heap.size wr (wr.alloc (.cells #[.int .u16 L, .int .u16 X] 68)) := (Below.refl _ _).alloc (Nat.le_refl _) _
            exact r2.same (h1.block _ hbwr)
          obtain ⟨w6, hput, hmap6, hg6⟩ := hm1.put (by unfold maxLen; omega) L X (by omega) hvs t (wf64 (by omega) (by omega))
          have R : Hid (NwRel w c bw B ns (t + 1) w6) := by
            obtain ⟨r1, r2, r3, r4⟩ := HK.out
            have h1 : Below wr.heap.size wr (wr.alloc (.cells #[.int .u16 L, .int .u16 X] 68)).drew := ⟨rfl, rfl, rfl, by simp, fun k hk => ((Below.refl _ _).alloc (Nat.le_refl _) _ : Below wr.heap.size wr (wr.alloc (.cells #[.int .u16 L, .int .u16 X] 68))).block k hk⟩
            have hs : wr.heap.size ≤ (wr.alloc (.cells #[.int .u16 L, .int .u16 X] 68)).drew.heap.size := by simp
            refine ⟨(hg6.block _ (by omega) (by simp; omega)).trans ((h1.block _ hcw).trans r1), hmap6.congr fun l b => ?_, r3.same ((hg6.block _ (by omega) (by simp; omega)).trans (h1.block _ hBwr)), ?_⟩
            · rw [HFN.out.1, HFN.out.2]; exact wdF_put HC.out t l b (by rw [← HFN.out.1]; exact hz)
            · have h2 := r4.trans (h1.mono r4.size)
              exact Fr.below h2 (Fr.grown (r := bw) hg6) HBW.out (by intro q hq; cases hq; exact HBW.out) h2.size
          clear hm1 hmap6 hg6 HK HFN
          go_wp2
          refine wp_region_still_tail 6 (by kernel_rfl) (by kernel_rfl) ?_
          simp only [List.take_succ_cons, List.take_zero, List.drop_succ_cons, List.drop_zero]
          rw [show ({ (wr.alloc (.cells #[.int .u16 L, .int .u16 X] 68)) with drawn := (wr.alloc (.cells #[.int .u16 L, .int .u16 X] 68)).drawn + 1 } : World) = (wr.alloc (.cells #[.int .u16 L, .int .u16 X] 68)).drew from rfl]
          repeat still_step
          refine wpStill_nil ?_
          go_wp2
          go_roundw
          case rel => exact ⟨t + 1, by omega, by go_num, R.out⟩
          case measure => simp [intOf]; omega
      · obtain rfl : t = len := by omega
        have HW4 : Hid (WRow wr B t (fin ns)) := hrow
        have HM4 : Hid (MapF wr bw t (wdF ns ns.length)) := by rw [HN.out]; exact hmap
        have HB4 : Hid (Below w.heap.size w wr) := hbel
        have HC4 : Hid (wr.heap[c]? = some (.cells #[.map (some bw), .map none, .slice (some ⟨B, 0, none⟩) t t] 66 (0, 0))) := hcode
        clear hcode hmap hrow hbel
        go_wp2_with fail
        refine (beginnings_any B t t (fin ns) _ hlen HW4.out (fun s => ⟨HC.out.le s, by
          have h1 := HC.out.lt s
          have h2 : (2 : Nat) ^ hn ns s ≤ 2 ^ 15 := Nat.pow_le_pow_right (by omega) (HC.out.le s)
          show hv ns s < 65536
          omega⟩)).mono ?_
        rintro e w5 ⟨bs, n5, rfl, hbs, hn5, hmap5, hb5⟩
        have hcw : c < wr.heap.size := lt_of_block HC4.out
        have hcode5 : w5.heap[c]? = some (.cells #[.map (some bw), .map none, .slice (some ⟨B, 0, none⟩) t t] 66 (0, 0)) := (hb5.block _ hcw).trans HC4.out
        obtain ⟨r0, r1, r2, e1⟩ := three_cells hcode5
        have R : Hid (CodeAt (w5.setCell ⟨c, 1, none⟩ (.map (some bs))) c ns) := by
          have k1 : MapF (w5.setCell ⟨c, 1, none⟩ (.map (some bs))) bw t (wdF ns ns.length) := HM4.out.same (by rw [Below.heap_setCell _ _ _ _ (by simp; omega), hb5.block _ HM4.out.lt])
          have k2 : MapF (w5.setCell ⟨c, 1, none⟩ (.map (some bs))) bs n5 (stF (fin ns) t) := hmap5.same (by rw [Below.heap_setCell _ _ _ _ (by simp; omega)])
          have k3 : WRow (w5.setCell ⟨c, 1, none⟩ (.map (some bs))) B t (fin ns) := HW4.out.same (by rw [Below.heap_setCell _ _ _ _ (by simp; omega), hb5.block _ HW4.out.lt])
          refine ⟨bw, bs, B, _, _, ?_, k1, (by rw [HN.out]; exact k2), (by rw [HN.out]; exact k3)⟩
          rw [HN.out]; exact three_set1 hcode5
        have RB : Hid (Below w.heap.size w (w5.setCell ⟨c, 1, none⟩ (.map (some bs)))) := by
          have h1 := HB4.out.trans (hb5.mono HB4.out.size)
          exact Fr.below h1 (Fr.set c 1 _ none) (Nat.le_trans HBW.out (Nat.le_of_lt hbc)) (by intro q hq; cases hq) h1.size
        clear hmap5 hb5 hcode5 HW4 HM4 HB4 HC4 p0 p1 p2 g1
        go_wp2
        go_ret2
        exact ⟨c, rfl, Nat.le_trans HBW.out (Nat.le_of_lt hbc), R.out, RB.out⟩
  · have hr2 : WRow w2 B len (fin ns) := hrow
    have hb5 : Below w2.heap.size w2 (w2.alloc (.map #[] 0)) := (Below.refl _ _).alloc (Nat.le_refl _) _
    have HBB : Hid (Below w.heap.size w (w2.alloc (.map #[] 0))) := hbs.trans (hb5.mono hbs.size)
    have HW2 : Hid (WRow (w2.alloc (.map #[] 0)) B len (fin ns)) := hr2.same (hb5.block _ hr2.lt)
    have HM2 : Hid (MapF (w2.alloc (.map #[] 0)) w2.heap.size 0 fun _ _ => none) := MapF.made w2
    have hb3 : B < w2.heap.size := hr2.lt
    have hB2 : w.heap.size ≤ B := hB
    have HCC : Hid ((w2.alloc (.map #[] 0)).heap.size = w2.heap.size + 1) := by show _ = _; simp
    clear hrow hr2 hb2 hbs hB hmm hb0 hb1 HWW HSP hb5
    go_wp2
    generalize w2.alloc (.map #[] 0) = w3 at HBB HW2 HM2 HCC ⊢
    obtain ⟨c, hc⟩ : ∃ c, w2.heap.size + 1 = c := ⟨_, rfl⟩
    rw [hc] at HCC ⊢
    obtain ⟨bw, hbw⟩ : ∃ bw, w2.heap.size = bw := ⟨_, rfl⟩
    rw [hbw] at HM2 hb3 hc ⊢
    have hbc : bw < c := by omega
    have HBW : Hid (w.heap.size ≤ bw) := by show _ ≤ _; omega
    clear hbw hc
    have HS : Hid (NwRel w c bw B ns 0 (w3.alloc (.cells #[.map (some bw), .map none, .slice (some ⟨B, 0, none⟩) len len] 66))) := by
      have h1 : Below w3.heap.size w3 (w3.alloc (.cells #[.map (some bw), .map none, .slice (some ⟨B, 0, none⟩) len len] 66)) := (Below.refl _ _).alloc (Nat.le_refl _) _
      refine ⟨?_, (HM2.out.same (h1.block _ HM2.out.lt)).congr fun l b => (wdF_zero ns l b).symm, ?_, HBB.out.alloc HBB.out.size _⟩
      · rw [HN.out, ← HCC.out]; exact heap_alloc_new _ _
      · rw [HN.out]; exact HW2.out.same (h1.block _ HW2.out.lt)
    clear HBB HW2 HM2 HCC
    go_loopw [25] (fun i wr => ∃ t : Nat, t ≤ len ∧ i = .int .i64 t ∧ NwRel w c bw B ns t wr) (fun i _ => len - (intOf i).toNat)
    case atStart => exact ⟨0, Nat.zero_le _, rfl, HS.out⟩
    case round =>
      clear HS
      obtain ⟨t, ht, rfl, hcode, hmap, hrow, hbel⟩ := hrel
      rw [HN.out] at hcode hrow
      obtain ⟨p0, p1, p2, g1⟩ := three_cells hcode
      by_cases hlt : t < len
      · obtain ⟨c0, c1⟩ := hrow.cell t hlt
        have h15 : (fin ns t).1 ≤ 15 := HC.out.le t
        have hvs : (fin ns t).2 < 65536 := by
          have h1 := HC.out.lt t
          have h2 : (2 : Nat) ^ hn ns t ≤ 2 ^ 15 := Nat.pow_le_pow_right (by omega) (HC.out.le t)
          show hv ns t < 65536
          omega
        have HK : Hid (NwRel w c bw B ns t wr) := by refine ⟨?_, hmap, ?_, hbel⟩ <;> rw [HN.out] <;> assumption
        have HFN : Hid ((fin ns t).1 = hn ns t ∧ (fin ns t).2 = hv ns t) := ⟨rfl, rfl⟩
        have hcw : c < wr.heap.size := lt_of_block hcode
        have hbwr : bw < wr.heap.size := hmap.lt
        have hBwr : B < wr.heap.size := hrow.lt
        clear hcode hmap hrow hbel
        generalize (fin ns t).1 = L at *
        generalize (fin ns t).2 = X at *
        by_cases hz : L = 0
        · subst hz
          have R : Hid (NwRel w c bw B ns (t + 1) (wr.alloc (.cells #[.int .u16 0, .int .u16 X] 68))) := by
            obtain ⟨r1, r2, r3, r4⟩ := HK.out
            have h1 : Below wr.heap.size wr (wr.alloc (.cells #[.int .u16 0, .int .u16 X] 68)) := (Below.refl _ _).alloc (Nat.le_refl _) _
            exact ⟨(h1.block _ hcw).trans r1, ((r2.same (h1.block _ hbwr)).mono (by omega)).congr fun l b => wdF_skip ns t l b HFN.out.1.symm, r3.same (h1.block _ hBwr), r4.alloc r4.size _⟩
          go_wp2
          go_roundw
          case rel => exact ⟨t + 1, by omega, by go_num, R.out⟩
          case measure => simp [intOf]; omega
        · have hLp : (0 : Int) < (L : Int) := by omega
          have hm1 : MapF (wr.alloc (.cells #[.int .u16 L, .int .u16 X] 68)).drew bw t (wdF ns t) := by
            obtain ⟨r1, r2, r3, r4⟩ := HK.out
            have h1 : Below wr.heap.size wr (wr.alloc (.cells #[.int .u16 L, .int .u16 X] 68)) := (Below.refl _ _).alloc (Nat.le_refl _) _
            exact r2.same (h1.block _ hbwr)
          obtain ⟨w6, hput, hmap6, hg6⟩ := hm1.put (by unfold maxLen; omega) L X (by omega) hvs t (wf64 (by omega) (by omega))
          have R : Hid (NwRel w c bw B ns (t + 1) w6) := by
            obtain ⟨r1, r2, r3, r4⟩ := HK.out
            have h1 : Below wr.heap.size wr (wr.alloc (.cells #[.int .u16 L, .int .u16 X] 68)).drew := ⟨rfl, rfl, rfl, by simp, fun k hk => ((Below.refl _ _).alloc (Nat.le_refl _) _ : Below wr.heap.size wr (wr.alloc (.cells #[.int .u16 L, .int .u16 X] 68))).block k hk⟩
            have hs : wr.heap.size ≤ (wr.alloc (.cells #[.int .u16 L, .int .u16 X] 68)).drew.heap.size := by simp
            refine ⟨(hg6.block _ (by omega) (by simp; omega)).trans ((h1.block _ hcw).trans r1), hmap6.congr fun l b => ?_, r3.same ((hg6.block _ (by omega) (by simp; omega)).trans (h1.block _ hBwr)), ?_⟩
            · rw [HFN.out.1, HFN.out.2]; exact wdF_put HC.out t l b (by rw [← HFN.out.1]; exact hz)
            · have h2 := r4.trans (h1.mono r4.size)
              exact Fr.below h2 (Fr.grown (r := bw) hg6) HBW.out (by intro q hq; cases hq; exact HBW.out) h2.size
          clear hm1 hmap6 hg6 HK HFN
          go_wp2
          refine wp_region_still_tail 6 (by kernel_rfl) (by kernel_rfl) ?_
          simp only [List.take_succ_cons, List.take_zero, List.drop_succ_cons, List.drop_zero]
          rw [show ({ (wr.alloc (.cells #[.int .u16 L, .int .u16 X] 68)) with drawn := (wr.alloc (.cells #[.int .u16 L, .int .u16 X] 68)).drawn + 1 } : World) = (wr.alloc (.cells #[.int .u16 L, .int .u16 X] 68)).drew from rfl]
          repeat still_step
          refine wpStill_nil ?_
          go_wp2
          go_roundw
          case rel => exact ⟨t + 1, by omega, by go_num, R.out⟩
          case measure => simp [intOf]; omega
      · obtain rfl : t = len := by omega
        have HW4 : Hid (WRow wr B t (fin ns)) := hrow
        have HM4 : Hid (MapF wr bw t (wdF ns ns.length)) := by rw [HN.out]; exact hmap
        have HB4 : Hid (Below w.heap.size w wr) := hbel
        have HC4 : Hid (wr.heap[c]? = some (.cells #[.map (some bw), .map none, .slice (some ⟨B, 0, none⟩) t t] 66 (0, 0))) := hcode
        clear hcode hmap hrow hbel
        go_wp2_with fail
        refine (beginnings_any B t t (fin ns) _ hlen HW4.out (fun s => ⟨HC.out.le s, by
          have h1 := HC.out.lt s
          have h2 : (2 : Nat) ^ hn ns s ≤ 2 ^ 15 := Nat.pow_le_pow_right (by omega) (HC.out.le s)
          show hv ns s < 65536
          omega⟩)).mono ?_
        rintro e w5 ⟨bs, n5, rfl, hbs, hn5, hmap5, hb5⟩
        have hcw : c < wr.heap.size := lt_of_block HC4.out
        have hcode5 : w5.heap[c]? = some (.cells #[.map (some bw), .map none, .slice (some ⟨B, 0, none⟩) t t] 66 (0, 0)) := (hb5.block _ hcw).trans HC4.out
        obtain ⟨r0, r1, r2, e1⟩ := three_cells hcode5
        have R : Hid (CodeAt (w5.setCell ⟨c, 1, none⟩ (.map (some bs))) c ns) := by
          have k1 : MapF (w5.setCell ⟨c, 1, none⟩ (.map (some bs))) bw t (wdF ns ns.length) := HM4.out.same (by rw [Below.heap_setCell _ _ _ _ (by simp; omega), hb5.block _ HM4.out.lt])
          have k2 : MapF (w5.setCell ⟨c, 1, none⟩ (.map (some bs))) bs n5 (stF (fin ns) t) := hmap5.same (by rw [Below.heap_setCell _ _ _ _ (by simp; omega)])
          have k3 : WRow (w5.setCell ⟨c, 1, none⟩ (.map (some bs))) B t (fin ns) := HW4.out.same (by rw [Below.heap_setCell _ _ _ _ (by simp; omega), hb5.block _ HW4.out.lt])
          refine ⟨bw, bs, B, _, _, ?_, k1, (by rw [HN.out]; exact k2), (by rw [HN.out]; exact k3)⟩
          rw [HN.out]; exact three_set1 hcode5
        have RB : Hid (Below w.heap.size w (w5.setCell ⟨c, 1, none⟩ (.map (some bs)))) := by
          have h1 := HB4.out.trans (hb5.mono HB4.out.size)
          exact Fr.below h1 (Fr.set c 1 _ none) (Nat.le_trans HBW.out (Nat.le_of_lt hbc)) (by intro q hq; cases hq) h1.size
        clear hmap5 hb5 hcode5 HW4 HM4 HB4 HC4 p0 p1 p2 g1
        go_wp2
        go_ret2
        exact ⟨c, rfl, Nat.le_trans HBW.out (Nat.le_of_lt hbc), R.out, RB.out⟩
end Go.Proofs.Ytjellgkojmgmjaa
