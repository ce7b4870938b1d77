/- Joined: HfE HfF HfG. -/
import Derived.Test.YtloagniacjfkfaaGreatDoorQB
import Derived.Deep.LoopGhost
import Derived.Deep.RegionLaw
import Derived.Shelf.SlSortCmp.QuietGrown
/- The true beginnings of words. -/
namespace Go.Proofs.YtloagniacjfkfaaGreatDoor
open Go.RowKit

def stB (f : Nat → Nat × Nat) (t l b : Nat) : Bool := (List.range t).any fun s => decide (1 ≤ l ∧ l < (f s).1 ∧ (f s).2 / 2 ^ ((f s).1 - l) = b)
theorem stB_iff (f : Nat → Nat × Nat) (t l b : Nat) : stB f t l b = true ↔ ∃ s, s < t ∧ 1 ≤ l ∧ l < (f s).1 ∧ (f s).2 / 2 ^ ((f s).1 - l) = b := by
  simp [stB, List.any_eq_true]
def stF (f : Nat → Nat × Nat) (t l b : Nat) : Option Int := if stB f t l b then some (l : Int) else none
def midB (f : Nat → Nat × Nat) (t p l b : Nat) : Bool := stB f t l b || decide (1 ≤ l ∧ p ≤ l ∧ l < (f t).1 ∧ (f t).2 / 2 ^ ((f t).1 - l) = b)
theorem midB_iff (f : Nat → Nat × Nat) (t p l b : Nat) : midB f t p l b = true ↔ (stB f t l b = true ∨ (1 ≤ l ∧ p ≤ l ∧ l < (f t).1 ∧ (f t).2 / 2 ^ ((f t).1 - l) = b)) := by
  simp [midB]
def midF (f : Nat → Nat × Nat) (t p l b : Nat) : Option Int := if midB f t p l b then some (l : Int) else none
theorem div_div_pow (v a b : Nat) : v / 2 ^ a / 2 ^ b = v / 2 ^ (a + b) := by rw [Nat.div_div_eq_div_mul, Nat.pow_add]
theorem stB_shorter {f : Nat → Nat × Nat} {t l b l' : Nat} (h : stB f t l b = true) (h1 : 1 ≤ l') (h2 : l' ≤ l) : stB f t l' (b / 2 ^ (l - l')) = true := by
  obtain ⟨s, hs, q1, q2, rfl⟩ := (stB_iff f t l b).1 h
  exact (stB_iff _ _ _ _).2 ⟨s, hs, h1, by omega, by rw [div_div_pow]; congr 2; omega⟩
theorem bool_eq {a b : Bool} (h : a = true ↔ b = true) : a = b := by cases a <;> cases b <;> simp_all
theorem midF_start (f : Nat → Nat × Nat) (t l b : Nat) : stF f t l b = midF f t (f t).1 l b := by
  unfold stF midF
  rw [bool_eq (a := stB f t l b) (b := midB f t (f t).1 l b) (by rw [midB_iff]; constructor; exact .inl; rintro (h | h); exact h; omega)]
theorem midB_next (f : Nat → Nat × Nat) (t l b : Nat) : midB f (t) 0 l b = stB f (t + 1) l b := by
  refine bool_eq ?_
  rw [midB_iff, stB_iff, stB_iff]
  constructor
  · rintro (⟨s, hs, r⟩ | ⟨h1, _, h2⟩)
    · exact ⟨s, by omega, r⟩
    · exact ⟨t, by omega, h1, h2⟩
  · rintro ⟨s, hs, h1, h2⟩
    by_cases e : s < t
    · exact .inl ⟨s, e, h1, h2⟩
    · obtain rfl : s = t := by omega
      exact .inr ⟨h1, by omega, h2⟩
theorem midF_end (f : Nat → Nat × Nat) (t p l b : Nat) (hp : p ≤ 1) : midF f t p l b = stF f (t + 1) l b := by
  unfold midF stF
  rw [← midB_next, bool_eq (a := midB f t p l b) (b := midB f t 0 l b)]
  rw [midB_iff, midB_iff]
  constructor
  · rintro (h | h)
    · exact .inl h
    · exact .inr (by omega)
  · rintro (h | h)
    · exact .inl h
    · exact .inr (by omega)
/-- One more is known. -/
theorem midF_put (f : Nat → Nat × Nat) (t p l b : Nat) (hp : 1 ≤ p) (hn : p < (f t).1) : (if l = p ∧ b = (f t).2 / 2 ^ ((f t).1 - p) then some ((p : Nat) : Int) else midF f t (p + 1) l b) = midF f t p l b := by
  by_cases e : l = p ∧ b = (f t).2 / 2 ^ ((f t).1 - p)
  · obtain ⟨rfl, rfl⟩ := e
    rw [if_pos ⟨rfl, rfl⟩]
    unfold midF
    rw [if_pos ((midB_iff _ _ _ _ _).2 (.inr ⟨hp, Nat.le_refl _, hn, rfl⟩))]
  · rw [if_neg e]
    unfold midF
    rw [bool_eq (a := midB f t (p + 1) l b) (b := midB f t p l b)]
    rw [midB_iff, midB_iff]
    constructor
    · rintro (h | h)
      · exact .inl h
      · exact .inr (by omega)
    · rintro (h | ⟨h1, h2, h3, h4⟩)
      · exact .inl h
      · refine .inr ⟨h1, ?_, h3, h4⟩
        by_cases e2 : l = p
        · subst e2; exact absurd ⟨rfl, h4.symm⟩ e
        · omega
/-- One that is known already: so are all shorter ones. -/
theorem midF_known (f : Nat → Nat × Nat) (t p l b : Nat) (h : midB f t (p + 1) p ((f t).2 / 2 ^ ((f t).1 - p)) = true) (hn : p < (f t).1) : midF f t (p + 1) l b = stF f (t + 1) l b := by
  have hs : stB f t p ((f t).2 / 2 ^ ((f t).1 - p)) = true := by
    rcases (midB_iff _ _ _ _ _).1 h with h | h
    · exact h
    · omega
  unfold midF stF
  rw [← midB_next, bool_eq (a := midB f t (p + 1) l b) (b := midB f t 0 l b)]
  rw [midB_iff, midB_iff]
  constructor
  · rintro (h | h)
    · exact .inl h
    · exact .inr (by omega)
  · rintro (h | ⟨h1, _, h3, h4⟩)
    · exact .inl h
    · by_cases e : p + 1 ≤ l
      · exact .inr ⟨h1, e, h3, h4⟩
      · refine .inl ?_
        have := stB_shorter hs h1 (by omega : l ≤ p)
        rw [div_div_pow] at this
        rw [← h4]
        rw [show (f t).1 - l = (f t).1 - p + (p - l) by omega]
        exact this

theorem less_p (p b : Nat) (w : World) (hl2 : p < 15) :
    Calls Tryz.prog 152 #[.agg #[.int .u16 ((p : Int) + 1), .int .u16 b]] w fun e w' => e = .returned (.agg #[.int .u16 p, .int .u16 ((b / 2 : Nat) : Int)]) ∧ Below w.heap.size w w' := by
  have := less_any (p + 1) b w (by omega) (by omega)
  have e1 : (((p + 1 : Nat) : Int) - 1) = (p : Int) := by omega
  have e2 : ((b / 2 : Nat) : Int) = (b : Int) / 2 := by omega
  rw [e1, ← e2] at this
  exact this

def BgPost (w : World) (len : Nat) (f : Nat → Nat × Nat) (e : Ending) (w' : World) : Prop :=
  ∃ m n, e = .returned (.map (some m)) ∧ w.heap.size ≤ m ∧ n ≤ len * 16 ∧ MapF w' m n (stF f len) ∧ Below w.heap.size w w'
def BgRel (w : World) (B m len : Nat) (f : Nat → Nat × Nat) (t : Nat) (wr : World) : Prop :=
  WRow wr B len f ∧ MapF wr m (t * 16) (stF f t) ∧ Below w.heap.size w wr
def BgMid (w : World) (B m W len : Nat) (f : Nat → Nat × Nat) (t p : Nat) (wr : World) : Prop :=
  WRow wr B len f ∧ MapF wr m (t * 16 + ((f t).1 - p)) (midF f t p) ∧ Below w.heap.size w wr ∧ W < wr.heap.size ∧ wr.heap[W]? = some (.cells #[.int .u16 p, .int .u16 ((f t).2 / 2 ^ ((f t).1 - p) : Nat)] 172 (0, 0))

set_option maxHeartbeats 1600000 in
set_option maxRecDepth 10000 in
theorem beginnings_any (B len cap : Nat) (f : Nat → Nat × Nat) (w : World) (hl : len ≤ 288) (hr : WRow w B len f) (hf : ∀ s, (f s).1 ≤ 15 ∧ (f s).2 < 65536) :
    Calls Tryz.prog 140 #[.slice (some ⟨B, 0, none⟩) len cap] w fun e w' => BgPost w len f e w' := by
  have HF : Hid (∀ s, (f s).1 ≤ 15 ∧ (f s).2 < 65536) := hf
  have hBw := hr.lt
  have HS : Hid (BgRel w B w.heap.size len f 0 (w.alloc (.map #[] 0))) :=
    ⟨hr.same (((Below.refl w.heap.size w).alloc (Nat.le_refl _) _).block _ hr.lt), (MapF.made w).congr fun _ _ => rfl, (Below.refl _ _).alloc (Nat.le_refl _) _⟩
  clear hr hf
  have hmm := Tryz.mkmap
  go_enter Tryz.func140, Tryz.ntmps140
  go_wp2
  go_step3
  go_wp2
  go_step3
  go_wp2
  generalize hm : w.heap.size = m at HS hBw ⊢
  have HM : Hid (w.heap.size = m) := hm
  clear hm hmm
  have hmB : ¬ m = B := by omega
  have hBm : ¬ B = m := by omega
  go_loopw [13] (fun i wr => ∃ t : Nat, t ≤ len ∧ i = .int .i64 t ∧ BgRel w B m len f t wr) (fun i _ => len - (intOf i).toNat)
  case atStart => exact ⟨0, Nat.zero_le _, rfl, HS.out⟩
  case round =>
    clear HS
    obtain ⟨t, ht, rfl, hrow, hmap, hbel⟩ := hrel
    by_cases hlt : t < len
    · obtain ⟨c0, c1⟩ := hrow.cell t hlt
      have hf1 := (HF.out t).1
      have hf2 := (HF.out t).2
      have HMID : Hid (BgMid w B m wr.heap.size len f t (f t).1 (wr.alloc (.cells #[.int .u16 (f t).1, .int .u16 (f t).2] 172))) := by
        have hb1 : Below wr.heap.size wr (wr.alloc (.cells #[.int .u16 (f t).1, .int .u16 (f t).2] 172)) := (Below.refl _ _).alloc (Nat.le_refl _) _
        refine ⟨hrow.same (hb1.block _ hrow.lt), ((hmap.same (hb1.block _ hmap.lt)).mono (by omega)).congr fun l b => midF_start f t l b, hbel.alloc hbel.size _, by simp, ?_⟩
        rw [Nat.sub_self, Nat.pow_zero, Nat.div_one]
        exact heap_alloc_new _ _
      have hmW : m < wr.heap.size := hmap.lt
      have hBW : B < wr.heap.size := hrow.lt
      clear hrow hmap hbel
      go_wp2
      generalize wr.heap.size = W at HMID hmW hBW ⊢
      have hWm : ¬ W = m := by omega
      have hmW' : ¬ m = W := by omega
      have hWB : ¬ W = B := by omega
      have hBW' : ¬ B = W := by omega
      go_loopg [18] 16 (fun g _ wr2 => ∃ p : Nat, p ≤ (f t).1 ∧ p ≤ g ∧ BgMid w B m W len f t p wr2)
      case atStart => exact ⟨(f t).1, Nat.le_refl _, by omega, HMID.out⟩
      case round =>
        clear HMID
        obtain ⟨p, hpn, hpg, hrow, hmap, hbel, hWs, hW⟩ := hrel
        obtain ⟨q0, q1, f0, f1⟩ := two_cells hW
        by_cases hp : 1 < p
        · obtain ⟨q, rfl⟩ : ∃ q, p = q + 1 := ⟨p - 1, by omega⟩
          have q0' : wr.cell? ⟨W, 0, none⟩ = some (.int .u16 ((q : Int) + 1)) := q0
          clear q0
          have hq1 : (1 : Int) < (q : Int) + 1 := by omega
          have HX : Hid ((f t).2 / 2 ^ ((f t).1 - (q + 1)) / 2 = (f t).2 / 2 ^ ((f t).1 - q)) := by
            show _ = _
            rw [show (2 : Nat) = 2 ^ 1 from rfl, div_div_pow]
            congr 2
            omega
          have hvs : (f t).2 / 2 ^ ((f t).1 - q) ≤ (f t).2 := Nat.div_le_self _ _
          have HV : Hid ((f t).2 / 2 ^ ((f t).1 - q) < 65536) := by show _ < _; omega
          have HK : Hid (BgMid w B m W len f t (q + 1) wr) := ⟨hrow, hmap, hbel, hWs, hW⟩
          clear hrow hmap hbel hWs hW hvs
          go_wp2_with fail
          refine (less_p q _ _ (by omega)).mono ?_
          rintro e w2 ⟨rfl, hb2⟩
          rw [HX.out]
          obtain ⟨hrow, hmap, hbel, hWs, hW⟩ := HK.out
          have hW2 : w2.heap[W]? = _ := (hb2.block W hWs).trans hW
          obtain ⟨p0, p1, g0, g1⟩ := two_cells hW2
          have HK2 : Hid (BgMid w B m W len f t (q + 1) w2) := ⟨hrow.same (hb2.block _ hrow.lt), hmap.same (hb2.block _ hmap.lt), hbel.trans (hb2.mono hbel.size), Nat.lt_of_lt_of_le hWs hb2.size, hW2⟩
          clear hb2 hrow hmap hbel hWs hW hW2 HK HX q1 f0 f1 q0'
          obtain ⟨X, hX⟩ : ∃ X, (f t).2 / 2 ^ ((f t).1 - q) = X := ⟨_, rfl⟩
          rw [hX]
          rw [hX] at HV
          have HXX : Hid ((f t).2 / 2 ^ ((f t).1 - q) = X) := hX
          clear hX
          have HK3 : Hid (WRow ((w2.setCell ⟨W, 0, none⟩ (.int .u16 q)).setCell ⟨W, 1, none⟩ (.int .u16 X)) B len f ∧ MapF ((w2.setCell ⟨W, 0, none⟩ (.int .u16 q)).setCell ⟨W, 1, none⟩ (.int .u16 X)) m (t * 16 + ((f t).1 - (q + 1))) (midF f t (q + 1)) ∧ Below w.heap.size w ((w2.setCell ⟨W, 0, none⟩ (.int .u16 q)).setCell ⟨W, 1, none⟩ (.int .u16 X)) ∧ W < ((w2.setCell ⟨W, 0, none⟩ (.int .u16 q)).setCell ⟨W, 1, none⟩ (.int .u16 X)).heap.size ∧ ((w2.setCell ⟨W, 0, none⟩ (.int .u16 q)).setCell ⟨W, 1, none⟩ (.int .u16 X)).heap[W]? = some (.cells #[.int .u16 q, .int .u16 X] 172 (0, 0))) := by
            obtain ⟨hrow, hmap, hbel, hWs, hW⟩ := HK2.out
            refine ⟨hrow.same ?_, hmap.same ?_, ?_, by simpa [World.setCell] using hWs, two_set1 (two_set0 hW)⟩
            · rw [Below.heap_setCell _ _ _ _ hBW', Below.heap_setCell _ _ _ _ hBW']
            · rw [Below.heap_setCell _ _ _ _ hmW', Below.heap_setCell _ _ _ _ hmW']
            · have h1 : Fr w2 ((w2.setCell ⟨W, 0, none⟩ (.int .u16 q)).setCell ⟨W, 1, none⟩ (.int .u16 X)) W none := (Fr.set W 0 _ none).trans (Fr.set W 1 _ none) (.inl rfl)
              exact Fr.below hbel h1 (by rw [HM.out]; omega) (by intro q hq; cases hq) hbel.size
          clear HK2
          have hlook := HK3.out.2.1.look q X (by omega) HV.out
          by_cases hkn : midB f t (q + 1) q X = true
          · have e1 : midF f t (q + 1) q X = some (q : Int) := by unfold midF; rw [if_pos hkn]
            rw [e1] at hlook
            have R : Hid (BgRel w B m len f (t + 1) ((w2.setCell ⟨W, 0, none⟩ (.int .u16 q)).setCell ⟨W, 1, none⟩ (.int .u16 X))) := by
              obtain ⟨hrow, hmap, hbel, _⟩ := HK3.out
              exact ⟨hrow, (hmap.mono (by omega)).congr fun l b => midF_known f t q l b (by rw [HXX.out]; exact hkn) (by omega), hbel⟩
            clear HK3 e1 hkn
            simp only [Option.getD_some, Option.isSome_some] at hlook
            go_wp2
            go_roundw
            case rel => exact ⟨t + 1, by omega, by go_num, R.out⟩
            case measure => simp [intOf]; omega
          · have e1 : midF f t (q + 1) q X = none := by unfold midF; rw [if_neg hkn]
            rw [e1] at hlook
            simp only [Option.getD_none, Option.isSome_none] at hlook
            obtain ⟨w4, hput, hmap4, hg4⟩ := HK3.out.2.1.put (by unfold maxLen; omega) q X (by omega) HV.out q (wf64 (by omega) (by omega))
            have R : Hid (BgMid w B m W len f t q w4) := by
              obtain ⟨hrow, hmap, hbel, hWs, hW⟩ := HK3.out
              refine ⟨hrow.same (hg4.block _ hrow.lt (by simp; omega)), (hmap4.mono (by omega)).congr fun l b => ?_, ?_, Nat.lt_of_lt_of_le hWs hg4.size, ?_⟩
              · rw [← HXX.out]; exact midF_put f t q l b (by omega) (by omega)
              · have h1 := Fr.grown (r := m) hg4
                exact Fr.below hbel h1 (by rw [HM.out]; exact Nat.le_refl _) (by intro q hq; cases hq; rw [HM.out]; exact Nat.le_refl _) hbel.size
              · rw [HXX.out]; exact (hg4.block _ hWs (by simp; omega)).trans hW
            clear HK3 e1 hkn hmap4 hg4
            go_wp2
            go_roundg q
            case rel => exact ⟨q, by omega, Nat.le_refl _, R.out⟩
            case measure => omega
        · have hpz : ¬ (1 : Int) < (p : Int) := by omega
          have R : Hid (BgRel w B m len f (t + 1) wr) := ⟨hrow, (hmap.mono (by omega)).congr fun l b => midF_end f t p l b (by omega), hbel⟩
          clear hrow hmap hbel hWs hW
          go_wp2
          go_roundw
          case rel => exact ⟨t + 1, by omega, by go_num, R.out⟩
          case measure => simp [intOf]; omega
    · obtain rfl : t = len := by omega
      have HP : Hid (BgPost w t f (.returned (.map (some m))) wr) := ⟨m, _, rfl, by rw [HM.out]; exact Nat.le_refl _, Nat.le_refl _, hmap, hbel⟩
      clear hrow hmap hbel
      go_wp2
      rw [Exit.noGoto_ret]
      go_ret
      exact HP.out
end Go.Proofs.YtloagniacjfkfaaGreatDoor
/- A code as New makes it. -/
namespace Go.Proofs.YtloagniacjfkfaaGreatDoor
open Go.RowKit

def wdP (ns : List Nat) (l b s : Nat) : Bool := decide (hn ns s = l ∧ hn ns s ≠ 0 ∧ hv ns s = b)
def wdF (ns : List Nat) (i l b : Nat) : Option Int := ((List.range i).find? (wdP ns l b)).map fun s => (s : Int)
theorem wdF_zero (ns : List Nat) (l b : Nat) : wdF ns 0 l b = none := rfl
theorem wdF_skip (ns : List Nat) (i l b : Nat) (h : hn ns i = 0) : wdF ns i l b = wdF ns (i + 1) l b := by
  unfold wdF
  rw [List.range_succ, List.find?_append]
  have : [i].find? (wdP ns l b) = none := by simp [wdP, h]
  rw [this, Option.or_none]
theorem wdF_at {ns : List Nat} (hc : Cd ns) {i : Nat} {s : Nat} (hs : s < i) (h : hn ns s ≠ 0) : wdF ns i (hn ns s) (hv ns s) = some (s : Int) := by
  unfold wdF
  cases hx : (List.range i).find? (wdP ns (hn ns s) (hv ns s)) with
  | none =>
    have := List.find?_eq_none.1 hx s (by simpa using hs)
    simp [wdP, h] at this
  | some t =>
    have := List.find?_some hx
    simp only [wdP, decide_eq_true_eq] at this
    have := hc.inj this.2.1 h this.1 this.2.2
    rw [this]; rfl
theorem wdF_none {ns : List Nat} {i l b : Nat} (h : ∀ s, s < i → hn ns s ≠ 0 → hn ns s = l → hv ns s ≠ b) : wdF ns i l b = none := by
  unfold wdF
  have : (List.range i).find? (wdP ns l b) = none := by
    rw [List.find?_eq_none]
    intro s hs
    simp only [wdP, decide_eq_true_eq]
    rintro ⟨h1, h2, h3⟩
    exact h s (by simpa using hs) h2 h1 h3
  rw [this]; rfl
theorem wdF_put {ns : List Nat} (hc : Cd ns) (i l b : Nat) (h : hn ns i ≠ 0) : (if l = hn ns i ∧ b = hv ns i then some (i : Int) else wdF ns i l b) = wdF ns (i + 1) l b := by
  by_cases e : l = hn ns i ∧ b = hv ns i
  · obtain ⟨rfl, rfl⟩ := e
    rw [if_pos ⟨rfl, rfl⟩, wdF_at hc (by omega) h]
  · rw [if_neg e]
    unfold wdF
    rw [List.range_succ, List.find?_append]
    have : [i].find? (wdP ns l b) = none := by
      simp only [List.find?_cons, List.find?_nil]
      have : wdP ns l b i = false := by
        simp only [wdP, decide_eq_false_iff_not]
        rintro ⟨h1, _, h3⟩
        exact e ⟨h1.symm, h3.symm⟩
      rw [this]
    rw [this, Option.or_none]

theorem kraft_zero {ls : List Int} (h : wordsN ls = 0) : sharesN ls = 0 := by
  induction ls with
  | nil => rfl
  | cons x r ih =>
    unfold wordsN at h ih
    rw [List.countP_cons] at h
    have h1 : ¬ 0 < x := by
      intro hx
      simp [hx] at h
    have h2 := ih (by omega)
    unfold sharesN kraft at h2 ⊢
    simp only [List.map_cons, List.sum_cons]
    rw [h2, show x.toNat = 0 by omega]
    rfl
theorem whole_cd {ls : List Int} (h1 : okLens ls = true) (h2 : wholeB ls = true) : Cd (ls.map Int.toNat) := by
  refine ⟨by rw [List.length_map]; exact okLens_few h1, fun s => ?_, ?_⟩
  · have := okLens_at h1 s
    unfold hn
    rw [toNat_at]
    omega
  · show sharesN ls ≤ 32768
    unfold wholeB at h2
    by_cases e0 : wordsN ls = 0
    · rw [kraft_zero e0]; omega
    · rw [if_neg e0] at h2
      by_cases e1 : wordsN ls = 1
      · rw [if_pos e1] at h2; simp at h2; omega
      · rw [if_neg e1] at h2; simp at h2; omega

def fin (ns : List Nat) (s : Nat) : Nat × Nat := (hn ns s, hv ns s)
/-- A code at block c. -/
def CodeAt (w : World) (c : Nat) (ns : List Nat) : Prop :=
  ∃ bw bs B n1 n2, w.heap[c]? = some (.cells #[.map (some bw), .map (some bs), .slice (some ⟨B, 0, none⟩) ns.length ns.length] 170 (0, 0)) ∧ MapF w bw n1 (wdF ns ns.length) ∧ MapF w bs n2 (stF (fin ns) ns.length) ∧ WRow w B ns.length (fin ns)
theorem CodeAt.old {w w' : World} {c : Nat} {ns : List Nat} (h : CodeAt w c ns) (hb : Below w.heap.size w w') : CodeAt w' c ns := by
  obtain ⟨bw, bs, B, n1, n2, h1, h2, h3, h4⟩ := h
  exact ⟨bw, bs, B, n1, n2, (hb.block _ (lt_of_block h1)).trans h1, h2.same (hb.block _ h2.lt), h3.same (hb.block _ h3.lt), h4.same (hb.block _ h4.lt)⟩
theorem CodeAt.lt {w : World} {c : Nat} {ns : List Nat} (h : CodeAt w c ns) : c < w.heap.size := by
  obtain ⟨bw, bs, B, n1, n2, h1, _⟩ := h; exact lt_of_block h1
def NewPost (w : World) (ns : List Nat) (e : Ending) (w' : World) : Prop :=
  ∃ c, e = .returned (.tuple #[.pointer (some ⟨c, 0, none⟩), .int .i64 0]) ∧ w.heap.size ≤ c ∧ CodeAt w' c ns ∧ Below w.heap.size w w'
theorem three_cells {w : World} {c : Nat} {v0 v1 v2 : Value} {t : TypeId} (h : w.heap[c]? = some (.cells #[v0, v1, v2] t (0, 0))) :
    w.cell? ⟨c, 0, none⟩ = some v0 ∧ w.cell? ⟨c, 1, none⟩ = some v1 ∧ w.cell? ⟨c, 2, none⟩ = some v2 ∧ w.frozen? ⟨c, 1, none⟩ = false := by
  simp [World.cell?, World.frozen?, h]
theorem three_set1 {w : World} {c : Nat} {v0 v1 v2 u : Value} {t : TypeId} (h : w.heap[c]? = some (.cells #[v0, v1, v2] t (0, 0))) : (w.setCell ⟨c, 1, none⟩ u).heap[c]? = some (.cells #[v0, u, v2] t (0, 0)) := by
  simp [World.setCell, Array.getElem?_modify, h]

def NwRel (w : World) (c bw B : Nat) (ns : List Nat) (i : Nat) (wr : World) : Prop :=
  wr.heap[c]? = some (.cells #[.map (some bw), .map none, .slice (some ⟨B, 0, none⟩) ns.length ns.length] 170 (0, 0)) ∧ MapF wr bw i (wdF ns i) ∧ WRow wr B ns.length (fin ns) ∧ Below w.heap.size w wr

set_option maxHeartbeats 400000 in
theorem new_arg (a : Option Addr) (len cap : Nat) (ls : List Int) (w : World) (hn : ls.length = len) (hl : len ≤ 140737488355328) (hr : IRow w a ls) (hk : okLens ls = false) :
    Calls Tryz.prog 121 #[.slice a len cap] w fun e w' => e = .returned (.tuple #[.pointer none, .int .i64 1]) ∧ w' = w := by
  have C := allowed_any a len cap ls w hn hl hr
  rw [hk] at C
  clear hn hr hk
  go_enter Tryz.func121, Tryz.ntmps121
  go_wp2_with (go_at_call 136; refine C.mono ?_; rintro e w' ⟨rfl, rfl⟩)
  go_ret2
  exact ⟨rfl, rfl⟩
set_option maxHeartbeats 400000 in
theorem new_code (a : Option Addr) (len cap : Nat) (ls : List Int) (w : World) (hn : ls.length = len) (hl : len ≤ 140737488355328) (hr : IRow w a ls) (hk : okLens ls = true) (hw : wholeB ls = false) :
    Calls Tryz.prog 121 #[.slice a len cap] w fun e w' => e = .returned (.tuple #[.pointer none, .int .i64 5]) ∧ w' = w := by
  have C := allowed_any a len cap ls w hn hl hr
  have C2 := whole_any a len cap ls w hn hk hr
  rw [hk] at C
  rw [hw] at C2
  clear hn hr hk hw
  go_enter Tryz.func121, Tryz.ntmps121
  go_wp2_with (first | (go_at_call 136; refine C.mono ?_; rintro e w' ⟨rfl, rfl⟩) | (go_at_call 137; refine C2.mono ?_; rintro e w' ⟨rfl, rfl⟩))
  go_ret2
  exact ⟨rfl, rfl⟩
set_option maxHeartbeats 1600000 in
set_option maxRecDepth 20000 in
theorem new_yes (a : Option Addr) (len cap : Nat) (ls : List Int) (w : World) (hn' : ls.length = len) (hl : len ≤ 140737488355328) (hr : IRow w a ls) (hk : okLens ls = true) (hw : wholeB ls = true) :
    Calls Tryz.prog 121 #[.slice a len cap] w fun e w' => NewPost w (ls.map Int.toNat) e w' := by
  have C := allowed_any a len cap ls w hn' hl hr
  have C2 := whole_any a len cap ls w hn' hk hr
  have hcd := whole_cd hk hw
  rw [hk] at C
  rw [hw] at C2
  have HE : Hid (ints (ls.map Int.toNat) = ls) := ints_toNat hk
  have HN : Hid ((ls.map Int.toNat).length = len) := by show _ = _; rw [List.length_map]; exact hn'
  have HR : Hid (IRow w a (ints (ls.map Int.toNat))) := by rw [HE.out]; exact hr
  have HC : Hid (Cd (ls.map Int.toNat)) := hcd
  have hmm := Tryz.mkmap
  generalize ls.map Int.toNat = ns at HE HN HR HC ⊢
  clear hn' hr hk hw hcd
  go_enter Tryz.func121, Tryz.ntmps121
  go_wp2_with (first | (go_at_call 136; refine C.mono ?_; rintro e w ⟨rfl, rfl⟩) | (go_at_call 137; refine C2.mono ?_; rintro e w ⟨rfl, rfl⟩))
  have HWW : Hid (∀ W, Below w.heap.size w W → Calls Tryz.prog 138 #[.slice a len cap] W fun e w' => e = .returned (.int .i64 (wordsN (ints ns))) ∧ w' = W) := fun W hb => withWord_any a len cap (ints ns) W (by rw [ints_len]; exact HN.out) hl (HR.out.old hb)
  have HSP : Hid (∀ W, Below w.heap.size w W → Calls Tryz.prog 139 #[.slice a len cap] W fun e w' => SpPost W len ns e w') := fun W hb => spell_any a len cap ns W HN.out HC.out (HR.out.old hb)
  have hlen : len ≤ 288 := by have := HC.out.few; rw [HN.out] at this; exact this
  obtain ⟨S0, hS0⟩ : ∃ S0, w.heap.size = S0 := ⟨_, rfl⟩
  have HS0 : Hid (w.heap.size = S0) := hS0
  clear hS0 C C2
  have hb0 : Below w.heap.size w w.drew := ⟨rfl, rfl, rfl, Nat.le_refl _, fun _ _ => rfl⟩
  have hb1 : Below w.heap.size w (w.drew.alloc (.map #[] 0)) := ⟨rfl, rfl, rfl, by simp, fun k hk => ((Below.refl w.drew.heap.size w.drew).alloc (Nat.le_refl _) (.map #[] 0)).block k hk⟩
  go_region_law (first
    | (go_simp; go_at_call 138; refine Calls.mono (HWW.out _ ?_) ?_; (first | exact hb0 | exact hb1 | exact hbs | assumption); rintro e w' ⟨rfl, rfl⟩)
    | (go_simp; go_at_call 139; refine Calls.mono (HSP.out _ ?_) ?_; (first | exact hb0 | exact hb1 | assumption); rintro e w2 ⟨B, rfl, hB, hrow, hb2⟩; have hbs : Below w.heap.size w w2 := by first | exact hb0.trans (hb2.mono (Nat.le_refl _)) | exact hb1.trans (hb2.mono hb1.size))
    | fail)
  · have hr2 : WRow w2 B len (fin ns) := hrow
    have HBB : Hid (Below w.heap.size w w2) := hbs
    have HW2 : Hid (WRow w2 B len (fin ns)) := hr2
    have hm2 : MapF w2 w.heap.size 0 fun _ _ => none := (MapF.same (w := w.alloc (.map #[] 0)) (MapF.made w) (hb2.block _ (by simp)))
    have hB2 : w.heap.size < B := by simp at hB; omega
    have hb3 : B < w2.heap.size := hr2.lt
    obtain ⟨w3, hw3⟩ : ∃ w3, w2 = w3 := ⟨_, rfl⟩
    subst hw3
    have HM2 : Hid (MapF w2 w.heap.size 0 fun _ _ => none) := hm2
    have HCC : Hid (w2.heap.size = w2.heap.size) := rfl
    clear hrow hr2 hb2 hbs hB hm2 hmm hb0 hb1 HWW HSP
    go_wp2
    obtain ⟨bw, hbw⟩ : ∃ bw, w.heap.size = bw := ⟨_, rfl⟩
    have HBW : Hid (w.heap.size ≤ bw) := Nat.le_of_eq hbw
    rw [hbw] at hB2 HM2 ⊢
    generalize hc : w2.heap.size = c at hb3 HCC ⊢
    have HCC : Hid (w2.heap.size = c) := hc
    clear hbw hc
    have hbc : bw < c := by omega
    obtain ⟨w3, hw3⟩ : ∃ w3, w2 = w3 := ⟨_, rfl⟩
    rw [hw3] at HCC HM2 HW2 HBB ⊢
    clear hw3
    have HS : Hid (NwRel w c bw B ns 0 (w3.alloc (.cells #[.map (some bw), .map none, .slice (some ⟨B, 0, none⟩) len len] 170))) := by
      have h1 : Below w3.heap.size w3 (w3.alloc (.cells #[.map (some bw), .map none, .slice (some ⟨B, 0, none⟩) len len] 170)) := (Below.refl _ _).alloc (Nat.le_refl _) _
      refine ⟨?_, (HM2.out.same (h1.block _ HM2.out.lt)).congr fun l b => (wdF_zero ns l b).symm, ?_, HBB.out.alloc HBB.out.size _⟩
      · rw [HN.out, ← HCC.out]; exact heap_alloc_new _ _
      · rw [HN.out]; exact HW2.out.same (h1.block _ HW2.out.lt)
    clear HBB HW2 HM2 HCC
    go_loopw [25] (fun i wr => ∃ t : Nat, t ≤ len ∧ i = .int .i64 t ∧ NwRel w c bw B ns t wr) (fun i _ => len - (intOf i).toNat)
    case atStart => exact ⟨0, Nat.zero_le _, rfl, HS.out⟩
    case round =>
      clear HS
      obtain ⟨t, ht, rfl, hcode, hmap, hrow, hbel⟩ := hrel
      rw [HN.out] at hcode hrow
      obtain ⟨p0, p1, p2, g1⟩ := three_cells hcode
      by_cases hlt : t < len
      · obtain ⟨c0, c1⟩ := hrow.cell t hlt
        have h15 : (fin ns t).1 ≤ 15 := HC.out.le t
        have hvs : (fin ns t).2 < 65536 := by
          have h1 := HC.out.lt t
          have h2 : (2 : Nat) ^ hn ns t ≤ 2 ^ 15 := Nat.pow_le_pow_right (by omega) (HC.out.le t)
          show hv ns t < 65536
          omega
        have HK : Hid (NwRel w c bw B ns t wr) := by refine ⟨?_, hmap, ?_, hbel⟩ <;> rw [HN.out] <;> assumption
        have HFN : Hid ((fin ns t).1 = hn ns t ∧ (fin ns t).2 = hv ns t) := ⟨rfl, rfl⟩
        have hcw : c < wr.heap.size := lt_of_block hcode
        have hbwr : bw < wr.heap.size := hmap.lt
        have hBwr : B < wr.heap.size := hrow.lt
        clear hcode hmap hrow hbel
        generalize (fin ns t).1 = L at *
        generalize (fin ns t).2 = X at *
        by_cases hz : L = 0
        · subst hz
          have R : Hid (NwRel w c bw B ns (t + 1) (wr.alloc (.cells #[.int .u16 0, .int .u16 X] 172))) := by
            obtain ⟨r1, r2, r3, r4⟩ := HK.out
            have h1 : Below wr.heap.size wr (wr.alloc (.cells #[.int .u16 0, .int .u16 X] 172)) := (Below.refl _ _).alloc (Nat.le_refl _) _
            exact ⟨(h1.block _ hcw).trans r1, ((r2.same (h1.block _ hbwr)).mono (by omega)).congr fun l b => wdF_skip ns t l b HFN.out.1.symm, r3.same (h1.block _ hBwr), r4.alloc r4.size _⟩
          go_wp2
          go_roundw
          case rel => exact ⟨t + 1, by omega, by go_num, R.out⟩
          case measure => simp [intOf]; omega
        · have hLp : (0 : Int) < (L : Int) := by omega
          have hm1 : MapF (wr.alloc (.cells #[.int .u16 L, .int .u16 X] 172)).drew bw t (wdF ns t) := by
            obtain ⟨r1, r2, r3, r4⟩ := HK.out
            have h1 : Below wr.heap.size wr (wr.alloc (.cells #[.int .u16 L, .int .u16 X] 172)) := (Below.refl _ _).alloc (Nat.le_refl _) _
            exact r2.same (h1.block _ hbwr)
          obtain ⟨w6, hput, hmap6, hg6⟩ := hm1.put (by unfold maxLen; omega) L X (by omega) hvs t (wf64 (by omega) (by omega))
          have R : Hid (NwRel w c bw B ns (t + 1) w6) := by
            obtain ⟨r1, r2, r3, r4⟩ := HK.out
            have h1 : Below wr.heap.size wr (wr.alloc (.cells #[.int .u16 L, .int .u16 X] 172)).drew := ⟨rfl, rfl, rfl, by simp, fun k hk => ((Below.refl _ _).alloc (Nat.le_refl _) _ : Below wr.heap.size wr (wr.alloc (.cells #[.int .u16 L, .int .u16 X] 172))).block k hk⟩
            have hs : wr.heap.size ≤ (wr.alloc (.cells #[.int .u16 L, .int .u16 X] 172)).drew.heap.size := by simp
            refine ⟨(hg6.block _ (by omega) (by simp; omega)).trans ((h1.block _ hcw).trans r1), hmap6.congr fun l b => ?_, r3.same ((hg6.block _ (by omega) (by simp; omega)).trans (h1.block _ hBwr)), ?_⟩
            · rw [HFN.out.1, HFN.out.2]; exact wdF_put HC.out t l b (by rw [← HFN.out.1]; exact hz)
            · have h2 := r4.trans (h1.mono r4.size)
              exact Fr.below h2 (Fr.grown (r := bw) hg6) HBW.out (by intro q hq; cases hq; exact HBW.out) h2.size
          clear hm1 hmap6 hg6 HK HFN
          go_wp2
          refine wp_region_still_tail 6 (by kernel_rfl) (by kernel_rfl) ?_
          simp only [List.take_succ_cons, List.take_zero, List.drop_succ_cons, List.drop_zero]
          rw [show ({ (wr.alloc (.cells #[.int .u16 L, .int .u16 X] 172)) with drawn := (wr.alloc (.cells #[.int .u16 L, .int .u16 X] 172)).drawn + 1 } : World) = (wr.alloc (.cells #[.int .u16 L, .int .u16 X] 172)).drew from rfl]
          repeat still_step
          refine wpStill_nil ?_
          go_wp2
          go_roundw
          case rel => exact ⟨t + 1, by omega, by go_num, R.out⟩
          case measure => simp [intOf]; omega
      · obtain rfl : t = len := by omega
        have HW4 : Hid (WRow wr B t (fin ns)) := hrow
        have HM4 : Hid (MapF wr bw t (wdF ns ns.length)) := by rw [HN.out]; exact hmap
        have HB4 : Hid (Below w.heap.size w wr) := hbel
        have HC4 : Hid (wr.heap[c]? = some (.cells #[.map (some bw), .map none, .slice (some ⟨B, 0, none⟩) t t] 170 (0, 0))) := hcode
        clear hcode hmap hrow hbel
        go_wp2_with fail
        refine (beginnings_any B t t (fin ns) _ hlen HW4.out (fun s => ⟨HC.out.le s, by
          have h1 := HC.out.lt s
          have h2 : (2 : Nat) ^ hn ns s ≤ 2 ^ 15 := Nat.pow_le_pow_right (by omega) (HC.out.le s)
          show hv ns s < 65536
          omega⟩)).mono ?_
        rintro e w5 ⟨bs, n5, rfl, hbs, hn5, hmap5, hb5⟩
        have hcw : c < wr.heap.size := lt_of_block HC4.out
        have hcode5 : w5.heap[c]? = some (.cells #[.map (some bw), .map none, .slice (some ⟨B, 0, none⟩) t t] 170 (0, 0)) := (hb5.block _ hcw).trans HC4.out
        obtain ⟨r0, r1, r2, e1⟩ := three_cells hcode5
        have R : Hid (CodeAt (w5.setCell ⟨c, 1, none⟩ (.map (some bs))) c ns) := by
          have k1 : MapF (w5.setCell ⟨c, 1, none⟩ (.map (some bs))) bw t (wdF ns ns.length) := HM4.out.same (by rw [Below.heap_setCell _ _ _ _ (by simp; omega), hb5.block _ HM4.out.lt])
          have k2 : MapF (w5.setCell ⟨c, 1, none⟩ (.map (some bs))) bs n5 (stF (fin ns) t) := hmap5.same (by rw [Below.heap_setCell _ _ _ _ (by simp; omega)])
          have k3 : WRow (w5.setCell ⟨c, 1, none⟩ (.map (some bs))) B t (fin ns) := HW4.out.same (by rw [Below.heap_setCell _ _ _ _ (by simp; omega), hb5.block _ HW4.out.lt])
          refine ⟨bw, bs, B, _, _, ?_, k1, (by rw [HN.out]; exact k2), (by rw [HN.out]; exact k3)⟩
          rw [HN.out]; exact three_set1 hcode5
        have RB : Hid (Below w.heap.size w (w5.setCell ⟨c, 1, none⟩ (.map (some bs)))) := by
          have h1 := HB4.out.trans (hb5.mono HB4.out.size)
          exact Fr.below h1 (Fr.set c 1 _ none) (Nat.le_trans HBW.out (Nat.le_of_lt hbc)) (by intro q hq; cases hq) h1.size
        clear hmap5 hb5 hcode5 HW4 HM4 HB4 HC4 p0 p1 p2 g1
        go_wp2
        go_ret2
        exact ⟨c, rfl, Nat.le_trans HBW.out (Nat.le_of_lt hbc), R.out, RB.out⟩
  · have hr2 : WRow w2 B len (fin ns) := hrow
    have hb5 : Below w2.heap.size w2 (w2.alloc (.map #[] 0)) := (Below.refl _ _).alloc (Nat.le_refl _) _
    have HBB : Hid (Below w.heap.size w (w2.alloc (.map #[] 0))) := hbs.trans (hb5.mono hbs.size)
    have HW2 : Hid (WRow (w2.alloc (.map #[] 0)) B len (fin ns)) := hr2.same (hb5.block _ hr2.lt)
    have HM2 : Hid (MapF (w2.alloc (.map #[] 0)) w2.heap.size 0 fun _ _ => none) := MapF.made w2
    have hb3 : B < w2.heap.size := hr2.lt
    have hB2 : w.heap.size ≤ B := hB
    have HCC : Hid ((w2.alloc (.map #[] 0)).heap.size = w2.heap.size + 1) := by show _ = _; simp
    clear hrow hr2 hb2 hbs hB hmm hb0 hb1 HWW HSP hb5
    go_wp2
    generalize w2.alloc (.map #[] 0) = w3 at HBB HW2 HM2 HCC ⊢
    obtain ⟨c, hc⟩ : ∃ c, w2.heap.size + 1 = c := ⟨_, rfl⟩
    rw [hc] at HCC ⊢
    obtain ⟨bw, hbw⟩ : ∃ bw, w2.heap.size = bw := ⟨_, rfl⟩
    rw [hbw] at HM2 hb3 hc ⊢
    have hbc : bw < c := by omega
    have HBW : Hid (w.heap.size ≤ bw) := by show _ ≤ _; omega
    clear hbw hc
    have HS : Hid (NwRel w c bw B ns 0 (w3.alloc (.cells #[.map (some bw), .map none, .slice (some ⟨B, 0, none⟩) len len] 170))) := by
      have h1 : Below w3.heap.size w3 (w3.alloc (.cells #[.map (some bw), .map none, .slice (some ⟨B, 0, none⟩) len len] 170)) := (Below.refl _ _).alloc (Nat.le_refl _) _
      refine ⟨?_, (HM2.out.same (h1.block _ HM2.out.lt)).congr fun l b => (wdF_zero ns l b).symm, ?_, HBB.out.alloc HBB.out.size _⟩
      · rw [HN.out, ← HCC.out]; exact heap_alloc_new _ _
      · rw [HN.out]; exact HW2.out.same (h1.block _ HW2.out.lt)
    clear HBB HW2 HM2 HCC
    go_loopw [25] (fun i wr => ∃ t : Nat, t ≤ len ∧ i = .int .i64 t ∧ NwRel w c bw B ns t wr) (fun i _ => len - (intOf i).toNat)
    case atStart => exact ⟨0, Nat.zero_le _, rfl, HS.out⟩
    case round =>
      clear HS
      obtain ⟨t, ht, rfl, hcode, hmap, hrow, hbel⟩ := hrel
      rw [HN.out] at hcode hrow
      obtain ⟨p0, p1, p2, g1⟩ := three_cells hcode
      by_cases hlt : t < len
      · obtain ⟨c0, c1⟩ := hrow.cell t hlt
        have h15 : (fin ns t).1 ≤ 15 := HC.out.le t
        have hvs : (fin ns t).2 < 65536 := by
          have h1 := HC.out.lt t
          have h2 : (2 : Nat) ^ hn ns t ≤ 2 ^ 15 := Nat.pow_le_pow_right (by omega) (HC.out.le t)
          show hv ns t < 65536
          omega
        have HK : Hid (NwRel w c bw B ns t wr) := by refine ⟨?_, hmap, ?_, hbel⟩ <;> rw [HN.out] <;> assumption
        have HFN : Hid ((fin ns t).1 = hn ns t ∧ (fin ns t).2 = hv ns t) := ⟨rfl, rfl⟩
        have hcw : c < wr.heap.size := lt_of_block hcode
        have hbwr : bw < wr.heap.size := hmap.lt
        have hBwr : B < wr.heap.size := hrow.lt
        clear hcode hmap hrow hbel
        generalize (fin ns t).1 = L at *
        generalize (fin ns t).2 = X at *
        by_cases hz : L = 0
        · subst hz
          have R : Hid (NwRel w c bw B ns (t + 1) (wr.alloc (.cells #[.int .u16 0, .int .u16 X] 172))) := by
            obtain ⟨r1, r2, r3, r4⟩ := HK.out
            have h1 : Below wr.heap.size wr (wr.alloc (.cells #[.int .u16 0, .int .u16 X] 172)) := (Below.refl _ _).alloc (Nat.le_refl _) _
            exact ⟨(h1.block _ hcw).trans r1, ((r2.same (h1.block _ hbwr)).mono (by omega)).congr fun l b => wdF_skip ns t l b HFN.out.1.symm, r3.same (h1.block _ hBwr), r4.alloc r4.size _⟩
          go_wp2
          go_roundw
          case rel => exact ⟨t + 1, by omega, by go_num, R.out⟩
          case measure => simp [intOf]; omega
        · have hLp : (0 : Int) < (L : Int) := by omega
          have hm1 : MapF (wr.alloc (.cells #[.int .u16 L, .int .u16 X] 172)).drew bw t (wdF ns t) := by
            obtain ⟨r1, r2, r3, r4⟩ := HK.out
            have h1 : Below wr.heap.size wr (wr.alloc (.cells #[.int .u16 L, .int .u16 X] 172)) := (Below.refl _ _).alloc (Nat.le_refl _) _
            exact r2.same (h1.block _ hbwr)
          obtain ⟨w6, hput, hmap6, hg6⟩ := hm1.put (by unfold maxLen; omega) L X (by omega) hvs t (wf64 (by omega) (by omega))
          have R : Hid (NwRel w c bw B ns (t + 1) w6) := by
            obtain ⟨r1, r2, r3, r4⟩ := HK.out
            have h1 : Below wr.heap.size wr (wr.alloc (.cells #[.int .u16 L, .int .u16 X] 172)).drew := ⟨rfl, rfl, rfl, by simp, fun k hk => ((Below.refl _ _).alloc (Nat.le_refl _) _ : Below wr.heap.size wr (wr.alloc (.cells #[.int .u16 L, .int .u16 X] 172))).block k hk⟩
            have hs : wr.heap.size ≤ (wr.alloc (.cells #[.int .u16 L, .int .u16 X] 172)).drew.heap.size := by simp
            refine ⟨(hg6.block _ (by omega) (by simp; omega)).trans ((h1.block _ hcw).trans r1), hmap6.congr fun l b => ?_, r3.same ((hg6.block _ (by omega) (by simp; omega)).trans (h1.block _ hBwr)), ?_⟩
            · rw [HFN.out.1, HFN.out.2]; exact wdF_put HC.out t l b (by rw [← HFN.out.1]; exact hz)
            · have h2 := r4.trans (h1.mono r4.size)
              exact Fr.below h2 (Fr.grown (r := bw) hg6) HBW.out (by intro q hq; cases hq; exact HBW.out) h2.size
          clear hm1 hmap6 hg6 HK HFN
          go_wp2
          refine wp_region_still_tail 6 (by kernel_rfl) (by kernel_rfl) ?_
          simp only [List.take_succ_cons, List.take_zero, List.drop_succ_cons, List.drop_zero]
          rw [show ({ (wr.alloc (.cells #[.int .u16 L, .int .u16 X] 172)) with drawn := (wr.alloc (.cells #[.int .u16 L, .int .u16 X] 172)).drawn + 1 } : World) = (wr.alloc (.cells #[.int .u16 L, .int .u16 X] 172)).drew from rfl]
          repeat still_step
          refine wpStill_nil ?_
          go_wp2
          go_roundw
          case rel => exact ⟨t + 1, by omega, by go_num, R.out⟩
          case measure => simp [intOf]; omega
      · obtain rfl : t = len := by omega
        have HW4 : Hid (WRow wr B t (fin ns)) := hrow
        have HM4 : Hid (MapF wr bw t (wdF ns ns.length)) := by rw [HN.out]; exact hmap
        have HB4 : Hid (Below w.heap.size w wr) := hbel
        have HC4 : Hid (wr.heap[c]? = some (.cells #[.map (some bw), .map none, .slice (some ⟨B, 0, none⟩) t t] 170 (0, 0))) := hcode
        clear hcode hmap hrow hbel
        go_wp2_with fail
        refine (beginnings_any B t t (fin ns) _ hlen HW4.out (fun s => ⟨HC.out.le s, by
          have h1 := HC.out.lt s
          have h2 : (2 : Nat) ^ hn ns s ≤ 2 ^ 15 := Nat.pow_le_pow_right (by omega) (HC.out.le s)
          show hv ns s < 65536
          omega⟩)).mono ?_
        rintro e w5 ⟨bs, n5, rfl, hbs, hn5, hmap5, hb5⟩
        have hcw : c < wr.heap.size := lt_of_block HC4.out
        have hcode5 : w5.heap[c]? = some (.cells #[.map (some bw), .map none, .slice (some ⟨B, 0, none⟩) t t] 170 (0, 0)) := (hb5.block _ hcw).trans HC4.out
        obtain ⟨r0, r1, r2, e1⟩ := three_cells hcode5
        have R : Hid (CodeAt (w5.setCell ⟨c, 1, none⟩ (.map (some bs))) c ns) := by
          have k1 : MapF (w5.setCell ⟨c, 1, none⟩ (.map (some bs))) bw t (wdF ns ns.length) := HM4.out.same (by rw [Below.heap_setCell _ _ _ _ (by simp; omega), hb5.block _ HM4.out.lt])
          have k2 : MapF (w5.setCell ⟨c, 1, none⟩ (.map (some bs))) bs n5 (stF (fin ns) t) := hmap5.same (by rw [Below.heap_setCell _ _ _ _ (by simp; omega)])
          have k3 : WRow (w5.setCell ⟨c, 1, none⟩ (.map (some bs))) B t (fin ns) := HW4.out.same (by rw [Below.heap_setCell _ _ _ _ (by simp; omega), hb5.block _ HW4.out.lt])
          refine ⟨bw, bs, B, _, _, ?_, k1, (by rw [HN.out]; exact k2), (by rw [HN.out]; exact k3)⟩
          rw [HN.out]; exact three_set1 hcode5
        have RB : Hid (Below w.heap.size w (w5.setCell ⟨c, 1, none⟩ (.map (some bs)))) := by
          have h1 := HB4.out.trans (hb5.mono HB4.out.size)
          exact Fr.below h1 (Fr.set c 1 _ none) (Nat.le_trans HBW.out (Nat.le_of_lt hbc)) (by intro q hq; cases hq) h1.size
        clear hmap5 hb5 hcode5 HW4 HM4 HB4 HC4 p0 p1 p2 g1
        go_wp2
        go_ret2
        exact ⟨c, rfl, Nat.le_trans HBW.out (Nat.le_of_lt hbc), R.out, RB.out⟩
end Go.Proofs.YtloagniacjfkfaaGreatDoor
/- A symbol's word, as the program tells it. -/
namespace Go.Proofs.YtloagniacjfkfaaGreatDoor
open Go.RowKit

theorem Tryz.mixed : Tryz.prog.follows .mixedOrders = true := by kernel_rfl
theorem below_grow (w : World) (n : Nat) (os : Array Obj) : Below w.heap.size w (Sort.grow (w.drewN n) os) :=
  ⟨rfl, rfl, rfl, by rw [Sort.size_grow]; exact Nat.le_add_right _ _, fun k hk => Sort.heap_grow_old _ _ hk⟩
theorem turned_grown (w : World) (n : Nat) (os : Array Obj) (l b : Nat) (hl : l < 16) (hb : b < 65536) :
    Calls Tryz.prog 107 #[.agg #[.int .u16 l, .int .u16 b]] (Sort.grow (w.drewN n) os) fun e w' => e = .returned (.int .i64 (turn b l)) ∧ ∃ p : GrownBy, w' = Sort.grow (w.drewN p.n) p.os :=
  Calls.grown_of ((turned_any l b _ hl hb).mono fun e w' ⟨he, hw⟩ => ⟨he, 0, #[.cells #[.int .u16 l, .int .u16 b] 172], by rw [hw]; exact Sort.alloc_eq_grow _ _⟩)
set_option maxHeartbeats 800000 in
theorem word_in (c s : Nat) (ns : List Nat) (w : World) (h : CodeAt w c ns) (hc : Cd ns) (hs : s < ns.length) :
    Calls Tryz.prog 88 #[.pointer (some ⟨c, 0, none⟩), .int .i64 s] w fun e w' => e = .returned (.tuple #[.int .i64 (turn (hv ns s) (hn ns s)), .int .i64 (hn ns s)]) ∧ Below w.heap.size w w' := by
  obtain ⟨bw, bs, B, n1, n2, h1, _, _, h4⟩ := h
  obtain ⟨p0, p1, p2, _⟩ := three_cells h1
  obtain ⟨c0, c1⟩ := h4.cell s hs
  have hL : hn ns s ≤ 15 := hc.le s
  have hX : hv ns s < 65536 := by
    have h1 := hc.lt s
    have h2 : (2 : Nat) ^ hn ns s ≤ 2 ^ 15 := Nat.pow_le_pow_right (by omega) (hc.le s)
    omega
  have hlen := hc.few
  clear h1 h4 hc
  have mixed := Tryz.mixed
  have c0' : w.cell? ⟨B, s * 2, none⟩ = some (.int .u16 (hn ns s : Nat)) := c0
  have c1' : w.cell? ⟨B, s * 2 + 1, none⟩ = some (.int .u16 (hv ns s : Nat)) := c1
  clear c0 c1
  have hsz : (s : Int) < (ns.length : Int) := by omega
  generalize hn ns s = L at *
  generalize hv ns s = X at *
  have hwr : IntKind.i64.wrap (L : Int) = (L : Int) := by rw [IntKind.wrap_i64]; omega
  have HB : Hid (Below w.heap.size w (w.alloc (.cells #[.int .u16 L, .int .u16 X] 172))) := (Below.refl _ _).alloc (Nat.le_refl _) _
  have k0 : ∀ n os, (Sort.grow ((w.alloc (.cells #[.int .u16 L, .int .u16 X] 172)).drewN n) os).cell? ⟨w.heap.size, 0, none⟩ = some (.int .u16 L) := fun n os => cell_grown (by simp) (by simp) n os
  have k1 : ∀ n os, (Sort.grow ((w.alloc (.cells #[.int .u16 L, .int .u16 X] 172)).drewN n) os).cell? ⟨w.heap.size, 1, none⟩ = some (.int .u16 X) := fun n os => cell_grown (by simp) (by simp) n os
  go_enter Tryz.func88, Tryz.ntmps88
  go_wp2_with fail
  go_quiet_grown (first | (go_at_call 107; refine turned_grown _ _ _ L X (by omega) hX))
  go_wp2
  go_ret2
  exact ⟨rfl, HB.out.trans ((below_grow _ _ _).mono (by simp))⟩
set_option maxHeartbeats 800000 in
theorem word_out (c : Nat) (sym : Int) (ns : List Nat) (w : World) (h : CodeAt w c ns) (hc : Cd ns) (hs : sym < 0 ∨ (ns.length : Int) ≤ sym) :
    Calls Tryz.prog 88 #[.pointer (some ⟨c, 0, none⟩), .int .i64 sym] w fun e w' => e = .returned (.tuple #[.int .i64 0, .int .i64 0]) ∧ w' = w := by
  obtain ⟨bw, bs, B, n1, n2, h1, _⟩ := h
  obtain ⟨p0, p1, p2, _⟩ := three_cells h1
  have hlen := hc.few
  clear h1 hc
  by_cases h0 : sym < 0
  · clear hs
    go_enter Tryz.func88, Tryz.ntmps88
    go_wp2
    go_ret2
    exact ⟨rfl, rfl⟩
  · have h1 : (ns.length : Int) ≤ sym := by omega
    have h2 : 0 ≤ sym := by omega
    clear hs h0
    go_enter Tryz.func88, Tryz.ntmps88
    go_wp2
    go_ret2
    exact ⟨rfl, rfl⟩
set_option maxHeartbeats 800000 in
theorem word_nil (sym : Int) (w : World) :
    Calls Tryz.prog 88 #[.pointer none, .int .i64 sym] w fun e w' => e = .returned (.tuple #[.int .i64 0, .int .i64 0]) ∧ w' = w := by
  go_enter Tryz.func88, Tryz.ntmps88
  go_wp2
  go_ret2
  exact ⟨rfl, rfl⟩
/-- Of any symbol. -/
def wordV (ns : List Nat) (sym : Int) : Nat × Nat := if sym < 0 then (0, 0) else (turn (hv ns sym.toNat) (hn ns sym.toNat), hn ns sym.toNat)
theorem wordV_nat (ns : List Nat) (s : Nat) : wordV ns s = (turn (hv ns s) (hn ns s), hn ns s) := by unfold wordV; rw [if_neg (by omega)]; rfl
theorem word_any (c : Nat) (sym : Int) (ns : List Nat) (w : World) (h : CodeAt w c ns) (hc : Cd ns) :
    Calls Tryz.prog 88 #[.pointer (some ⟨c, 0, none⟩), .int .i64 sym] w fun e w' => e = .returned (.tuple #[.int .i64 (wordV ns sym).1, .int .i64 (wordV ns sym).2]) ∧ Below w.heap.size w w' := by
  by_cases h0 : sym < 0
  · refine (word_out c sym ns w h hc (.inl h0)).mono fun e w' ⟨he, hw⟩ => ⟨?_, ?_⟩
    · rw [he]; unfold wordV; rw [if_pos h0]; rfl
    · rw [hw]; exact Below.refl _ _
  · obtain ⟨s, rfl⟩ := Int.eq_ofNat_of_zero_le (show 0 ≤ sym by omega)
    rw [wordV_nat]
    by_cases hs : s < ns.length
    · exact word_in c s ns w h hc hs
    · have e1 : hn ns s = 0 := by unfold hn; rw [List.getElem?_eq_none (by omega)]; rfl
      refine (word_out c s ns w h hc (.inr (by omega))).mono fun e w' ⟨he, hw⟩ => ⟨?_, ?_⟩
      · rw [he, e1]; rfl
      · rw [hw]; exact Below.refl _ _
end Go.Proofs.YtloagniacjfkfaaGreatDoor
