/- The true beginnings of words. -/
import Derived.Test.YtjellgkojmgmjaaHfD
import Derived.Deep.LoopGhost
namespace Go.Proofs.Ytjellgkojmgmjaa
open Go.RowKit

def stB (f : Nat → Nat × Nat) (t l b : Nat) : Bool := (List.range t).any fun s => decide (1 ≤ l ∧ l < (f s).1 ∧ (f s).2 / 2 ^ ((f s).1 - l) = b)
theorem stB_iff (f : Nat → Nat × Nat) (t l b : Nat) : stB f t l b = true ↔ ∃ s, s < t ∧ 1 ≤ l ∧ l < (f s).1 ∧ (f s).2 / 2 ^ ((f s).1 - l) = b := by
  simp [stB, List.any_eq_true]
def stF (f : Nat → Nat × Nat) (t l b : Nat) : Option Int := if stB f t l b then some (l : Int) else none
def midB (f : Nat → Nat × Nat) (t p l b : Nat) : Bool := stB f t l b || decide (1 ≤ l ∧ p ≤ l ∧ l < (f t).1 ∧ (f t).2 / 2 ^ ((f t).1 - l) = b)
theorem midB_iff (f : Nat → Nat × Nat) (t p l b : Nat) : midB f t p l b = true ↔ (stB f t l b = true ∨ (1 ≤ l ∧ p ≤ l ∧ l < (f t).1 ∧ (f t).2 / 2 ^ ((f t).1 - l) = b)) := by
  simp [midB]
def midF (f : Nat → Nat × Nat) (t p l b : Nat) : Option Int := if midB f t p l b then some (l : Int) else none
theorem div_div_pow (v a b : Nat) : v / 2 ^ a / 2 ^ b = v / 2 ^ (a + b) := by rw [Nat.div_div_eq_div_mul, Nat.pow_add]
theorem stB_shorter {f : Nat → Nat × Nat} {t l b l' : Nat} (h : stB f t l b = true) (h1 : 1 ≤ l') (h2 : l' ≤ l) : stB f t l' (b / 2 ^ (l - l')) = true := by
  obtain ⟨s, hs, q1, q2, rfl⟩ := (stB_iff f t l b).1 h
  exact (stB_iff _ _ _ _).2 ⟨s, hs, h1, by omega, by rw [div_div_pow]; congr 2; omega⟩
theorem bool_eq {a b : Bool} (h : a = true ↔ b = true) : a = b := by cases a <;> cases b <;> simp_all
theorem midF_start (f : Nat → Nat × Nat) (t l b : Nat) : stF f t l b = midF f t (f t).1 l b := by
  unfold stF midF
  rw [bool_eq (a := stB f t l b) (b := midB f t (f t).1 l b) (by rw [midB_iff]; constructor; exact .inl; rintro (h | h); exact h; omega)]
theorem midB_next (f : Nat → Nat × Nat) (t l b : Nat) : midB f (t) 0 l b = stB f (t + 1) l b := by
  refine bool_eq ?_
  rw [midB_iff, stB_iff, stB_iff]
  constructor
  · rintro (⟨s, hs, r⟩ | ⟨h1, _, h2⟩)
    · exact ⟨s, by omega, r⟩
    · exact ⟨t, by omega, h1, h2⟩
  · rintro ⟨s, hs, h1, h2⟩
    by_cases e : s < t
    · exact .inl ⟨s, e, h1, h2⟩
    · obtain rfl : s = t := by omega
      exact .inr ⟨h1, by omega, h2⟩
theorem midF_end (f : Nat → Nat × Nat) (t p l b : Nat) (hp : p ≤ 1) : midF f t p l b = stF f (t + 1) l b := by
  unfold midF stF
  rw [← midB_next, bool_eq (a := midB f t p l b) (b := midB f t 0 l b)]
  rw [midB_iff, midB_iff]
  constructor
  · rintro (h | h)
    · exact .inl h
    · exact .inr (by omega)
  · rintro (h | h)
    · exact .inl h
    · exact .inr (by omega)
/-- One more is known. -/
theorem midF_put (f : Nat → Nat × Nat) (t p l b : Nat) (hp : 1 ≤ p) (hn : p < (f t).1) : (if l = p ∧ b = (f t).2 / 2 ^ ((f t).1 - p) then some ((p : Nat) : Int) else midF f t (p + 1) l b) = midF f t p l b := by
  by_cases e : l = p ∧ b = (f t).2 / 2 ^ ((f t).1 - p)
  · obtain ⟨rfl, rfl⟩ := e
    rw [if_pos ⟨rfl, rfl⟩]
    unfold midF
    rw [if_pos ((midB_iff _ _ _ _ _).2 (.inr ⟨hp, Nat.le_refl _, hn, rfl⟩))]
  · rw [if_neg e]
    unfold midF
    rw [bool_eq (a := midB f t (p + 1) l b) (b := midB f t p l b)]
    rw [midB_iff, midB_iff]
    constructor
    · rintro (h | h)
      · exact .inl h
      · exact .inr (by omega)
    · rintro (h | ⟨h1, h2, h3, h4⟩)
      · exact .inl h
      · refine .inr ⟨h1, ?_, h3, h4⟩
        by_cases e2 : l = p
        · subst e2; exact absurd ⟨rfl, h4.symm⟩ e
        · omega
/-- One that is known already: so are all shorter ones. -/
theorem midF_known (f : Nat → Nat × Nat) (t p l b : Nat) (h : midB f t (p + 1) p ((f t).2 / 2 ^ ((f t).1 - p)) = true) (hn : p < (f t).1) : midF f t (p + 1) l b = stF f (t + 1) l b := by
  have hs : stB f t p ((f t).2 / 2 ^ ((f t).1 - p)) = true := by
    rcases (midB_iff _ _ _ _ _).1 h with h | h
    · exact h
    · omega
  unfold midF stF
  rw [← midB_next, bool_eq (a := midB f t (p + 1) l b) (b := midB f t 0 l b)]
  rw [midB_iff, midB_iff]
  constructor
  · rintro (h | h)
    · exact .inl h
    · exact .inr (by omega)
  · rintro (h | ⟨h1, _, h3, h4⟩)
    · exact .inl h
    · by_cases e : p + 1 ≤ l
      · exact .inr ⟨h1, e, h3, h4⟩
      · refine .inl ?_
        have := stB_shorter hs h1 (by omega : l ≤ p)
        rw [div_div_pow] at this
        rw [← h4]
        rw [show (f t).1 - l = (f t).1 - p + (p - l) by omega]
        exact this

theorem less_p (p b : Nat) (w : World) (hl2 : p < 15) :
    Calls Try.prog 45 #[.agg #[.int .u16 ((p : Int) + 1), .int .u16 b]] w fun e w' => e = .returned (.agg #[.int .u16 p, .int .u16 ((b / 2 : Nat) : Int)]) ∧ Below w.heap.size w w' := by
  have := less_any (p + 1) b w (by omega) (by omega)
  have e1 : (((p + 1 : Nat) : Int) - 1) = (p : Int) := by omega
  have e2 : ((b / 2 : Nat) : Int) = (b : Int) / 2 := by omega
  rw [e1, ← e2] at this
  exact this

def BgPost (w : World) (len : Nat) (f : Nat → Nat × Nat) (e : Ending) (w' : World) : Prop :=
  ∃ m n, e = .returned (.map (some m)) ∧ w.heap.size ≤ m ∧ n ≤ len * 16 ∧ MapF w' m n (stF f len) ∧ Below w.heap.size w w'
def BgRel (w : World) (B m len : Nat) (f : Nat → Nat × Nat) (t : Nat) (wr : World) : Prop :=
  WRow wr B len f ∧ MapF wr m (t * 16) (stF f t) ∧ Below w.heap.size w wr
def BgMid (w : World) (B m W len : Nat) (f : Nat → Nat × Nat) (t p : Nat) (wr : World) : Prop :=
  WRow wr B len f ∧ MapF wr m (t * 16 + ((f t).1 - p)) (midF f t p) ∧ Below w.heap.size w wr ∧ W < wr.heap.size ∧ wr.heap[W]? = some (.cells #[.int .u16 p, .int .u16 ((f t).2 / 2 ^ ((f t).1 - p) : Nat)] 68 (0, 0))

set_option maxHeartbeats 1600000 in
set_option maxRecDepth 10000 in
theorem beginnings_any (B len cap : Nat) (f : Nat → Nat × Nat) (w : World) (hl : len ≤ 288) (hr : WRow w B len f) (hf : ∀ s, (f s).1 ≤ 15 ∧ (f s).2 < 65536) :
    Calls Try.prog 30 #[.slice (some ⟨B, 0, none⟩) len cap] w fun e w' => BgPost w len f e w' := by
  have HF : Hid (∀ s, (f s).1 ≤ 15 ∧ (f s).2 < 65536) := hf
  have hBw := hr.lt
  have HS : Hid (BgRel w B w.heap.size len f 0 (w.alloc (.map #[] 0))) :=
    ⟨hr.same (((Below.refl w.heap.size w).alloc (Nat.le_refl _) _).block _ hr.lt), (MapF.made w).congr fun _ _ => rfl, (Below.refl _ _).alloc (Nat.le_refl _) _⟩
  clear hr hf
  have hmm := Try.mkmap
  go_enter Try.func30, Try.ntmps30
  go_wp2
  go_step3
  go_wp2
  go_step3
  go_wp2
  generalize hm : w.heap.size = m at HS hBw ⊢
  have HM : Hid (w.heap.size = m) := hm
  clear hm hmm
  have hmB : ¬ m = B := by omega
  have hBm : ¬ B = m := by omega
  go_loopw [13] (fun i wr => ∃ t : Nat, t ≤ len ∧ i = .int .i64 t ∧ BgRel w B m len f t wr) (fun i _ => len - (intOf i).toNat)
  case atStart => exact ⟨0, Nat.zero_le _, rfl, HS.out⟩
  case round =>
    clear HS
    obtain ⟨t, ht, rfl, hrow, hmap, hbel⟩ := hrel
    by_cases hlt : t < len
    · obtain ⟨c0, c1⟩ := hrow.cell t hlt
      have hf1 := (HF.out t).1
      have hf2 := (HF.out t).2
      have HMID : Hid (BgMid w B m wr.heap.size len f t (f t).1 (wr.alloc (.cells #[.int .u16 (f t).1, .int .u16 (f t).2] 68))) := by
        have hb1 : Below wr.heap.size wr (wr.alloc (.cells #[.int .u16 (f t).1, .int .u16 (f t).2] 68)) := (Below.refl _ _).alloc (Nat.le_refl _) _
        refine ⟨hrow.same (hb1.block _ hrow.lt), ((hmap.same (hb1.block _ hmap.lt)).mono (by omega)).congr fun l b => midF_start f t l b, hbel.alloc hbel.size _, by simp, ?_⟩
        rw [Nat.sub_self, Nat.pow_zero, Nat.div_one]
        exact heap_alloc_new _ _
      have hmW : m < wr.heap.size := hmap.lt
      have hBW : B < wr.heap.size := hrow.lt
      clear hrow hmap hbel
      go_wp2
      generalize wr.heap.size = W at HMID hmW hBW ⊢
      have hWm : ¬ W = m := by omega
      have hmW' : ¬ m = W := by omega
      have hWB : ¬ W = B := by omega
      have hBW' : ¬ B = W := by omega
      go_loopg [18] 16 (fun g _ wr2 => ∃ p : Nat, p ≤ (f t).1 ∧ p ≤ g ∧ BgMid w B m W len f t p wr2)
      case atStart => exact ⟨(f t).1, Nat.le_refl _, by omega, HMID.out⟩
      case round =>
        clear HMID
        obtain ⟨p, hpn, hpg, hrow, hmap, hbel, hWs, hW⟩ := hrel
        obtain ⟨q0, q1, f0, f1⟩ := two_cells hW
        by_cases hp : 1 < p
        · obtain ⟨q, rfl⟩ : ∃ q, p = q + 1 := ⟨p - 1, by omega⟩
          have q0' : wr.cell? ⟨W, 0, none⟩ = some (.int .u16 ((q : Int) + 1)) := q0
          clear q0
          have hq1 : (1 : Int) < (q : Int) + 1 := by omega
          have HX : Hid ((f t).2 / 2 ^ ((f t).1 - (q + 1)) / 2 = (f t).2 / 2 ^ ((f t).1 - q)) := by
            show _ = _
            rw [show (2 : Nat) = 2 ^ 1 from rfl, div_div_pow]
            congr 2
            omega
          have hvs : (f t).2 / 2 ^ ((f t).1 - q) ≤ (f t).2 := Nat.div_le_self _ _
          have HV : Hid ((f t).2 / 2 ^ ((f t).1 - q) < 65536) := by show _ < _; omega
          have HK : Hid (BgMid w B m W len f t (q + 1) wr) := ⟨hrow, hmap, hbel, hWs, hW⟩
          clear hrow hmap hbel hWs hW hvs
          go_wp2_with fail
          refine (less_p q _ _ (by omega)).mono ?_
          rintro e w2 ⟨rfl, hb2⟩
          rw [HX.out]
          obtain ⟨hrow, hmap, hbel, hWs, hW⟩ := HK.out
          have hW2 : w2.heap[W]? = _ := (hb2.block W hWs).trans hW
          obtain ⟨p0, p1, g0, g1⟩ := two_cells hW2
          have HK2 : Hid (BgMid w B m W len f t (q + 1) w2) := ⟨hrow.same (hb2.block _ hrow.lt), hmap.same (hb2.block _ hmap.lt), hbel.trans (hb2.mono hbel.size), Nat.lt_of_lt_of_le hWs hb2.size, hW2⟩
          clear hb2 hrow hmap hbel hWs hW hW2 HK HX q1 f0 f1 q0'
          obtain ⟨X, hX⟩ : ∃ X, (f t).2 / 2 ^ ((f t).1 - q) = X := ⟨_, rfl⟩
          rw [hX]
          rw [hX] at HV
          have HXX : Hid ((f t).2 / 2 ^ ((f t).1 - q) = X) := hX
          clear hX
          have HK3 : Hid (WRow ((w2.setCell ⟨W, 0, none⟩ (.int .u16 q)).setCell ⟨W, 1, none⟩ (.int .u16 X)) B len f ∧ MapF ((w2.setCell ⟨W, 0, none⟩ (.int .u16 q)).setCell ⟨W, 1, none⟩ (.int .u16 X)) m (t * 16 + ((f t).1 - (q + 1))) (midF f t (q + 1)) ∧ Below w.heap.size w ((w2.setCell ⟨W, 0, none⟩ (.int .u16 q)).setCell ⟨W, 1, none⟩ (.int .u16 X)) ∧ W < ((w2.setCell ⟨W, 0, none⟩ (.int .u16 q)).setCell ⟨W, 1, none⟩ (.int .u16 X)).heap.size ∧ ((w2.setCell ⟨W, 0, none⟩ (.int .u16 q)).setCell ⟨W, 1, none⟩ (.int .u16 X)).heap[W]? = some (.cells #[.int .u16 q, .int .u16 X] 68 (0, 0))) := by
            obtain ⟨hrow, hmap, hbel, hWs, hW⟩ := HK2.out
            refine ⟨hrow.same ?_, hmap.same ?_, ?_, by simpa [World.setCell] using hWs, two_set1 (two_set0 hW)⟩
            · rw [Below.heap_setCell _ _ _ _ hBW', Below.heap_setCell _ _ _ _ hBW']
            · rw [Below.heap_setCell _ _ _ _ hmW', Below.heap_setCell _ _ _ _ hmW']
            · have h1 : Fr w2 ((w2.setCell ⟨W, 0, none⟩ (.int .u16 q)).setCell ⟨W, 1, none⟩ (.int .u16 X)) W none := (Fr.set W 0 _ none).trans (Fr.set W 1 _ none) (.inl rfl)
              exact Fr.below hbel h1 (by rw [HM.out]; omega) (by intro q hq; cases hq) hbel.size
          clear HK2
          have hlook := HK3.out.2.1.look q X (by omega) HV.out
          by_cases hkn : midB f t (q + 1) q X = true
          · have e1 : midF f t (q + 1) q X = some (q : Int) := by unfold midF; rw [if_pos hkn]
            rw [e1] at hlook
            have R : Hid (BgRel w B m len f (t + 1) ((w2.setCell ⟨W, 0, none⟩ (.int .u16 q)).setCell ⟨W, 1, none⟩ (.int .u16 X))) := by
              obtain ⟨hrow, hmap, hbel, _⟩ := HK3.out
              exact ⟨hrow, (hmap.mono (by omega)).congr fun l b => midF_known f t q l b (by rw [HXX.out]; exact hkn) (by omega), hbel⟩
            clear HK3 e1 hkn
            simp only [Option.getD_some, Option.isSome_some] at hlook
            go_wp2
            go_roundw
            case rel => exact ⟨t + 1, by omega, by go_num, R.out⟩
            case measure => simp [intOf]; omega
          · have e1 : midF f t (q + 1) q X = none := by unfold midF; rw [if_neg hkn]
            rw [e1] at hlook
            simp only [Option.getD_none, Option.isSome_none] at hlook
            obtain ⟨w4, hput, hmap4, hg4⟩ := HK3.out.2.1.put (by unfold maxLen; omega) q X (by omega) HV.out q (wf64 (by omega) (by omega))
            have R : Hid (BgMid w B m W len f t q w4) := by
              obtain ⟨hrow, hmap, hbel, hWs, hW⟩ := HK3.out
              refine ⟨hrow.same (hg4.block _ hrow.lt (by simp; omega)), (hmap4.mono (by omega)).congr fun l b => ?_, ?_, Nat.lt_of_lt_of_le hWs hg4.size, ?_⟩
              · rw [← HXX.out]; exact midF_put f t q l b (by omega) (by omega)
              · have h1 := Fr.grown (r := m) hg4
                exact Fr.below hbel h1 (by rw [HM.out]; exact Nat.le_refl _) (by intro q hq; cases hq; rw [HM.out]; exact Nat.le_refl _) hbel.size
              · rw [HXX.out]; exact (hg4.block _ hWs (by simp; omega)).trans hW
            clear HK3 e1 hkn hmap4 hg4
            go_wp2
            go_roundg q
            case rel => exact ⟨q, by omega, Nat.le_refl _, R.out⟩
            case measure => omega
        · have hpz : ¬ (1 : Int) < (p : Int) := by omega
          have R : Hid (BgRel w B m len f (t + 1) wr) := ⟨hrow, (hmap.mono (by omega)).congr fun l b => midF_end f t p l b (by omega), hbel⟩
          clear hrow hmap hbel hWs hW
          go_wp2
          go_roundw
          case rel => exact ⟨t + 1, by omega, by go_num, R.out⟩
          case measure => simp [intOf]; omega
    · obtain rfl : t = len := by omega
      have HP : Hid (BgPost w t f (.returned (.map (some m))) wr) := ⟨m, _, rfl, by rw [HM.out]; exact Nat.le_refl _, Nat.le_refl _, hmap, hbel⟩
      clear hrow hmap hbel
      go_wp2
      rw [Exit.noGoto_ret]
      go_ret
      exact HP.out
end Go.Proofs.Ytjellgkojmgmjaa
