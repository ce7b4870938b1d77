import Derived.Test.YtmlondjkjdlcjaaAdF
import Derived.Test.YtmlondjkjdlcjaaAdT
namespace Go.Proofs.Ytmlondjkjdlcjaa
open Go.RowKit
theorem made_vals (m : Nat) : (madeCells #[Value.int .u8 0] m).toList = vals (List.replicate m 0) := by
  rw [toList_madeCells_one]; simp [vals]
/-- m bytes of which the first k are c. -/
def fillL (c : Int) (m k : Nat) : List Int := List.replicate k c ++ List.replicate (m - k) 0
theorem fillL_len (c : Int) (m k : Nat) (h : k ≤ m) : (fillL c m k).length = m := by simp [fillL]; omega
theorem fillL_step (c : Int) (m k : Nat) (h : k < m) : (fillL c m k).set k c = fillL c m (k + 1) := by
  unfold fillL
  rw [List.set_append, if_neg (by simp), List.length_replicate, Nat.sub_self]
  rw [show m - k = (m - (k + 1)) + 1 by omega, List.replicate_succ, List.set_cons_zero, List.replicate_succ', List.append_assoc]
  rfl
theorem fillL_zero (c : Int) (m : Nat) : fillL c m 0 = List.replicate m 0 := by simp [fillL]
theorem fillL_full (c : Int) (m : Nat) : fillL c m m = List.replicate m c := by simp [fillL]
theorem Row.take {w : World} {a : Option Addr} {zs : List Int} (h : Row w a zs) (k : Nat) : Row w a (zs.take k) := by
  rcases h with rfl | ⟨b, off, rfl, hc⟩
  · exact .inl (by simp)
  · refine .inr ⟨b, off, rfl, fun i hi => ?_⟩
    rw [List.length_take] at hi
    rw [hc i (by omega), List.getElem?_take, if_pos (by omega)]
theorem Row.drop {w : World} {b off : Nat} {zs : List Int} (h : Row w (some ⟨b, off, none⟩) zs) (k : Nat) : Row w (some ⟨b, off + k, none⟩) (zs.drop k) := by
  rcases h with rfl | ⟨b', off', e, hc⟩
  · exact .inl (by simp)
  · simp at e
    obtain ⟨rfl, rfl⟩ := e
    refine .inr ⟨b, off + k, rfl, fun i hi => ?_⟩
    rw [List.length_drop] at hi
    rw [Nat.add_assoc, hc (k + i) (by omega), List.getElem?_drop]
set_option maxHeartbeats 800000 in
theorem long_law (c n : Int) (w : World) (wc : (Lit.int .u8 c).wf = true) (wn : (Lit.int .u16 n).wf = true) :
    Calls Try.prog 8 #[.int .u8 c, .int .u16 n] w fun e w' => e = .returned (.bool true) ∧ Below w.heap.size w w' := by
  have hc := bounds_u8 wc
  have hn := bounds_u16 wn
  clear wc wn
  obtain ⟨m, rfl⟩ : ∃ m : Nat, n = (m : Int) := ⟨n.toNat, by omega⟩
  obtain ⟨i0, hi, hz0, hz1, hz2⟩ := info_parts Try.info5
  go_enter Try.func8, Try.ntmps8
  go_wp2_with fail
  refine (fixed_any _).mono ?_
  rintro e w1 ⟨rfl, hb1⟩
  go_wp2_with (at_make; refine wpList_make_full _ rfl _ _ 23 rfl w1.heap.size 5 i0 (.int .u8 0) 1 Try.underlying23 hi hz0 hz1 .i64 .i64 _ _ m rfl rfl rfl rfl ?b2 ?b3 ?b4 ?_)
  case b2 => rw [hz2]; omega
  case b3 => unfold maxLen; omega
  case b4 => exact Nat.le_refl _
  intro w2 hown hgrow
  rw [made_vals] at hown
  obtain ⟨gs, hsl0, hgs⟩ := Sl.of_owns hown
  have hbel0 : Below w.heap.size w w2 := hb1.trans (((Below.refl _ _).grown hgrow (Nat.le_refl _) (fun k hk => by cases hk)).mono hb1.size)
  have hg0 : ∀ k, gs = some k → w.heap.size ≤ k := fun k hk => Nat.le_trans hb1.size (hgs k hk)
  obtain ⟨g, hg⟩ : ∃ g, g = w1.heap.size := ⟨_, rfl⟩
  rw [← hg]
  rw [← hg] at hsl0
  have hgw : w.heap.size ≤ g := by rw [hg]; exact hb1.size
  have HS0 : Hid (Sl w2 5 (.slice (some ⟨g, 0, none⟩) m m) gs (vals (List.replicate m 0))) := hsl0
  clear hg hgrow hown hgs hb1 hz0 hz1 hz2 hi i0 hsl0
  go_wp2
  go_loopw [6, 15] (fun _ t wr => ∃ k : Nat, k ≤ m ∧ t = .int .i64 k ∧ Sl wr 5 (.slice (some ⟨g, 0, none⟩) m m) gs (vals (fillL c m k)) ∧ Below w.heap.size w wr) (fun _ t _ => m - (intOf t).toNat)
  case atStart => exact ⟨0, Nat.zero_le _, rfl, by rw [fillL_zero]; exact HS0.out, hbel0⟩
  case round =>
    clear HS0 hbel0
    obtain ⟨k, hk, rfl, hsl, hbel⟩ := hrel
    by_cases hlt : k < m
    · have hcell := hsl.cell k (by rw [vals_len, fillL_len _ _ _ hk]; exact hlt)
      rw [vals_at _ k (by rw [fillL_len _ _ _ hk]; exact hlt)] at hcell
      have hfr := hsl.frozen (0 + k)
      have HS : Hid (Sl (wr.setCell ⟨g, 0 + k, none⟩ (.int .u8 c)) 5 (.slice (some ⟨g, 0, none⟩) m m) gs (vals (fillL c m (k + 1)))) := by
        rw [← fillL_step c m k hlt, vals_set]; exact hsl.setAt k _
      have HB : Hid (Below w.heap.size w (wr.setCell ⟨g, 0 + k, none⟩ (.int .u8 c))) := hbel.setCell hgw _
      clear hsl hbel
      rw [Nat.zero_add] at hcell hfr HS HB
      go_wp2
      go_roundw
      case rel => exact ⟨k + 1, by omega, by go_num, HS.out, HB.out⟩
      case measure => simp [intOf]; omega
    · obtain rfl : k = m := by omega
      rw [fillL_full] at hsl
      have HR : Hid (Row wr (some ⟨g, 0, none⟩) (List.replicate k c)) := hsl.row rfl
      have hb : Bytes (List.replicate k c) := by intro z hz; rw [List.eq_of_mem_replicate hz]; omega
      have HB : Hid (Bytes (List.replicate k c)) := hb
      have HL : Hid ((List.replicate k c).length = k) := List.length_replicate
      obtain ⟨h, hh, hle⟩ : ∃ h : Nat, (k : Int) / 2 = (h : Int) ∧ h ≤ k ∧ (k = h → k = 0) := ⟨k / 2, by omega, by omega, by omega⟩
      have HX : Hid (adlM (adlM 1 ((List.replicate k c).take h)) ((List.replicate k c).drop h) = adlM 1 (List.replicate k c)) := by
        show _ = _
        rw [← adlM_append, List.take_append_drop]
      clear hb hsl
      generalize List.replicate k c = L at *
      obtain ⟨hle, hkh⟩ := hle
      by_cases hk0 : k = 0
      · subst hk0
        obtain rfl : h = 0 := by omega
        obtain rfl : L = [] := List.length_eq_zero_iff.1 HL.out
        clear hkh hh
        go_wp2_with fail
        refine (of_any _ 0 0 [] _ rfl (by omega) Bytes.nil (.inl rfl)).mono ?_
        rintro e w3 ⟨rfl, rfl⟩
        go_wp2_with fail
        go_quiet ((first | (go_at_call 13; exact Calls.quiet_of_same (rof_any _ 0 0 [] _ rfl (by omega) Bytes.nil (.inl rfl))) | (go_at_call 12; exact Calls.quiet_of_same (of_any _ 0 0 [] _ rfl (by omega) Bytes.nil (.inl rfl))) | (go_at_call 10; exact Calls.quiet_of_same (more_any _ _ 0 0 [] _ (u32_adl _ _) rfl (by omega) Bytes.nil (.inl rfl)))))
        go_wp2
        go_ret
        exact ⟨ret_bool (by decide), below_drewN hbel _⟩
      · have HD : Hid (∀ n, Row (wr.drewN n) (some ⟨g, 0, none⟩) L) := fun n => HR.out
        have HE : Hid (∀ n, Row (wr.drewN n) (some ⟨g, h, none⟩) (L.drop h)) := (by intro n; have := HR.out.drop h; rw [Nat.zero_add] at this; exact this : ∀ n, Row (wr.drewN n) (some ⟨g, h, none⟩) (L.drop h))
        have hlt2 : h < k := by omega
        have hw : IntKind.i64.wrap (h : Int) = h := by rw [IntKind.wrap_i64]; omega
        have hn1 : ¬ k = h := by omega
        have hn2 : (0 : Int) ≤ (h : Int) := by omega
        go_wp2_with fail
        refine (of_any _ k k L _ HL.out (by omega) HB.out HR.out).mono ?_
        rintro e w3 ⟨rfl, rfl⟩
        go_wp2_with fail
        go_quiet ((first | (go_at_call 13; exact Calls.quiet_of_same (rof_any _ k k L _ HL.out (by omega) HB.out (HD.out _))) | (go_at_call 12; exact Calls.quiet_of_same (of_any _ h k (L.take h) _ (by rw [List.length_take]; have := HL.out; omega) (by omega) (HB.out.take h) ((HD.out _).take h))) | (go_at_call 10; exact Calls.quiet_of_same (more_any _ _ (k - h) (k - h) (L.drop h) _ (u32_adl _ _) (by rw [List.length_drop]; have := HL.out; omega) (by omega) (HB.out.drop h) (HE.out _)))))
        rw [HX.out]
        go_wp2
        go_ret
        exact ⟨ret_bool (by simp), below_drewN hbel _⟩
end Go.Proofs.Ytmlondjkjdlcjaa
