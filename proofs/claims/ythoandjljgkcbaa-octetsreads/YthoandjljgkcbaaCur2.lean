import Derived.Test.YthoandjljgkcbaaCur
namespace Go.Proofs.Ythoandjljgkcbaa
open Go.RowKit

/-- What 'next' and 'number' come to: bytes that lie in memory, and the cursor behind them. -/
def NextPost (w : World) (c U : Nat) (l zs : List Int) (err : Int) (e : Ending) (w' : World) : Prop :=
  ∃ a cap, e = .returned (.slice a l.length cap) ∧ l.length ≤ cap ∧ cap ≤ maxLen ∧ (a = none → cap = 0) ∧ Row w' a l ∧ Cur w' c U zs err ∧ w.grownBy w' (some c)
def nextL (zs : List Int) (n : Int) : List Int := if zs.length < n then [] else zs.take n.toNat
def nextZ (zs : List Int) (err n : Int) : List Int := if zs.length < n then failZ zs err 2 else zs.drop n.toNat
def nextE (zs : List Int) (err n : Int) : Int := if zs.length < n then failE err 2 else err

theorem row_take {w : World} {b off : Nat} {zs : List Int} (h : ∀ i, i < zs.length → w.cell? ⟨b, off + i, none⟩ = some (.int .u8 (zs[i]?.getD 0))) (n : Nat) : Row w (some ⟨b, off, none⟩) (zs.take n) := by
  refine .inr ⟨b, off, rfl, fun i hi => ?_⟩
  rw [List.length_take] at hi
  have h1 : i < n := by omega
  rw [h i (by omega)]
  simp [h1]
theorem row_drop {w : World} {b off : Nat} {zs : List Int} (h : ∀ i, i < zs.length → w.cell? ⟨b, off + i, none⟩ = some (.int .u8 (zs[i]?.getD 0))) (n : Nat) (a : Option Addr) (ha : n < zs.length → a = some ⟨b, off + n, none⟩) : Row w a (zs.drop n) := by
  by_cases hn : n < zs.length
  · refine .inr ⟨b, off + n, ha hn, fun i hi => ?_⟩
    simp at hi
    rw [Nat.add_assoc, h (n + i) (by omega)]
    simp
  · exact .inl (List.drop_of_length_le (by omega))
theorem next_fin {w : World} {c U : Nat} {zs : List Int} {err : Int} {b off cap n : Nat} (HH : w.heap[c]? = some (.cells #[.slice (some ⟨b, off, none⟩) zs.length cap, .int .i64 err] 54 (0, 0)))
    (hr : ∀ i, i < zs.length → w.cell? ⟨b, off + i, none⟩ = some (.int .u8 (zs[i]?.getD 0))) (hnl : n ≤ zs.length) (hlc : zs.length ≤ cap) (hm : cap ≤ maxLen)
    (a2 : Option Addr) (m2 cap2 : Nat) (hmm : m2 = zs.length - n) (ha2 : n < zs.length → a2 = some ⟨b, off + n, none⟩) (hu : zs ≠ [] → b < U) (hub : ∀ x, a2 = some x → x.block = b) (hc2 : zs.length - n ≤ cap2) (hm2 : cap2 ≤ maxLen) :
    NextPost w c U (zs.take n) (zs.drop n) err (.returned (.slice (some ⟨b, off, none⟩) n cap)) (w.setCell ⟨c, 0, none⟩ (.slice a2 m2 cap2)) := by
  subst hmm
  have hg := grownBy_set w c 0 (.slice a2 (zs.length - n) cap2)
  have R1 := row_take hr n
  have R2 := row_drop hr n a2 ha2
  have hlen : (zs.take n).length = n := by simp; omega
  refine ⟨some ⟨b, off, none⟩, cap, by rw [hlen], by omega, hm, (by intro h; cases h), R1.grown hg (R1.ne HH), ⟨a2, cap2, ?_, by simpa using hc2, hm2, R2.grown hg (R2.ne HH), fun x hx hz => by rw [hub x hx]; exact hu (fun h => hz (by rw [h]; simp))⟩, hg⟩
  rw [List.length_drop]
  exact two_set0 HH

set_option maxHeartbeats 800000 in
theorem next_any (c U : Nat) (zs : List Int) (err n : Int) (w : World) (h : Cur w c U zs err) (hn : 0 ≤ n) :
    Calls Try.prog 38 #[.pointer (some ⟨c, 0, none⟩), .int .i64 n] w fun e w' => NextPost w c U (nextL zs n) (nextZ zs err n) (nextE zs err n) e w' := by
  have E := left_any c U zs err w h
  have HC : Hid (Cur w c U zs err) := h
  have F := fail_any c U zs err 2 w h
  clear h
  by_cases h1 : (zs.length : Int) < n
  · have e1 : nextL zs n = [] := if_pos h1
    have e2 : nextZ zs err n = failZ zs err 2 := if_pos h1
    have e3 : nextE zs err n = failE err 2 := if_pos h1
    rw [e1, e2, e3]
    clear e1 e2 e3
    go_enter Try.func38, Try.ntmps38
    go_wp2_with (first | (go_at_call 29; refine E.mono ?_; rintro e w' ⟨rfl, rfl⟩; clear E) | (go_at_call 26; refine F.mono ?_; rintro e w' ⟨rfl, hc, hg⟩))
    go_ret
    unfold NextPost
    exact ⟨none, 0, rfl, Nat.le_refl _, by unfold maxLen; omega, fun _ => rfl, .inl rfl, hc, hg⟩
  · have e1 : nextL zs n = zs.take n.toNat := if_neg h1
    have e2 : nextZ zs err n = zs.drop n.toNat := if_neg h1
    have e3 : nextE zs err n = err := if_neg h1
    rw [e1, e2, e3]
    clear e1 e2 e3 F
    obtain ⟨n, rfl⟩ := Int.eq_ofNat_of_zero_le hn
    rw [Int.toNat_natCast]
    by_cases h2 : n = 0
    · subst h2
      go_enter Try.func38, Try.ntmps38
      go_wp2_with (go_at_call 29; refine E.mono ?_; rintro e w' ⟨rfl, rfl⟩; clear E)
      go_ret
      exact (show NextPost _ _ _ _ _ _ _ _ by unfold NextPost; exact ⟨none, 0, rfl, Nat.le_refl _, by unfold maxLen; omega, fun _ => rfl, .inl rfl, HC.out, grownBy_refl _ _⟩)
    · obtain ⟨a, cap, hh, g1, g2, hr, hu⟩ := HC.out
      obtain ⟨q0, q1, f0, f1⟩ := two_cells hh
      have HH : Hid _ := hh
      have h3 : ((n : Int) == 0) = false := by simp; omega
      have HL : Hid (n ≤ zs.length) := (by omega : n ≤ zs.length)
      rcases hr with h | ⟨b, off, rfl, hrow⟩
      · rw [h] at h1; simp at h1; omega
      · have HO : Hid _ := hrow
        have HU : Hid (zs ≠ [] → b < U) := hu _ rfl
        clear hu
        have hnc : n ≤ cap := by omega
        have hn0 : 0 < n := by omega
        unfold maxLen at g2
        clear hh hrow h2
        by_cases hcn : cap = n
        · subst hcn
          go_enter Try.func38, Try.ntmps38
          go_wp2_with (go_at_call 29; refine E.mono ?_; rintro e w' ⟨rfl, rfl⟩; clear E)
          go_ret
          refine next_fin HH.out HO.out HL.out g1 (by unfold maxLen; exact g2) _ _ _ (by omega) ?_ HU.out (by intro x hx; cases hx; rfl) ?_ ?_
          · intro h; exfalso; omega
          · omega
          · unfold maxLen; omega
        · go_enter Try.func38, Try.ntmps38
          go_wp2_with (go_at_call 29; refine E.mono ?_; rintro e w' ⟨rfl, rfl⟩; clear E)
          go_ret
          refine next_fin HH.out HO.out HL.out g1 (by unfold maxLen; exact g2) _ _ _ (by omega) ?_ HU.out (by intro x hx; cases hx; rfl) ?_ ?_
          · intro h; rfl
          · omega
          · unfold maxLen; omega

def numL (zs : List Int) (n : Int) : List Int := if n < 1 ∨ 4 < n then [] else nextL zs n
def numZ (zs : List Int) (err n : Int) : List Int := if n < 1 ∨ 4 < n then failZ zs err 1 else nextZ zs err n
def numE (zs : List Int) (err n : Int) : Int := if n < 1 ∨ 4 < n then failE err 1 else nextE zs err n
theorem numL_len (zs : List Int) (n : Int) : (numL zs n).length ≤ 4 := by
  unfold numL
  by_cases h : n < 1 ∨ 4 < n
  · rw [if_pos h]; simp
  · rw [if_neg h]; unfold nextL
    by_cases h2 : (zs.length : Int) < n
    · rw [if_pos h2]; simp
    · rw [if_neg h2]; simp; omega
theorem numL_bytes {zs : List Int} (hb : Bytes zs) (n : Int) : Bytes (numL zs n) := by
  unfold numL nextL
  split
  · exact Bytes.nil
  · split
    · exact Bytes.nil
    · exact hb.take _

set_option maxHeartbeats 800000 in
theorem number_cur (c U : Nat) (zs : List Int) (err n : Int) (w : World) (h : Cur w c U zs err) :
    Calls Try.prog 37 #[.pointer (some ⟨c, 0, none⟩), .int .i64 n] w fun e w' => NextPost w c U (numL zs n) (numZ zs err n) (numE zs err n) e w' := by
  have F := fail_any c U zs err 1 w h
  by_cases h1 : n < 1 ∨ 4 < n
  · have e1 : numL zs n = [] := if_pos h1
    have e2 : numZ zs err n = failZ zs err 1 := if_pos h1
    have e3 : numE zs err n = failE err 1 := if_pos h1
    rw [e1, e2, e3]
    clear e1 e2 e3 h
    by_cases h2 : n < 1
    · clear h1
      go_enter Try.func37, Try.ntmps37
      go_wp2_with (go_at_call 26; refine F.mono ?_; rintro e w' ⟨rfl, hc, hg⟩)
      go_ret
      unfold NextPost
      exact ⟨none, 0, rfl, Nat.le_refl _, by unfold maxLen; omega, fun _ => rfl, .inl rfl, hc, hg⟩
    · have h3 : 4 < n := by omega
      clear h1
      go_enter Try.func37, Try.ntmps37
      go_wp2_with (go_at_call 26; refine F.mono ?_; rintro e w' ⟨rfl, hc, hg⟩)
      go_ret
      unfold NextPost
      exact ⟨none, 0, rfl, Nat.le_refl _, by unfold maxLen; omega, fun _ => rfl, .inl rfl, hc, hg⟩
  · have e1 : numL zs n = nextL zs n := if_neg h1
    have e2 : numZ zs err n = nextZ zs err n := if_neg h1
    have e3 : numE zs err n = nextE zs err n := if_neg h1
    rw [e1, e2, e3]
    clear e1 e2 e3 F
    have E := next_any c U zs err n w h (by omega)
    have h2 : 1 ≤ n := by omega
    have h3 : n ≤ 4 := by omega
    clear h h1
    generalize nextL zs n = l at *
    generalize nextZ zs err n = z at *
    generalize nextE zs err n = r at *
    go_enter Try.func37, Try.ntmps37
    go_wp2_with (go_at_call 38; refine E.mono ?_; rintro e w' ⟨a, cap, rfl, g1, g2, g3, g4, g5, g6⟩; clear E)
    go_ret
    unfold NextPost
    exact ⟨a, cap, rfl, g1, g2, g3, g4, g5, g6⟩

/-- What reading a number comes to. -/
def NumPost (w : World) (c U : Nat) (v : Int) (zs : List Int) (err : Int) (e : Ending) (w' : World) : Prop :=
  e = .returned (.int .i64 v) ∧ Cur w' c U zs err ∧ w.grownBy w' (some c)

set_option maxHeartbeats 800000 in
theorem cbig_any (c U : Nat) (zs : List Int) (err n : Int) (w : World) (h : Cur w c U zs err) (hb : Bytes zs) :
    Calls Try.prog 20 #[.pointer (some ⟨c, 0, none⟩), .int .i64 n] w fun e w' => NumPost w c U (bigN (numL zs n)) (numZ zs err n) (numE zs err n) e w' := by
  have E := number_cur c U zs err n w h
  have HB : Hid (Bytes (numL zs n) ∧ (numL zs n).length ≤ 4) := ⟨numL_bytes hb n, numL_len zs n⟩
  clear h hb
  generalize numL zs n = l at *
  generalize numZ zs err n = z at *
  generalize numE zs err n = r at *
  go_enter Try.func20, Try.ntmps20
  go_wp2_with fail
  refine E.mono ?_
  rintro e w' ⟨a, cap, rfl, g1, g2, g3, g4, g5, g6⟩
  go_wp2_with fail
  refine (big_any a l.length cap l _ rfl HB.out.2 HB.out.1 g4).mono ?_
  rintro e w1 ⟨rfl, rfl⟩
  go_wp2
  go_ret
  exact ⟨rfl, g5, g6⟩

set_option maxHeartbeats 800000 in
theorem clittle_any (c U : Nat) (zs : List Int) (err n : Int) (w : World) (h : Cur w c U zs err) (hb : Bytes zs) :
    Calls Try.prog 22 #[.pointer (some ⟨c, 0, none⟩), .int .i64 n] w fun e w' => NumPost w c U (litN (numL zs n)) (numZ zs err n) (numE zs err n) e w' := by
  have E := number_cur c U zs err n w h
  have HB : Hid (Bytes (numL zs n) ∧ (numL zs n).length ≤ 4) := ⟨numL_bytes hb n, numL_len zs n⟩
  clear h hb
  generalize numL zs n = l at *
  generalize numZ zs err n = z at *
  generalize numE zs err n = r at *
  go_enter Try.func22, Try.ntmps22
  go_wp2_with fail
  refine E.mono ?_
  rintro e w' ⟨a, cap, rfl, g1, g2, g3, g4, g5, g6⟩
  go_wp2_with fail
  refine (little_any a l.length cap l _ rfl HB.out.2 HB.out.1 g4).mono ?_
  rintro e w1 ⟨rfl, rfl⟩
  go_wp2
  go_ret
  exact ⟨rfl, g5, g6⟩
end Go.Proofs.Ythoandjljgkcbaa
