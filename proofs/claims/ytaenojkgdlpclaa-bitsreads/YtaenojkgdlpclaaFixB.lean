import Derived.Test.YtaenojkgdlpclaaPut
namespace Go.Proofs.Ytaenojkgdlpclaa
open Go.RowKit

theorem conv_row {w : World} {a : Option Addr} {n c : Nat} {l : List Int} (hl : l.length = n) (hr : Row w a l) : (convert 31 9 (.slice a n c)).run Try.prog w = .ok (.string (strOfNums l)) w := by
  rcases hr with rfl | ⟨b, off, rfl, hc⟩
  · simp at hl
    subst hl
    cases a with
    | none => exact run_convert_bytes_nil w 31 5 Try.underlying31 Try.underlying5 0 c 9 Try.underlying9
    | some x =>
      rw [run_convert_bytes_string w 31 9 5 _ 0 c Try.underlying31 Try.underlying5 Try.underlying9, run_bytesToString w x 0 c [] (by simpa using run_loadCells_list (P := Try.prog) w x [] (fun j v hj => by simp at hj))]
      rfl
  · exact run_convert_bytes_arg w 31 5 Try.underlying31 Try.underlying5 b off n c l hl (fun i hi => by rw [hc i (by omega)]; simp) 9 Try.underlying9
set_option maxHeartbeats 800000 in
theorem same_any (a b : Option Addr) (n ca cb : Nat) (l : List Int) (w : World) (hl : l.length = n) (ra : Row w a l) (rb : Row w b l) :
    Calls Try.prog 19 #[.slice a n ca, .slice b n cb] w fun e w' => e = .returned (.bool true) ∧ w' = w := by
  have h1 := conv_row (c := ca) hl ra
  have h2 := conv_row (c := cb) hl rb
  clear ra rb hl
  generalize strOfNums l = s at *
  go_enter Try.func19, Try.ntmps19
  go_wp2
  go_ret
  exact ⟨rfl, rfl⟩

theorem WrZ.other {w w' : World} {r r' : Nat} {g g' : Option Nat} {zs : List Int} {gone : Nat} (h : WrZ w r g zs gone) (hf : Fr w w' r' g') (h1 : r ≠ r') (h2 : some r ≠ g') (h3 : g ≠ some r') (h4 : g = none ∨ g ≠ g') : WrZ w' r g zs gone := by
  refine h.same (hf.block r h.lt h1 h2) fun k hk => hf.block k (h.glt hk) (fun e => h3 (by rw [hk, e])) (fun e => ?_)
  rcases h4 with h4 | h4
  · rw [h4] at hk; cases hk
  · exact h4 (by rw [hk, e])
theorem Rd.below {S : Nat} {w w' : World} {r : Nat} {g : Option Nat} {zs : List Int} {gone : Nat} (h : Rd w r g zs gone) (hb : Below S w w') (hr : r < S) (hg : ∀ k, g = some k → k < S) : Rd w' r g zs gone :=
  h.same (hb.block _ hr) fun _ hk => hb.block _ (hg _ hk)
theorem bitz_nil : Bitz [] 0 0 := ⟨Bytes.nil, rfl, rfl, by decide⟩
theorem bitz_one {zs : List Int} (h : Bitz zs 13 4) : zs = [13] := by
  obtain ⟨_, hl, hv, _⟩ := h
  match zs, hl with
  | [z], _ => simp [litN] at hv; rw [hv]

theorem row_two (s : Nat) (w : World) (hs : s = w.heap.size) : Row (w.alloc (.cells #[.int .u8 6, .int .u8 1] 5)) (some ⟨s, 0, none⟩) [6, 1] := by
  subst hs
  refine .inr ⟨_, 0, rfl, fun i hi => ?_⟩
  rw [World.cell?_alloc_at _ _ _ _ rfl]
  match i, hi with
  | 0, _ => rfl
  | 1, _ => rfl
theorem row_one (s : Nat) (w : World) (hs : s = w.heap.size) : Row (w.alloc (.cells #[.int .u8 13] 5)) (some ⟨s, 0, none⟩) [13] := by
  subst hs
  refine .inr ⟨_, 0, rfl, fun i hi => ?_⟩
  rw [World.cell?_alloc_at _ _ _ _ rfl]
  match i, hi with
  | 0, _ => rfl
theorem bytes_two : Bytes [6, 1] := by intro z hz; simp at hz; omega
theorem fix_take (r : Nat) (g : Option Nat) (w : World) (h : Rd w r g [6, 1] 0) : Calls Try.prog 13 #[.pointer (some ⟨r, 0, none⟩), .int .i64 3] w fun e w' => TakePost w r g 6 [6, 1] 3 e w' :=
  take_yes r g [6, 1] 0 3 w h bytes_two (by decide) (by omega) (by omega) (by decide)
theorem fix_look (r : Nat) (g : Option Nat) (w : World) (h : Rd w r g [6, 1] 3) : Calls Try.prog 15 #[.pointer (some ⟨r, 0, none⟩), .int .i64 0] w fun e w' => e = .returned (.int .i64 0) ∧ ∃ n, w' = w.drewN n :=
  look_yes r g [6, 1] 3 0 w h bytes_two (by decide) (by omega) (by decide)
theorem fix_align (r : Nat) (g : Option Nat) (w : World) (h : Rd w r g [6, 1] 3) : Calls Try.prog 17 #[.pointer (some ⟨r, 0, none⟩)] w fun e w' => AlignPost w r g [1] 5 e w' :=
  align_yes r g [6, 1] 3 w h (by decide) (by omega) (by omega) (by decide)
theorem fix_have (r : Nat) (g : Option Nat) (w : World) (h : Rd w r g [1] 0) : Calls Try.prog 22 #[.pointer (some ⟨r, 0, none⟩)] w fun e w' => e = .returned (.int .i64 8) ∧ ∃ n, w' = w.drewN n :=
  have_any r g [1] 0 w h (by decide) (by omega)
theorem fix_put1 (r : Nat) (w : World) (h : WrZ w r none [] 0) : Calls Try.prog 26 #[.pointer (some ⟨r, 0, none⟩), .int .i64 5, .int .i64 3] w fun e w' => ∃ zs', Bitz zs' 5 3 ∧ WrPost w r none zs' 3 e w' :=
  put_yes r none [] 0 0 3 5 3 w h bitz_nil (by omega) (by omega) (by decide)
theorem fix_put2 (r : Nat) (g : Option Nat) (zs : List Int) (w : World) (h : WrZ w r g zs 3) (hz : Bitz zs 5 3) : Calls Try.prog 26 #[.pointer (some ⟨r, 0, none⟩), .int .i64 1, .int .i64 1] w fun e w' => ∃ zs', Bitz zs' 13 4 ∧ WrPost w r g zs' 4 e w' :=
  put_yes r g zs 5 3 1 1 1 w h hz (by omega) (by omega) (by decide)

set_option maxHeartbeats 1600000 in
theorem fixed_any (w : World) : Calls Try.prog 8 #[] w fun e w' => e = .returned (.bool true) ∧ Below w.heap.size w w' := by
  go_enter Try.func8, Try.ntmps8
  go_wp2_with fail
  refine (new_any _).mono ?_
  rintro e w1 ⟨r, rfl, hr, hrd, hb1⟩
  go_wp2_with fail
  refine (feed_any r none [] [6, 1] 0 _ 2 2 _ (hrd.old ((Below.refl _ _).alloc (Nat.le_refl _) _)) rfl (by intro h; cases h) (row_two _ _ rfl) (by decide)).mono ?_
  rintro e w2 ⟨rfl, g, hrd2, hg, hf2⟩
  have hB2 : Below w.heap.size w w2 := Fr.below (hb1.alloc (by have := hb1.size; omega) _) hf2 hr (by intro q hq; cases hq) (by have := hb1.size; simp; omega)
  have hgw : ∀ q, g = some q → w.heap.size ≤ q := by
    intro q hq
    rcases hg with h | ⟨k, h, hk⟩
    · rw [h] at hq; cases hq
    · rw [h] at hq; cases hq; have := hb1.size; simp at hk; omega
  clear hrd hf2 hg hb1
  go_wp2_with fail
  refine (fix_take r g _ hrd2).mono ?_
  rintro e w3 ⟨rfl, hrd3, hf3⟩
  have hB3 : Below w.heap.size w w3 := Fr.below hB2 hf3 hr hgw hB2.size
  clear hrd2 hf3 hB2
  go_wp2_with fail
  refine (newW_any _).mono ?_
  rintro e w4 ⟨x, rfl, hx, hwr, hb4⟩
  have hrd4 := hrd3.old hb4
  obtain ⟨S, hS⟩ : ∃ S, S = w3.heap.size := ⟨_, rfl⟩
  have hrS : r < S := by rw [hS]; exact hrd3.lt
  have hgS : ∀ k, g = some k → k < S := fun k hk => by rw [hS]; exact hrd3.glt hk
  rw [← hS] at hx hb4
  have hS4 : S ≤ w4.heap.size := by have := hb4.size; omega
  have hwS : w.heap.size ≤ S := by rw [hS]; exact hB3.size
  have hB4 : Below w.heap.size w w4 := hB3.trans (hb4.mono hwS)
  clear hS hrd3 hb4 hB3
  go_wp2_with fail
  refine (fix_put1 x _ hwr).mono ?_
  rintro e w5 ⟨z5, hz5, rfl, g5, hwr5, hg5, hf5⟩
  have hg5S : ∀ k, g5 = some k → S ≤ k := by
    intro k hk
    rcases hg5 with h | ⟨q, h, hq⟩
    · rw [h] at hk; cases hk
    · rw [h] at hk; cases hk; omega
  have hb5 : Below S w4 w5 := Fr.below (Below.refl _ _) hf5 hx (by intro q hq; cases hq) hS4
  have hS5 : S ≤ w5.heap.size := by have := hb5.size; omega
  have hrd5 := hrd4.below hb5 hrS hgS
  have hB5 := hB4.trans (hb5.mono hwS)
  clear hwr hg5 hf5 hrd4 hb5 hB4
  go_wp2_with fail
  refine (fix_put2 x g5 z5 _ hwr5 hz5).mono ?_
  rintro e w6 ⟨z6, hz6, rfl, g6, hwr6, hg6, hf6⟩
  obtain rfl := bitz_one hz6
  have hg6S : ∀ k, g6 = some k → S ≤ k := by
    intro k hk
    rcases hg6 with h | ⟨q, h, hq⟩
    · rw [h] at hk; exact hg5S k hk
    · rw [h] at hk; cases hk; omega
  have hb6 : Below S w5 w6 := Fr.below (Below.refl _ _) hf6 hx hg5S hS5
  have hS6 : S ≤ w6.heap.size := by have := hb6.size; omega
  have hrd6 := hrd5.below hb6 hrS hgS
  have hB6 := hB5.trans (hb6.mono hwS)
  clear hwr5 hg6 hf6 hrd5 hb6 hB5 hz5 hg5S
  go_wp2_with fail
  refine (fix_look r g _ hrd6).mono ?_
  rintro e w7 ⟨rfl, n7, rfl⟩
  go_wp2_with fail
  refine (fix_align r g _ (hrd6.drewN _)).mono ?_
  rintro e w8 ⟨rfl, hrd8, hf8⟩
  have hwr8 : WrZ w8 x g6 [13] 4 := (hwr6.same (w' := w6.drewN n7) rfl (fun _ _ => rfl)).other hf8 (by omega) (fun h => by have := hgS x h.symm; omega) (fun h => by have := hg6S r h; omega) (by
    cases g6 with
    | none => exact .inl rfl
    | some k => exact .inr (fun h => by have := hg6S k rfl; have := hgS k h.symm; omega))
  have hB8 : Below w.heap.size w w8 := Fr.below (w := w6.drewN n7) ⟨hB6.os, hB6.tape, hB6.output, hB6.size, hB6.block⟩ hf8 hr hgw hB6.size
  clear hrd6 hwr6 hf8 hB6
  go_wp2_with fail
  refine (fix_have r g _ hrd8).mono ?_
  rintro e w9 ⟨rfl, n9, rfl⟩
  have hwr9 : WrZ (w8.drewN n9) x g6 [13] 4 := hwr8.same rfl fun _ _ => rfl
  have hB9 : Below w.heap.size w (w8.drewN n9) := ⟨hB8.os, hB8.tape, hB8.output, hB8.size, hB8.block⟩
  clear hwr8 hB8 hrd8
  generalize w8.drewN n9 = wa at *
  go_wp2_with fail
  refine (lenW_any x g6 _ _ _ hwr9).mono ?_
  rintro e wb ⟨rfl, rfl⟩
  go_wp2_with fail
  refine (outW_any x g6 _ _ _ hwr9 (by decide)).mono ?_
  rintro e wc ⟨ac, cc, rfl, _, _, _, rc, bc⟩
  have hBc : Below w.heap.size w wc := hB9.trans (bc.mono hB9.size)
  clear hwr9 hB9 bc
  go_wp2_with fail
  refine (same_any ac _ 1 cc 1 [13] _ rfl (rc.old ((Below.refl _ _).alloc (Nat.le_refl _) _)) (row_one _ _ rfl)).mono ?_
  rintro e wd ⟨rfl, rfl⟩
  go_wp2
  go_ret
  exact ⟨rfl, hBc.alloc hBc.size _⟩
end Go.Proofs.Ytaenojkgdlpclaa
