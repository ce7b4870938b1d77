/- The laws ScreenBack and ScreenCuts, walked. -/
import Derived.Test.YtaodhifkbfninaaDoorScO
import Derived.Test.YtaodhifkbfninaaDoorScQ
import Derived.Test.YtaodhifkbfninaaDoorArgB
namespace Go.Proofs.YtaodhifkbfninaaDoor
open Go.RowKit
/-- What is known of a screen that came in. -/
def ScIn (w : World) (ta : Option Addr) (tn tc : Nat) : Prop := ∃ T : List Int, Bytes T ∧ T.length = 3 * tn ∧ tn ≤ tc ∧ Row w ta T
theorem wrE_ok {W H C B : Int} {tn : Nat} (h : wrE W H tn C B = 0) : picN W H ∧ tbOk tn ∧ (-1 ≤ C ∧ C ≤ 255) ∧ 2 ≤ B ∧ B ≤ 8 := by
  unfold wrE at h
  by_cases h1 : picN W H
  · rw [if_pos h1] at h
    by_cases h2 : tbOk tn
    · rw [if_pos h2] at h
      by_cases h3 : (-1 ≤ C ∧ C ≤ 255) ∧ 2 ≤ B ∧ B ≤ 8
      · exact ⟨h1, h2, h3⟩
      · rw [if_neg h3] at h; omega
    · rw [if_neg h2] at h; omega
  · rw [if_neg h1] at h; omega
theorem wrL_len {W H C B : Int} {T : List Int} {Lo La : Bool} {k : Nat} (hT : T.length ≤ 768) : (wrL W H T Lo C La B k).length ≤ 2000 ∧ 1 ≤ (wrL W H T Lo C La B k).length := by
  unfold wrL
  simp only [List.length_append, sdL, octs_len, nmB, List.length_cons, List.length_nil]
  constructor
  · have h1 : (if Lo = true then ([] : List Int) else T).length ≤ 768 := by cases Lo <;> simp <;> omega
    have h2 : (if Lo = true then T else []).length ≤ 768 := by cases Lo <;> simp <;> omega
    have h3 : (if C = -1 then ([] : List Int) else [33, 249, 4, 1, 0, 0, C, 0]).length ≤ 8 := by split <;> simp
    omega
  · omega
theorem oct_bytes (v : Int) (n : Nat) : Bytes (octs v n) := by
  intro z hz
  simp only [octs, List.mem_map, List.mem_range] at hz
  obtain ⟨i, _, rfl⟩ := hz
  exact oct_byte v i
theorem wrL_bytes {W H C B : Int} {T : List Int} {Lo La : Bool} {k : Nat} (hk : k < 8) (hT : Bytes T) (hC : -1 ≤ C ∧ C ≤ 255) (hB : 2 ≤ B ∧ B ≤ 8) : Bytes (wrL W H T Lo C La B k) := by
  have one : ∀ x : Int, 0 ≤ x → x ≤ 255 → Bytes [x] := fun x h0 h1 z hz => by simp at hz; omega
  have hsd : Bytes (sdL W H) := (oct_bytes W 2).append (oct_bytes H 2)
  have hsm : 0 ≤ smB Lo k ∧ smB Lo k ≤ 255 := by unfold smB; cases Lo <;> simp <;> omega
  have hpm : 0 ≤ pmB Lo La k ∧ pmB Lo La k ≤ 255 := by unfold pmB; cases Lo <;> cases La <;> simp <;> omega
  have h3 : Bytes [smB Lo k, 0, 0] := fun z hz => by simp at hz; omega
  have h8 : Bytes (if C = -1 then [] else [33, 249, 4, 1, 0, 0, C, 0]) := by
    split
    · exact Bytes.nil
    · intro z hz; simp at hz; omega
  have ht1 : Bytes (if Lo = true then [] else T) := by cases Lo; exact hT; exact Bytes.nil
  have ht2 : Bytes (if Lo = true then T else []) := by cases Lo; exact Bytes.nil; exact hT
  unfold wrL
  exact (((((((((bytes_lit nmB (by decide)).append hsd).append h3).append ht1).append h8).append (bytes_lit [44, 0, 0, 0, 0] (by decide))).append hsd).append (one _ hpm.1 hpm.2)).append ht2).append (one B (by omega) (by omega))
set_option maxHeartbeats 3200000 in
set_option maxRecDepth 100000 in
theorem sback_walk (W H : Int) (ta : Option Addr) (tn tc : Nat) (Lo : Bool) (C : Int) (La : Bool) (B : Int) (am : Option Addr) (nm cm : Nat) (w : World) (ht : TabD w) (hs : ScIn w ta tn tc) (ha : BArg w am nm cm) :
    Calls Tryd.prog 6 #[ScV W H (.slice ta tn tc) Lo C La B, .slice am nm cm] w fun e w' => e = .returned (.bool true) ∧ Below w.heap.size w w' := by
  obtain ⟨T, hTb, hTl, hTc, hTr⟩ := hs
  obtain ⟨ms, mb, ml, mc, mcap, mnil, mr⟩ := ha
  have HX : Hid (TabD w ∧ Bytes T ∧ T.length = 3 * tn ∧ tn ≤ tc ∧ Row w ta T ∧ Bytes ms ∧ ms.length = nm ∧ nm ≤ cm ∧ cm ≤ 140737488351232 ∧ (am = none → cm = 0) ∧ Row w am ms) := ⟨ht, hTb, hTl, hTc, hTr, mb, ml, mc, mcap, mnil, mr⟩
  have HQ0 : Hid (Qs w W H (.slice ta tn tc) Lo C La B _) := Qs.box w W H (.slice ta tn tc) Lo C La B
  have CF := sfixed_any _ (ht.old HQ0.out.1)
  clear ht hTb hTl hTc hTr mb ml mcap mr
  unfold ScV
  go_enter Tryd.func6, Tryd.ntmps6
  go_wp2_with fail
  refine CF.mono ?_
  clear CF
  rintro e w1 ⟨rfl, hb1⟩
  have HQ1 : Hid (Qs w W H (.slice ta tn tc) Lo C La B w1) := HQ0.out.old hb1
  clear hb1 HQ0
  obtain ⟨z0, z1, z2, z3, z4, z5, z6, -⟩ := HQ1.out.2.cells
  by_cases he : wrE W H tn C B = 0
  · obtain ⟨hp, ⟨k, hk, hkn⟩, hC, hB⟩ := wrE_ok he
    have htn2 : tn ≤ 256 := (tbOk_bd ⟨k, hk, hkn⟩).2
    have CW := write_yes W H ta tn tc Lo C La B T k w1 (HX.out.1.old HQ1.out.1) hk hkn he HX.out.2.2.1 HX.out.2.2.2.1 (HX.out.2.2.2.2.1.old HQ1.out.1)
    have hTk : T.length = 3 * 2 ^ (k + 1) := by rw [HX.out.2.2.1, hkn]
    have HG : Hid (gAll (wrL W H T Lo C La B k ++ ms) = .ok (⟨W, H, T, Lo, C, La, B⟩, ms) ∧ Bytes (wrL W H T Lo C La B k) ∧ (wrL W H T Lo C La B k).length ≤ 2000 ∧ tn ≤ 256) := ⟨back_any hp hk hTk hB, wrL_bytes hk HX.out.2.1 hC hB, (wrL_len (by have := HX.out.2.2.1; omega)).1, htn2⟩
    generalize wrL W H T Lo C La B k = L at *
    unfold ScV at CW
    clear hp hk hkn hC hB htn2 hTk he
    go_wp2_with fail
    refine CW.mono ?_
    clear CW z0 z1 z2 z3 z4 z5 z6
    rintro e w2 ⟨a2, c2, g2, rfl, hs2, hg2, hb2⟩
    have HQ2 : Hid (Qs w W H (.slice ta tn tc) Lo C La B w2) := HQ1.out.old hb2
    have HR2 : Hid (Row w2 a2 L ∧ (a2 = none → c2 = 0)) := ⟨hs2.row rfl, by
      obtain ⟨a', c', hv, _, _, h3⟩ := hs2.shape
      simp only [Value.slice.injEq] at hv
      intro h; rw [hv.2.2]; exact h3 (by rw [← hv.1]; exact h)⟩
    clear hs2 hg2 hb2 HQ1
    obtain ⟨LL, hLL⟩ : ∃ LL, L.length = LL := ⟨_, rfl⟩
    have HLL : Hid (L.length = LL ∧ LL ≤ 2000) := ⟨hLL, by rw [← hLL]; exact HG.out.2.2.1⟩
    rw [hLL]
    clear hLL
    go_wp2_with (first
      | (have q := hs4; clear q; at_builtin; refine wpList_moreX rfl _ _ rfl (.slice a4 n4 c4) g4 L rfl hs4 am nm cm ms rfl HX.out.2.2.2.2.2.2.2.2.2.1 HX.out.2.2.2.2.2.2.1 ((HX.out.2.2.2.2.2.2.2.2.2.2.old HQ2.out.1).old hb4) (by have := HLL.out; have := HX.out.2.2.2.2.2.2.2.1; have := HX.out.2.2.2.2.2.2.2.2.1; omega) ?_; intro v5 w5 g5 hs5 hg5 hgr5; obtain ⟨a5, c5, hv5, -, -, hn5⟩ := hs5.shape; obtain ⟨n5, hn5e⟩ : ∃ n5, (vals (L ++ ms)).length = n5 := ⟨_, rfl⟩; rw [hn5e] at hv5; have HN5 : Hid ((L ++ ms).length = n5) := (by rw [← hn5e, vals_len] : (L ++ ms).length = n5); clear hn5e; subst hv5; have hb5 : Below w2.heap.size w2 w5 := hb4.grown hgr5 hb4.size (fun k hk => by rcases hg4 with e | ⟨q, e, hq⟩; (rw [e] at hk; cases hk; exact Nat.le_refl _); (rw [e] at hk; cases hk; simp at hq; omega)))
      | (at_builtin; refine wpList_moreX rfl _ _ rfl (.slice (some ⟨w2.heap.size, 0, none⟩) 0 0) (some w2.heap.size) [] rfl (Sl.empty w2 5) a2 LL c2 L rfl HR2.out.2 HLL.out.1 (HR2.out.1.alloc _) (by have := HLL.out; simp; omega) ?_; intro v4 w4 g4 hs4 hg4 hgr4; rw [List.nil_append] at hs4; obtain ⟨a4, c4, hv4, -⟩ := hs4.shape; obtain ⟨n4, hn4⟩ : ∃ n4, (vals L).length = n4 := ⟨_, rfl⟩; rw [hn4] at hv4; clear hn4; subst hv4; have hb4 : Below w2.heap.size w2 w4 := ((Below.refl _ w2).alloc (Nat.le_refl _) _).grown hgr4 (by simp) (fun k hk => by cases hk; exact Nat.le_refl _))
      | fail)
    have HR5 : Hid (Row w5 a5 (L ++ ms) ∧ Below w2.heap.size w2 w5) := ⟨hs5.row rfl, hb5⟩
    have CR := sRead_any a5 n5 c5 (L ++ ms) w5 HN5.out hn5 (by rw [← HN5.out, List.length_append]; have := HLL.out; have := HX.out.2.2.2.2.2.2.1; have := HX.out.2.2.2.2.2.2.2.1; have := HX.out.2.2.2.2.2.2.2.2.1; omega) (HG.out.2.1.append HX.out.2.2.2.2.2.1) HR5.out.1
    clear hs4 hg4 hgr4 hb4 hs5 hg5 hgr5 hb5
    refine CR.mono ?_
    clear CR
    rintro e w6 (⟨s, r, tv, hg, -, rfl, htj, hb6⟩ | ⟨E, hE, -⟩)
    rotate_left
    · rw [HG.out.1] at hE; cases hE
    rw [HG.out.1] at hg
    simp only [Except.ok.injEq, Prod.mk.injEq] at hg
    obtain ⟨rfl, rfl⟩ := hg
    have hnn : ((L ++ ms).length : Int) - (ms.length : Int) = (LL : Int) := by rw [List.length_append, HLL.out.1]; omega
    rw [hnn]
    unfold ScV
    simp only
    have HQ6 : Hid (Qs w W H (.slice ta tn tc) Lo C La B w6) := (HQ2.out.old HR5.out.2).old hb6
    obtain ⟨tx, nx, cx, htv, hx3, hxc, -, hxr⟩ := htj
    subst htv
    obtain rfl : nx = tn := by have := HX.out.2.2.1; simp only at hx3; omega
    have HRx : Hid (Row w6 tx T) := hxr
    clear hx3 hxc hxr hb6 hnn
    obtain ⟨w7, hw7⟩ : ∃ w7, w7 = w6.alloc (.cells #[.int .i64 W, .int .i64 H, .slice tx nx cx, .bool Lo, .int .i64 C, .bool La, .int .i64 B] 26) := ⟨_, rfl⟩
    have hb7 : Below w6.heap.size w6 w7 := by rw [hw7]; exact (Below.refl _ _).alloc (Nat.le_refl _) _
    have HQ7 : Hid (Qs w W H (.slice ta nx tc) Lo C La B w7) := HQ6.out.old hb7
    have CSm := same17_any W H ta nx tc Lo C La B tx cx T w7 HX.out.2.2.1 HG.out.2.2.2 (HX.out.2.2.2.2.1.old HQ7.out.1) (HRx.out.old hb7)
    unfold ScV at CSm
    have hsc7 : SC w7 w6.heap.size W H (.slice tx nx cx) Lo C La B := by unfold SC; rw [hw7]; exact World.alloc_heap_new w6 _
    obtain ⟨z0, z1, z2, z3, z4, z5, z6, -⟩ := HQ7.out.2.cells
    obtain ⟨y0, y1, y2, y3, y4, y5, y6, -⟩ := hsc7.cells
    clear hsc7 hb7 HRx HQ6
    go_upto_region 7 with fail
    rw [← hw7]
    clear hw7
    go_wp2_with (go_at_call 11; refine CSm.mono ?_; rintro e w8 ⟨rfl, hb8⟩; clear CSm)
    go_ret
    exact ⟨rfl, (HQ7.out.old hb8).1⟩
  · have CW := write_no W H ta tn tc Lo C La B w1 he
    have q1 : (wrE W H tn C B != 0) = true := by simpa using he
    have q2 : (wrE W H tn C B == 0) = false := by simpa using he
    generalize wrE W H tn C B = E at *
    unfold ScV at CW
    clear he
    go_wp2_with fail
    refine CW.mono ?_
    clear CW
    rintro e w2 ⟨rfl, hb2⟩
    have HQ2 : Hid (Qs w W H (.slice ta tn tc) Lo C La B w2) := HQ1.out.old hb2
    clear hb2
    go_wp2
    go_ret
    exact ⟨rfl, HQ2.out.1⟩
end Go.Proofs.YtaodhifkbfninaaDoor
