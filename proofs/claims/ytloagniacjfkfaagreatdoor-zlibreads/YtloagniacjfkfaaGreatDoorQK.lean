/- Joined: Iu Iv Ix. -/
import Derived.Test.YtloagniacjfkfaaGreatDoorQJ
import Derived.Test.YtloagniacjfkfaaGreatDoorQH
import Derived.Test.YtloagniacjfkfaaGreatDoorQI
/- Words of the lengths' code. -/
namespace Go.Proofs.YtloagniacjfkfaaGreatDoor
open Go.RowKit
section
variable {w : World} {d lim n0 : Nat} {s : St} {L : List Int} {a : Nat} {o : Ow} {V : Vs}
theorem lengL_n {s s2 : St} {v t n k : Nat} (h : lengL s v t n = .ok s2 k) (hnow : s.now = 5) : k = n ∧ s2.now ≠ 1 ∧ s2.now ≠ 11 := by
  unfold lengL at h
  split at h
  · cases h
  · split at h
    · simp only [Rs.ok.injEq] at h
      obtain ⟨rfl, rfl⟩ := h
      exact ⟨rfl, by simp only; omega, by simp only; omega⟩
    · unfold endL at h
      split at h
      · cases h
      · simp only [Rs.ok.injEq] at h
        obtain ⟨rfl, rfl⟩ := h
        exact ⟨rfl, by simp, by simp⟩
theorem ItPost.leng {w w2 w' : World} {s s5 : St} {o o2 : Ow} {v t n : Nat} {e : Ending} (hs : Step w w2 d o o2) (h : LgPost w2 d lim n0 L (a + n) o2 (lengL s5 v t n) e w') (hnow : s5.now = 5) : ItPost w d lim n0 s L a o (lengL s5 v t n) e w' := by
  cases hr : lengL s5 v t n with
  | short => rw [hr] at h; exact h.elim
  | bad er out =>
    rw [hr] at h
    obtain ⟨h1, h2, h3, s', a', o3, V3, h4, h5, h6, h7⟩ := h
    exact ⟨h1, h2, h3, s', a', o3, V3, h4, h5, h6, hs.trans h7⟩
  | ok s2 k =>
    rw [hr] at h
    obtain ⟨h1, o3, V3, h4, h7⟩ := h
    obtain ⟨rfl, e1, e2⟩ := lengL_n hr hnow
    exact ⟨h1, o3, V3, AtS.of h4 e1 e2, hs.trans h7⟩
theorem LgPost.ret {w w' : World} {o : Ow} {r : Rs} {e : Ending} (h : LgPost w d lim n0 L a o r e w') : ∃ x : Int, e = .returned (.int .i64 x) := by
  cases r with
  | short => exact h.elim
  | bad er out => exact ⟨_, h.1⟩
  | ok s2 k => exact ⟨_, h.1⟩
set_option maxHeartbeats 1600000 in
set_option maxRecDepth 20000 in
theorem readAgain_any (h : Live w d lim n0 s L a o V) (hnow : s.now = 6) (hnb : s.nb ≤ 7) (hle1 : 1 ≤ s.least) (hle : s.least ≤ 11) (hag : s.again ≤ 15) (hlen : s.row.length < s.all) (hl1 : 257 ≤ s.lits) (hl2 : s.lits ≤ 286) (hl3 : s.lits < s.all) (hl4 : s.all ≤ s.lits + 30) (h15 : ∀ x ∈ s.row, x ≤ 15) :
    Calls Tryz.prog 114 #[.pointer (some ⟨d, 0, none⟩)] w fun e w' => ItPost w d lim n0 s L a o (itAgain s (L.drop a)) e w' := by
  have hle2 := h.ale
  by_cases hl : L.length < a + s.nb
  · have e1 : itAgain s (L.drop a) = .short := by unfold itAgain; rw [if_pos (by rw [List.length_drop]; omega)]
    rw [e1]
    have HT := takeN_no h hl (by omega)
    clear e1
    go_enter Tryz.func114, Tryz.ntmps114
    go_wp2_with fail
    refine HT.mono ?_
    rintro e w2 ⟨rfl, hl2, hs2⟩
    go_wp2
    go_ret
    exact ⟨rfl, o, V, LiveA.of hl2 (by omega), hs2⟩
  · have e1 : itAgain s (L.drop a) = lengL { s with now := 5 } s.again (s.least + bV (L.drop a) 0 s.nb) s.nb := by unfold itAgain; rw [if_neg (by rw [List.length_drop]; omega)]
    rw [e1]
    have HT := takeN_yes h (by omega) (by omega) (by omega)
    have hb := bV_small (h.bit.drop a) 0 s.nb
    have hP : (2 : Nat) ^ s.nb ≤ 2 ^ 7 := Nat.pow_le_pow_right (by omega) hnb
    clear e1 h
    obtain ⟨X, hX⟩ : ∃ X, s.least + bV (L.drop a) 0 s.nb = X := ⟨_, rfl⟩
    have hX1 : 1 ≤ X := by omega
    have hX2 : X ≤ 1000 := by omega
    rw [hX] at HT ⊢
    have H15 : Hid (∀ x ∈ s.row, x ≤ 15) := h15
    clear hX hP hb h15
    go_enter Tryz.func114, Tryz.ntmps114
    go_wp2_with fail
    refine HT.mono ?_
    rintro e w2 ⟨rfl, l2, s2⟩
    obtain ⟨g, zs, gone, hd⟩ := l2.dk
    have k2 := hd.k2
    have k3 : w2.cell? ⟨d, 32783, none⟩ = some (.int .i64 s.again) := hd.again
    have fz := hd.fz
    obtain ⟨l3, s3⟩ := l2.fld (s' := { s with now := 5 }) (fun zs gone hk => hk.s_now 5) ((Fr.refl _ _ _).snoc _ _) rfl rfl rfl rfl rfl
    have HLG := lengthen_any s.again X s.nb l3 rfl hlen hX1 hX2 hag hl1 hl2 hl3 hl4 H15.out
    have HS : Hid (Step w (w2.setCell ⟨d, 2, none⟩ (.int .i64 5)) d o o) := s2.trans s3
    clear hd l2 s2 l3 s3 HT
    go_wp2_with fail
    refine HLG.mono ?_
    intro e w4 hq
    obtain ⟨x, hx⟩ := hq.ret
    subst hx
    have HP : Hid (ItPost w d lim n0 s L a o (lengL { s with now := 5 } s.again X s.nb) (.returned (.int .i64 x)) w4) := ItPost.leng HS.out hq rfl
    clear hq HLG HS
    go_wp2
    go_ret
    exact HP.out
theorem nxL_sym (ns : List Nat) (l : List Int) (h : (nxL ns l).2.1 = 0) : (nxL ns l).1 < (ns.length : Int) := by
  unfold nxL at h ⊢
  have : ∀ f k, (nxt ns (fun i => (l[i]?.getD 0).toNat) l.length f k).2.1 = 0 → (nxt ns (fun i => (l[i]?.getD 0).toNat) l.length f k).1 < (ns.length : Int) := by
    intro f
    induction f with
    | zero => intro k h; exact absurd h (by simp [nxt])
    | succ f ih =>
      intro k
      rw [nxt]
      split
      · intro h; exact absurd h (by decide)
      · split
        · exact ih _
        · cases hx : wdF ns ns.length (k + 1) (pv (fun i => (l[i]?.getD 0).toNat) (k + 1)) with
          | none => intro h; exact absurd h (by simp)
          | some t =>
            intro _
            unfold wdF at hx
            cases hy : (List.range ns.length).find? (wdP ns (k + 1) (pv (fun i => (l[i]?.getD 0).toNat) (k + 1))) with
            | none => rw [hy] at hx; cases hx
            | some u =>
              rw [hy] at hx
              have hx : (u : Int) = t := Option.some.inj hx
              have h2 := List.mem_of_find?_eq_some hy
              simp only
              rw [← hx]
              have : u < ns.length := by simpa using h2
              omega
  exact this 15 0 h
set_option maxHeartbeats 3200000 in
set_option maxRecDepth 20000 in
theorem readLens_any (ns : List Nat) (h : Live w d lim n0 s L a o V) (hnow : s.now = 5) (hlc : s.lc = some ns) (h19 : ns.length = 19) (hlen : s.row.length < s.all) (hl1 : 257 ≤ s.lits) (hl2 : s.lits ≤ 286) (hl3 : s.lits < s.all) (hl4 : s.all ≤ s.lits + 30) (h15 : ∀ x ∈ s.row, x ≤ 15) :
    Calls Tryz.prog 113 #[.pointer (some ⟨d, 0, none⟩)] w fun e w' => ItPost w d lim n0 s L a o (itLens s (L.drop a)) e w' := by
  have hp := h.2.1.code
  rw [hlc] at hp
  obtain ⟨c, hc, hca, hcd⟩ := hp
  have HC : Hid (V.code = .pointer (some ⟨c, 0, none⟩)) := hc
  have HT : Hid (∀ n, Calls Tryz.prog 130 #[.pointer (some ⟨c, 0, none⟩), .pointer (some ⟨d, 0, none⟩)] (w.drewN n) fun e w' => RdPost (w.drewN n) d lim n0 s L o V (.tuple #[.int .i64 (nxL ns (L.drop a)).1, .int .i64 (nxL ns (L.drop a)).2.1]) (a + (nxL ns (L.drop a)).2.2) e w') := fun n => live_next c ns (h.drewN n) (hca.old ⟨rfl, rfl, rfl, Nat.le_refl _, fun _ _ => rfl⟩) hcd
  obtain ⟨g, zs, gone, hd⟩ := h.dk
  have kc : w.cell? ⟨d, 32781, none⟩ = some (.pointer (some ⟨c, 0, none⟩)) := by rw [← hc]; exact hd.code
  have HO : Hid (itLens s (L.drop a) = if (nxL ns (L.drop a)).2.1 = 2 then .short else if (nxL ns (L.drop a)).2.1 ≠ 0 then .bad (nxL ns (L.drop a)).2.1 s.out else if (nxL ns (L.drop a)).1 = 16 then (if s.row = [] then .bad 5 s.out else .ok { s with again := s.row[s.row.length - 1]?.getD 0, least := 3, nb := 2, now := 6 } (nxL ns (L.drop a)).2.2) else if (nxL ns (L.drop a)).1 = 17 then .ok { s with again := 0, least := 3, nb := 3, now := 6 } (nxL ns (L.drop a)).2.2 else if (nxL ns (L.drop a)).1 = 18 then .ok { s with again := 0, least := 11, nb := 7, now := 6 } (nxL ns (L.drop a)).2.2 else lengL { s with again := 0, now := 5 } (nxL ns (L.drop a)).1.toNat 1 (nxL ns (L.drop a)).2.2) := by
    show _ = _
    unfold itLens
    rw [hlc]
    rfl
  have hnn : 0 ≤ (nxL ns (L.drop a)).1 := nxt_nonneg ns _ _ 15 0
  have hn2 := nxL_stay ns (L.drop a)
  have hn3 := nxL_sym ns (L.drop a)
  rw [h19] at hn3
  have H15 : Hid (∀ x ∈ s.row, x ≤ 15) := h15
  clear hd h hc hca hcd hlc h15 h19
  generalize nxL ns (L.drop a) = X at *
  obtain ⟨sym, er, m⟩ := X
  simp only at HO HT hnn hn2 hn3
  go_enter Tryz.func113, Tryz.ntmps113
  go_wp2
  go_region_held3 (fun W => W.cell? ⟨d, 32781, none⟩ = some (.pointer (some ⟨c, 0, none⟩))) (go_keep) (first
    | (go_at_call 130; refine Calls.mono (HT.out 1) ?_; rintro e w2 ⟨rfl, hl2', hs2⟩; have kc2 : w2.cell? ⟨d, 32781, none⟩ = some (.pointer (some ⟨c, 0, none⟩)) := by obtain ⟨g', zs', gone', hd'⟩ := hl2'.dk; rw [← HC.out]; exact hd'.code)
    | fail)
  have HL : Hid (Live w2 d lim n0 s L (a + m) o V ∧ Step w w2 d o o) := ⟨hl2', hs2.of_drewN⟩
  clear kc kc2 HT hl2' hs2
  by_cases h0 : er = 0
  · subst h0
    have hn3 := hn3 rfl
    have HO2 : Hid (itLens s (L.drop a) = if sym = 16 then (if s.row = [] then .bad 5 s.out else .ok { s with again := s.row[s.row.length - 1]?.getD 0, least := 3, nb := 2, now := 6 } m) else if sym = 17 then .ok { s with again := 0, least := 3, nb := 3, now := 6 } m else if sym = 18 then .ok { s with again := 0, least := 11, nb := 7, now := 6 } m else lengL { s with again := 0, now := 5 } sym.toNat 1 m) := by
      show _ = _
      rw [HO.out, if_neg (by decide), if_neg (by decide)]
    clear HO hn2
    obtain ⟨g, zs, gone, hd⟩ := HL.out.1.dk
    have k2 := hd.k2
    have k3 := hd.again
    have k4 := hd.least
    have k5 := hd.nb
    have fz := hd.fz
    obtain ⟨av, cv, hvv, hc1, hc2, _⟩ := HL.out.1.2.1.row.shape
    rw [ivals_len, ints_len] at hvv hc1
    have q5 : w2.cell? ⟨d, 32782, none⟩ = some (.slice av s.row.length cv) := by rw [← hvv]; exact hd.row
    clear hd
    by_cases h16 : sym = 16
    · subst h16
      have HO3 : Hid (itLens s (L.drop a) = if s.row = [] then .bad 5 s.out else .ok { s with again := s.row[s.row.length - 1]?.getD 0, least := 3, nb := 2, now := 6 } m) := by show _ = _; rw [HO2.out, if_pos rfl]
      clear HO2
      by_cases hr : s.row = []
      · have hr0 : s.row.length = 0 := by rw [hr]; rfl
        rw [hr0] at q5
        have HP : Hid (ItPost w d lim n0 s L a o (itLens s (L.drop a)) (.returned (.int .i64 5)) ((w2.setCell ⟨d, 2, none⟩ (.int .i64 6)).setCell ⟨d, 32783, none⟩ (.int .i64 0))) := by
          show ItPost _ _ _ _ _ _ _ _ _ _ _
          obtain ⟨l4, s4⟩ := HL.out.1.fld (s' := { s with now := 6, again := 0 }) (fun zs gone hk => (hk.s_now 6).s_again 0) (((Fr.refl _ _ _).snoc _ _).snoc _ _) rfl rfl rfl rfl rfl
          rw [HO3.out, if_pos hr]
          exact ⟨rfl, by decide, by decide, _, _, o, V, l4, rfl, by simp, HL.out.2.trans s4⟩
        clear HO3 HL hvv hc1 hc2 hr hr0 hlen
        go_wp2
        go_ret
        exact HP.out
      · obtain ⟨N, hN⟩ : ∃ N, s.row.length = N + 1 := ⟨s.row.length - 1, by have : s.row.length ≠ 0 := fun e => hr (List.length_eq_zero_iff.1 e); omega⟩
        have hir := HL.out.1.2.1.row.irow hvv
        obtain ⟨b, off, rfl, hcx⟩ := hir.at N (by rw [ints_len]; omega)
        rw [ints_at] at hcx
        have hbd : b ≠ d := by
          obtain ⟨n1, _⟩ := HL.out.1.neq
          rcases HL.out.1.2.1.row with ⟨h, _⟩ | ⟨b', off', cap', cur, h, hq, _⟩
          · rw [hvv] at h; cases h
          · rw [hvv] at h
            simp only [Value.slice.injEq, Option.some.injEq, Addr.mk.injEq] at h
            have := (n1 b' hq).1
            rw [← h.1.1] at this
            exact this
        obtain ⟨Z, hZ⟩ : ∃ Z, hn s.row N = Z := ⟨_, rfl⟩
        rw [hZ] at hcx
        obtain ⟨l3, s3⟩ := HL.out.1.fld (s' := { s with now := 6, again := 0 }) (fun zs gone hk => (hk.s_now 6).s_again 0) (((Fr.refl _ _ _).snoc _ _).snoc _ _) rfl rfl rfl rfl rfl
        obtain ⟨g3, zs3, gone3, hd3⟩ := l3.dk
        have p3 := hd3.again
        have p4 := hd3.least
        have p5 := hd3.nb
        have pf := hd3.fz
        have pr : ((w2.setCell ⟨d, 2, none⟩ (.int .i64 6)).setCell ⟨d, 32783, none⟩ (.int .i64 0)).cell? ⟨d, 32782, none⟩ = some (.slice (some ⟨b, off, none⟩) (N + 1) cv) := by rw [← hN, ← hvv]; exact hd3.row
        have pe : ((w2.setCell ⟨d, 2, none⟩ (.int .i64 6)).setCell ⟨d, 32783, none⟩ (.int .i64 0)).cell? ⟨b, off + N, none⟩ = some (.int .i64 Z) := (World.cell?_of_block (a := ⟨b, off + N, none⟩) (by rw [Below.heap_setCell _ _ _ _ hbd, Below.heap_setCell _ _ _ _ hbd])).trans hcx
        have HKR : Hid (∀ x : Int, (((w2.setCell ⟨d, 2, none⟩ (.int .i64 6)).setCell ⟨d, 32783, none⟩ (.int .i64 0)).setCell ⟨d, 32783, none⟩ (.int .i64 x)).drew.cell? ⟨d, 32782, none⟩ = some (.slice (some ⟨b, off, none⟩) (N + 1) cv)) := fun x => by
          have := (hd3.s_again x).row
          rw [← hN, ← hvv]
          exact this
        have HKE : Hid (∀ x : Int, (((w2.setCell ⟨d, 2, none⟩ (.int .i64 6)).setCell ⟨d, 32783, none⟩ (.int .i64 0)).setCell ⟨d, 32783, none⟩ (.int .i64 x)).drew.cell? ⟨b, off + N, none⟩ = some (.int .i64 Z)) := fun x => by
          have : ((((w2.setCell ⟨d, 2, none⟩ (.int .i64 6)).setCell ⟨d, 32783, none⟩ (.int .i64 0)).setCell ⟨d, 32783, none⟩ (.int .i64 x))).cell? ⟨b, off + N, none⟩ = some (.int .i64 Z) := (World.cell?_of_block (a := ⟨b, off + N, none⟩) (by rw [Below.heap_setCell _ _ _ _ hbd, Below.heap_setCell _ _ _ _ hbd, Below.heap_setCell _ _ _ _ hbd])).trans hcx
          exact this
        have HP : Hid (∀ n, ItPost w d lim n0 s L a o (itLens s (L.drop a)) (.returned (.int .i64 0)) (((((w2.setCell ⟨d, 2, none⟩ (.int .i64 6)).setCell ⟨d, 32783, none⟩ (.int .i64 0)).drewN n).setCell ⟨d, 32783, none⟩ (.int .i64 Z)).setCell ⟨d, 32788, none⟩ (.int .i64 3) |>.setCell ⟨d, 32789, none⟩ (.int .i64 2))) := fun n => by
          obtain ⟨l4, s4⟩ := HL.out.1.fld (s' := { s with now := 6, again := 0 }) (fun zs gone hk => (hk.s_now 6).s_again 0) (((Fr.refl _ _ _).snoc _ _).snoc _ _) rfl rfl rfl rfl rfl
          obtain ⟨l5, s5⟩ := (l4.drewN n).fld (s' := { s with now := 6, again := Z, least := 3, nb := 2 }) (fun zs gone hk => ((hk.s_again Z).s_least 3).s_nb 2) ((((Fr.refl _ _ _).snoc _ _).snoc _ _).snoc _ _) rfl rfl rfl rfl rfl
          rw [HO3.out, if_neg hr]
          have e : s.row[s.row.length - 1]?.getD 0 = Z := by rw [hN, Nat.add_sub_cancel, ← hZ]; rfl
          rw [e]
          exact ⟨rfl, o, V, AtS.of l5 (by simp) (by simp), (HL.out.2.trans (s4.drewN n)).trans s5⟩
        rw [hN] at q5
        have hN2 : N ≤ 400 := by omega
        have hbd1 : ¬ b = d := hbd
        have hbd2 : ¬ d = b := fun e => hbd e.symm
        have hNz : (((N : Int) + 1) == 0) = false := by simp; omega
        clear HO3 HL hvv hc1 hc2 hr hlen hir hZ hN hbd hd3 l3 s3
        go_wp2
        generalize (w2.setCell ⟨d, 2, none⟩ (.int .i64 6)).setCell ⟨d, 32783, none⟩ (.int .i64 0) = w3 at HP p3 p4 p5 pf pr pe HKR HKE ⊢
        clear k2 k3 k4 k5 fz q5 hcx
        have i1 : (N : Int) < (N : Int) + 1 := by omega
        have i2 : (0 : Int) ≤ (N : Int) := by omega
        have i3 : IntKind.i64.wrap (N : Int) = (N : Int) := by rw [IntKind.wrap_i64]; omega
        have i4 : N < N + 1 := by omega
        refine wp_region_still_tail 18 (by kernel_rfl) (by kernel_rfl) ?_
        simp only [List.take_succ_cons, List.take_zero, List.drop_succ_cons, List.drop_zero]
        rw [show ({ w3 with drawn := w3.drawn + 1 } : World) = w3.drewN 1 from rfl]
        iterate 18 still_step
        with_reducible refine wpStill_nil ?_
        clear HKR HKE
        go_wp2
        go_ret
        exact HP.out 1
    · have h16b : (sym == 16) = false := by simp; exact h16
      clear hvv hc1 hc2 q5
      by_cases h17 : sym = 17
      · subst h17
        have HP : Hid (ItPost w d lim n0 s L a o (itLens s (L.drop a)) (.returned (.int .i64 0)) ((((w2.setCell ⟨d, 2, none⟩ (.int .i64 6)).setCell ⟨d, 32783, none⟩ (.int .i64 0)).setCell ⟨d, 32788, none⟩ (.int .i64 3)).setCell ⟨d, 32789, none⟩ (.int .i64 3))) := by
          show ItPost _ _ _ _ _ _ _ _ _ _ _
          obtain ⟨l4, s4⟩ := HL.out.1.fld (s' := { s with now := 6, again := 0, least := 3, nb := 3 }) (fun zs gone hk => (((hk.s_now 6).s_again 0).s_least 3).s_nb 3) (((((Fr.refl _ _ _).snoc _ _).snoc _ _).snoc _ _).snoc _ _) rfl rfl rfl rfl rfl
          rw [HO2.out, if_neg (by decide), if_pos rfl]
          exact ⟨rfl, o, V, AtS.of l4 (by simp) (by simp), HL.out.2.trans s4⟩
        clear HO2 HL
        go_wp2
        go_ret
        exact HP.out
      · have h17b : (sym == 17) = false := by simp; exact h17
        by_cases h18 : sym = 18
        · subst h18
          have HP : Hid (ItPost w d lim n0 s L a o (itLens s (L.drop a)) (.returned (.int .i64 0)) ((((w2.setCell ⟨d, 2, none⟩ (.int .i64 6)).setCell ⟨d, 32783, none⟩ (.int .i64 0)).setCell ⟨d, 32788, none⟩ (.int .i64 11)).setCell ⟨d, 32789, none⟩ (.int .i64 7))) := by
            show ItPost _ _ _ _ _ _ _ _ _ _ _
            obtain ⟨l4, s4⟩ := HL.out.1.fld (s' := { s with now := 6, again := 0, least := 11, nb := 7 }) (fun zs gone hk => (((hk.s_now 6).s_again 0).s_least 11).s_nb 7) (((((Fr.refl _ _ _).snoc _ _).snoc _ _).snoc _ _).snoc _ _) rfl rfl rfl rfl rfl
            rw [HO2.out, if_neg (by decide), if_neg (by decide), if_pos rfl]
            exact ⟨rfl, o, V, AtS.of l4 (by simp) (by simp), HL.out.2.trans s4⟩
          clear HO2 HL
          go_wp2
          go_ret
          exact HP.out
        · have h18b : (sym == 18) = false := by simp; exact h18
          obtain ⟨k, rfl⟩ := Int.eq_ofNat_of_zero_le hnn
          have HLG : Hid (Calls Tryz.prog 131 #[.pointer (some ⟨d, 0, none⟩), .int .i64 k, .int .i64 1] (((w2.setCell ⟨d, 2, none⟩ (.int .i64 6)).setCell ⟨d, 32783, none⟩ (.int .i64 0)).setCell ⟨d, 2, none⟩ (.int .i64 5)) fun e w' => ItPost w d lim n0 s L a o (itLens s (L.drop a)) e w' ∧ ∃ x : Int, e = .returned (.int .i64 x)) := by
            obtain ⟨l4, s4⟩ := HL.out.1.fld (s' := { s with now := 5, again := 0 }) (fun zs gone hk => ((hk.s_now 6).s_again 0).s_now 5) ((((Fr.refl _ _ _).snoc _ _).snoc _ _).snoc _ _) rfl rfl rfl rfl rfl
            have e1 : itLens s (L.drop a) = lengL { s with again := 0, now := 5 } k 1 m := by rw [HO2.out, if_neg h16, if_neg h17, if_neg h18]; rfl
            rw [e1]
            exact (lengthen_any k 1 m l4 rfl hlen (Nat.le_refl _) (by omega) (by omega) hl1 hl2 hl3 hl4 H15.out).mono fun e w' hq => ⟨ItPost.leng (HL.out.2.trans s4) hq rfl, hq.ret⟩
          clear HO2 HL h16 h17 h18
          go_wp2_with fail
          refine HLG.out.mono ?_
          rintro e w5 ⟨hq, x, rfl⟩
          have HP : Hid (ItPost w d lim n0 s L a o (itLens s (L.drop a)) (.returned (.int .i64 x)) w5) := hq
          clear hq HLG
          go_wp2
          go_ret
          exact HP.out
  · have h0b : (er == 0) = false := by simp; exact h0
    have HP : Hid (ItPost w d lim n0 s L a o (itLens s (L.drop a)) (.returned (.int .i64 er)) w2) := by
      show ItPost _ _ _ _ _ _ _ _ _ _ _
      rw [HO.out]
      by_cases h2 : er = 2
      · rw [if_pos h2, h2]
        have : m = 0 := hn2 h0
        subst this
        exact ⟨rfl, o, V, LiveA.of HL.out.1 (by omega), HL.out.2⟩
      · rw [if_neg h2, if_pos h0]
        exact ⟨rfl, h0, h2, s, _, o, V, HL.out.1, rfl, by omega, HL.out.2⟩
    clear HO HL
    go_wp2
    go_ret
    exact HP.out
end
end Go.Proofs.YtloagniacjfkfaaGreatDoor
/- The lengths of the lengths' code. -/
namespace Go.Proofs.YtloagniacjfkfaaGreatDoor
open Go.RowKit
/-- The program's table of the order. -/
def Ord (w : World) : Prop := ∀ i, i < 19 → w.cell? ⟨2, i, none⟩ = some (.int .i64 ((ordL[i]?.getD 0 : Nat) : Int))
structure Own1 (d : Nat) (o : Ow) : Prop where
  d : 3 ≤ d
  g : ∀ k, o.g = some k → 3 ≤ k
  q : ∀ k, o.q = some k → 3 ≤ k
  t : ∀ k, o.t = some k → 3 ≤ k
theorem Own1.step {w w' : World} {d : Nat} {o o' : Ow} (h : Own1 d o) (hs : Step w w' d o o') (hd : d < w.heap.size) : Own1 d o' := by
  have := h.d
  refine ⟨h.d, fun k hk => ?_, fun k hk => ?_, fun k hk => ?_⟩
  · rcases hs.g k hk with e | e
    · exact h.g k e
    · omega
  · rcases hs.q k hk with e | e
    · exact h.q k e
    · omega
  · rcases hs.t k hk with e | e
    · exact h.t k e
    · omega
theorem Ord.step {w w' : World} {d : Nat} {o o' : Ow} (h : Ord w) (h1 : Own1 d o) (hs : Step w w' d o o') (hd : d < w.heap.size) : Ord w' := by
  intro i hi
  have h0 := h1.d
  refine (World.cell?_of_block (a := ⟨2, i, none⟩) (hs.block 2 (by omega) (by omega) (fun e => ?_) (fun e => ?_) (fun e => ?_))).trans (h i hi)
  · have := h1.g 2 e.symm; omega
  · have := h1.q 2 e.symm; omega
  · have := h1.t 2 e.symm; omega
theorem ordL_lt (i : Nat) (h : i < 19) : ordL[i]?.getD 0 < 19 := by
  have : ∀ i, i < 19 → ordL[i]?.getD 0 < 19 := by decide
  exact this i h
theorem clL_len (l : List Int) : ∀ i, (clL l i).length = 19
  | 0 => rfl
  | i + 1 => by rw [clL, List.length_set, clL_len l i]
theorem ordL_ne (i j : Nat) (h : j < i) (hi : i < 19) : ordL[i]?.getD 0 ≠ ordL[j]?.getD 0 := by
  have : ∀ i, i < 19 → ∀ j, j < i → ordL[i]?.getD 0 ≠ ordL[j]?.getD 0 := by decide
  exact this i hi j h
theorem clL_zero (l : List Int) : ∀ i, ∀ k, k < 19 → (∀ j, j < i → k ≠ ordL[j]?.getD 0) → (clL l i)[k]?.getD 0 = 0
  | 0, k, hk, _ => by rw [clL]; rw [List.getElem?_replicate]; split <;> rfl
  | i + 1, k, hk, h => by
    rw [clL, List.getElem?_set_ne (fun e => h i (by omega) e.symm)]
    exact clL_zero l i k hk fun j hj => h j (by omega)
theorem countP_set {l : List Nat} {k x : Nat} (hk : k < l.length) (h0 : l[k]?.getD 0 = 0) : ((l.set k x).countP fun n => decide (0 < n)) = (l.countP fun n => decide (0 < n)) + if 0 < x then 1 else 0 := by
  induction l generalizing k with
  | nil => simp at hk
  | cons y r ih =>
    cases k with
    | zero =>
      simp at h0
      subst h0
      rw [List.set_cons_zero, List.countP_cons, List.countP_cons]
      by_cases hx : 0 < x
      · simp [hx]
      · simp [hx]
    | succ k =>
      rw [List.set_cons_succ, List.countP_cons, List.countP_cons, ih (by simpa using hk) (by simpa using h0)]
      omega
theorem words_ints (ns : List Nat) : wordsN (ints ns) = ns.countP fun n => decide (0 < n) := by
  unfold wordsN ints
  rw [List.countP_map]
  congr 1
  funext n
  simp
theorem clL_words (l : List Int) (i : Nat) (hi : i < 19) : wordsN (ints (clL l (i + 1))) = wordsN (ints (clL l i)) + if 0 < bV l (3 * i) 3 then 1 else 0 := by
  rw [words_ints, words_ints, clL, countP_set (by rw [clL_len]; exact ordL_lt i hi) (clL_zero l i _ (ordL_lt i hi) fun j hj => ordL_ne i j hj hi)]
theorem ints_set (ns : List Nat) (k x : Nat) : (ints ns).set k (x : Int) = ints (ns.set k x) := by unfold ints; rw [List.map_set]
theorem clL_mem {l : List Int} (hb : Bit l) : ∀ i, ∀ x ∈ clL l i, x ≤ 7
  | 0, x, hx => by rw [clL, List.mem_replicate] at hx; omega
  | i + 1, x, hx => by
    rw [clL] at hx
    rcases List.mem_or_eq_of_mem_set hx with h | h
    · exact clL_mem hb i x h
    · have := bV_small hb (3 * i) 3; rw [h]; omega
section
variable {w : World} {d lim n0 : Nat} {s : St} {L : List Int} {a : Nat} {o : Ow} {V : Vs}
theorem Live.code5 {w : World} {c : Nat} {ns : List Nat} (h : Live w d lim n0 s L a o V) (h1 : CodeAt w c ns) (d1 : Cd ns) :
    Live ((w.setCell ⟨d, 32781, none⟩ (.pointer (some ⟨c, 0, none⟩))).setCell ⟨d, 2, none⟩ (.int .i64 5)) d lim n0 { s with lc := some ns, now := 5 } L a o { V with code := .pointer (some ⟨c, 0, none⟩) } ∧ Step w ((w.setCell ⟨d, 32781, none⟩ (.pointer (some ⟨c, 0, none⟩))).setCell ⟨d, 2, none⟩ (.int .i64 5)) d o o := by
  have hf : Fr w ((w.setCell ⟨d, 32781, none⟩ (.pointer (some ⟨c, 0, none⟩))).setCell ⟨d, 2, none⟩ (.int .i64 5)) d o.g := ((Fr.refl _ _ _).snoc _ _).snoc _ _
  have hh := Hold.via h hf
  have ht := h.tame hf.step
  obtain ⟨⟨zs, gone, hd, hr⟩, _, hll⟩ := h
  exact ⟨⟨⟨zs, gone, (hd.s_code _).s_now 5, hr⟩, ⟨hh.le, hh.nle, hh.win, hh.byt, hh.told, ⟨c, rfl, h1.tame ht, d1⟩, hh.row, hh.c1, hh.c2, hh.fx, hh.sep⟩, hll⟩, hf.step⟩
theorem Live.other {w : World} (h : Live w d lim n0 s L a o V) {B i : Nat} {v : Value} (hB : ∃ cur, w.heap[B]? = some (.cells cur 3 (0, 0))) (h1 : B ≠ d) (h2 : some B ≠ o.g) (h3 : some B ≠ o.q) (h4 : some B ≠ o.t) : Live (w.setCell ⟨B, i, none⟩ v) d lim n0 s L a o V := by
  obtain ⟨cur, hB⟩ := hB
  have ht : Tame w (w.setCell ⟨B, i, none⟩ v) := by
    refine ⟨by simp [World.setCell], fun k _ => ?_⟩
    by_cases e : k = B
    · subst e; exact .inr ⟨_, _, hB, .inr (.inr (.inl rfl))⟩
    · exact .inl (Below.heap_setCell _ _ _ _ e)
  obtain ⟨⟨zs, gone, hd, hr⟩, hh, hll⟩ := h
  refine ⟨⟨zs, gone, hd.same (Below.heap_setCell _ _ _ _ (fun e => h1 e.symm)) fun k hk => Below.heap_setCell _ _ _ _ (fun e => h2 (by rw [hk]; simp at e; rw [e])), hr⟩, hh.keep ht (fun k hk => Below.heap_setCell _ _ _ _ (fun e => h4 (by rw [hk]; simp at e; rw [e]))) (fun k hk => Below.heap_setCell _ _ _ _ (fun e => h3 (by rw [hk]; simp at e; rw [e]))), hll⟩
set_option maxHeartbeats 3200000 in
set_option maxRecDepth 20000 in
theorem readCodeLens_any (h : Live w d lim n0 s L a o V) (hnow : s.now = 4) (hcl : s.cl ≤ 19) (hord : Ord w) (hown : Own1 d o) :
    Calls Tryz.prog 112 #[.pointer (some ⟨d, 0, none⟩)] w fun e w' => ItPost w d lim n0 s L a o (itCode s (L.drop a)) e w' := by
  have hle2 := h.ale
  have HHV : Hid (∀ n, Calls Tryz.prog 129 #[.pointer (some ⟨d, 0, none⟩)] (w.drewN n) fun e w' => e = .returned (.int .i64 ((L.length - a : Nat) : Int)) ∧ ∃ m, w' = (w.drewN n).drewN m) := fun n => live_have (h.drewN n)
  have HL : Hid (Live w d lim n0 s L a o V) := h
  have HOR : Hid (Ord w ∧ Own1 d o) := ⟨hord, hown⟩
  obtain ⟨g, zs, gone, hd⟩ := h.dk
  have q3 : w.cell? ⟨d, 32780, none⟩ = some (.int .i64 s.cl) := hd.cl
  obtain ⟨M, hM⟩ : ∃ M, L.length - a = M := ⟨_, rfl⟩
  rw [hM] at HHV
  have HM : Hid (L.length - a = M) := hM
  have hMb : M ≤ 1125899906842624 := by have := h.2.2; omega
  obtain ⟨C, hC⟩ : ∃ C, s.cl = C := ⟨_, rfl⟩
  rw [hC] at q3 hcl
  have HC : Hid (s.cl = C) := hC
  clear hd h hord hown hM hC
  have hwr : IntKind.i64.wrap ((C : Int) * 3) = (C : Int) * 3 := by rw [IntKind.wrap_i64]; omega
  by_cases hl : M < C * 3
  · have hli : (M : Int) < (C : Int) * 3 := by omega
    have HP : Hid (∀ n, ItPost w d lim n0 s L a o (itCode s (L.drop a)) (.returned (.int .i64 2)) (w.drewN n)) := fun n => by
      have e1 : itCode s (L.drop a) = .short := by unfold itCode; rw [if_pos (by rw [List.length_drop, HC.out, HM.out]; omega)]
      rw [e1]
      exact ⟨rfl, o, V, LiveA.of (HL.out.drewN n) (by omega), (Step.refl _ _ _).drewN n⟩
    clear hl HL
    go_enter Tryz.func112, Tryz.ntmps112
    go_wp2
    go_region_held3 (fun W => W.cell? ⟨d, 32780, none⟩ = some (.int .i64 C)) (go_keep) (first
      | (go_at_call 129; refine Calls.mono (HHV.out 1) ?_; rintro e w4 ⟨rfl, m4, rfl⟩)
      | fail)
    go_wp2
    go_ret
    exact HP.out _
  · have hli : (C : Int) * 3 ≤ (M : Int) := by omega
    have HO : Hid (itCode s (L.drop a) = if wholeB (ints (clL (L.drop a) C)) = false ∨ wordsN (ints (clL (L.drop a) C)) = 0 then .bad 5 s.out else .ok { s with lc := some (clL (L.drop a) C), now := 5 } (3 * C)) := by
      show _ = _
      unfold itCode
      rw [HC.out, if_neg (by rw [List.length_drop, HM.out]; omega)]
    obtain ⟨i0, hi, hz0, hz1, hz2⟩ := info_parts Tryz.info3
    have hmk : i0.bytes * 19 ≤ 281474976710656 := by rw [hz2]; omega
    go_enter Tryz.func112, Tryz.ntmps112
    go_wp2
    go_region_held3 (fun W => W.cell? ⟨d, 32780, none⟩ = some (.int .i64 C)) (go_keep) (first
      | (go_at_call 129; refine Calls.mono (HHV.out 1) ?_; rintro e w4 ⟨rfl, m4, rfl⟩)
      | fail)
    have HL2 : Hid (Live (w.drewN (1 + m4)) d lim n0 s L a o V ∧ Step w (w.drewN (1 + m4)) d o o ∧ Ord (w.drewN (1 + m4))) := ⟨HL.out.drewN _, (Step.refl _ _ _).drewN _, HOR.out.1⟩
    have q3' : (w.drewN (1 + m4)).cell? ⟨d, 32780, none⟩ = some (.int .i64 C) := q3
    generalize w.drewN (1 + m4) = w2 at HL2 q3' ⊢
    clear HL q3 HHV
    have hdec : decide ((M : Int) < (C : Int) * 3) = false := by simp; omega
    go_wp2_with (at_make; refine wpList_make_full _ rfl _ _ 57 rfl w2.heap.size 3 i0 _ 1 Tryz.underlying57 hi hz0 hz1 .i64 .i64 19 19 19 rfl rfl rfl rfl hmk (by unfold maxLen; omega) (Nat.le_refl _) ?_)
    intro w3 hown hgrow
    have hb3 : Below w2.heap.size w2 w3 := ⟨hgrow.os, hgrow.tape, hgrow.output, hgrow.size, fun k hk => hgrow.block k hk (by simp)⟩
    have hl3 : LRow w3 w2.heap.size (ints (clL (L.drop a) 0)) := LRow.made hown
    have hdl : d < w2.heap.size := HL2.out.1.lt
    have HL3 : Hid (Live w3 d lim n0 s L a o V ∧ Step w w3 d o o ∧ Ord w3 ∧ LRow w3 w2.heap.size (ints (clL (L.drop a) 0))) := ⟨HL2.out.1.old hb3, HL2.out.2.1.trans (Below.step hb3), HL2.out.2.2.step HOR.out.2 (Below.step hb3) hdl, hl3⟩
    have q3 : w3.cell? ⟨d, 32780, none⟩ = some (.int .i64 C) := (World.cell?_of_block (a := ⟨d, 32780, none⟩) (hb3.block d hdl)).trans q3'
    have hold3 : Hid (∀ k, (o.g = some k ∨ o.q = some k ∨ o.t = some k) → k < w2.heap.size) := by
      obtain ⟨_, tgg, tq, tt⟩ := HL2.out.1.tags
      rintro k (e | e | e)
      · obtain ⟨c, x⟩ := tgg k e; exact lt_of_block x
      · obtain ⟨c, x⟩ := tq k e; exact lt_of_block x
      · obtain ⟨c, x⟩ := tt k e; exact lt_of_block x
    have HBW : Hid (w.heap.size ≤ w2.heap.size) := HL2.out.2.1.size
    clear hown hgrow hb3 hl3 HL2 q3'
    go_wp2
    generalize w2.heap.size = B at HL3 hold3 hdl HBW ⊢
    go_loopw [4, 26] (fun x i wr => ∃ t : Nat, t ≤ C ∧ i = .int .i64 t ∧ x = .int .i64 (wordsN (ints (clL (L.drop a) t))) ∧ Hid (Live wr d lim n0 s L (a + 3 * t) o V ∧ Step w wr d o o ∧ Ord wr ∧ LRow wr B (ints (clL (L.drop a) t)))) (fun _ i _ => C - (intOf i).toNat)
    case atStart => exact ⟨0, by omega, rfl, rfl, HL3.out⟩
    case round =>
      obtain ⟨t, ht, rfl, rfl, HQ⟩ := hrel
      by_cases hlt : t < C
      · have hlti : (t : Int) < C := by omega
        have ht19 : (t : Int) < 19 := by omega
        have ko := HQ.out.2.2.1 t (by omega)
        obtain ⟨S, hS⟩ : ∃ S, ordL[t]?.getD 0 = S := ⟨_, rfl⟩
        rw [hS] at ko
        have hS19 : S < 19 := by rw [← hS]; exact ordL_lt t (by omega)
        have hS19i : (S : Int) < 19 := by omega
        have HS : Hid (ordL[t]?.getD 0 = S) := hS
        have HTK := live_take 3 HQ.out.1 (by omega) (by have := HM.out; omega)
        rw [show bV (L.drop (a + 3 * t)) 0 3 = bV (L.drop a) (3 * t) 3 by unfold bV; rw [List.drop_drop, List.drop_drop]; rfl] at HTK
        have hbx : bV (L.drop a) (3 * t) 3 < 8 := bV_small (HQ.out.1.bit.drop a) (3 * t) 3
        have HWD := clL_words (L.drop a) t (by omega)
        have hww : wordsN (ints (clL (L.drop a) t)) ≤ 19 := by
          have h1 : wordsN (ints (clL (L.drop a) t)) ≤ (ints (clL (L.drop a) t)).length := List.countP_le_length
          rw [ints_len, clL_len] at h1
          exact h1
        have HSET : Hid (clL (L.drop a) (t + 1) = (clL (L.drop a) t).set S (bV (L.drop a) (3 * t) 3)) := by show _ = _; rw [clL, HS.out]
        generalize bV (L.drop a) (3 * t) 3 = X at *
        obtain ⟨W0, hW0⟩ : ∃ W0, wordsN (ints (clL (L.drop a) t)) = W0 := ⟨_, rfl⟩
        rw [hW0] at hww HWD ⊢
        have HWW : Hid (wordsN (ints (clL (L.drop a) (t + 1))) = W0 + if 0 < X then 1 else 0) := HWD
        have HMN : Hid ((if (1 : Int) < (X : Int) then (1 : Int) else (X : Int)) = ((if 0 < X then 1 else 0 : Nat) : Int)) := by show _ = _; split <;> split <;> omega
        clear hS HWD hW0
        go_wp2_with fail
        refine HTK.mono ?_
        rintro e w5 ⟨rfl, l5, s5⟩
        have hbB : B < wr.heap.size := lt_of_block HQ.out.2.2.2
        have lr5 : LRow w5 B (ints (clL (L.drop a) t)) := HQ.out.2.2.2.same (s5.block B hbB (by omega) (fun e => by have := hold3.out B (.inl e.symm); omega) (fun e => by have := hold3.out B (.inr (.inl e.symm)); omega) (fun e => by have := hold3.out B (.inr (.inr e.symm)); omega))
        obtain ⟨c0, f0⟩ := lr5.cell S (by rw [ints_len, clL_len]; exact hS19)
        have HR : Hid (Live (w5.setCell ⟨B, S, none⟩ (.int .i64 X)) d lim n0 s L (a + 3 * (t + 1)) o V ∧ Step w (w5.setCell ⟨B, S, none⟩ (.int .i64 X)) d o o ∧ Ord (w5.setCell ⟨B, S, none⟩ (.int .i64 X)) ∧ LRow (w5.setCell ⟨B, S, none⟩ (.int .i64 X)) B (ints (clL (L.drop a) (t + 1)))) := by
          have lt5 : ∃ cur, w5.heap[B]? = some (.cells cur 3 (0, 0)) := ⟨_, lr5⟩
          have ng : some B ≠ o.g := fun e => by have := hold3.out B (.inl e.symm); omega
          have nq : some B ≠ o.q := fun e => by have := hold3.out B (.inr (.inl e.symm)); omega
          have nt : some B ≠ o.t := fun e => by have := hold3.out B (.inr (.inr e.symm)); omega
          have st5 := HQ.out.2.1.trans s5
          refine ⟨?_, ?_, ?_, ?_⟩
          · rw [show a + 3 * (t + 1) = a + 3 * t + 3 by omega]
            exact l5.other lt5 (by omega) ng nq nt
          · refine ⟨st5.os, st5.tape, st5.output, by simpa [World.setCell] using st5.size, fun k hk h1 h2 h3 h4 => ?_, st5.g, st5.q, st5.t⟩
            rw [Below.heap_setCell _ _ _ _ (by have := HBW.out; simp; omega)]
            exact st5.block k hk h1 h2 h3 h4
          · intro i hi
            exact (World.cell?_of_block (a := ⟨2, i, none⟩) (Below.heap_setCell _ _ _ _ (by have := HOR.out.2.d; simp; omega))).trans (HQ.out.2.2.1.step HOR.out.2 s5 HQ.out.1.lt i hi)
          · rw [HSET.out, ← ints_set]
            exact lr5.set S X
        clear lr5 l5 s5 HTK HQ
        go_wp2
        go_roundw
        case rel => exact ⟨t + 1, by omega, by go_num, congrArg (Value.int .i64) (by rw [HWW.out, HMN.out, Int.natCast_add]), HR.out⟩
        case measure => simp [intOf]; omega
      · obtain rfl : t = C := by omega
        have NR := new_row (some ⟨B, 0, none⟩) 19 19 (clL (L.drop a) t) wr (clL_len _ t) (by omega) HQ.out.2.2.2.irow (fun x hx => Nat.le_trans (clL_mem (HQ.out.1.bit.drop a) t x hx) (by omega))
        obtain ⟨W0, hW0⟩ : ∃ W0, wordsN (ints (clL (L.drop a) t)) = W0 := ⟨_, rfl⟩
        rw [hW0] at HO ⊢
        have HBAD : Hid ((wholeB (ints (clL (L.drop a) t)) = false ∨ W0 = 0) → ∀ w', Live w' d lim n0 s L (a + 3 * t) o V → Step w w' d o o → ItPost w d lim n0 s L a o (itCode s (L.drop a)) (.returned (.int .i64 5)) w') := fun hx w' hl hs => by
          rw [HO.out, if_pos hx]
          exact ⟨rfl, by decide, by decide, s, _, o, V, hl, rfl, by omega, hs⟩
        clear hW0
        go_wp2_with fail
        refine NR.mono ?_
        rintro e w6 (⟨hwh, rfl, hw6⟩ | ⟨hwh, hcd, c, rfl, hc, hca, hb6⟩)
        · rw [hw6]
          have HP : Hid (ItPost w d lim n0 s L a o (itCode s (L.drop a)) (.returned (.int .i64 5)) wr) := HBAD.out (.inl hwh) _ HQ.out.1 HQ.out.2.1
          clear HQ HO HBAD NR hw6 hwh
          go_wp2
          go_ret
          exact HP.out
        · have HL6 : Hid (Live w6 d lim n0 s L (a + 3 * t) o V ∧ Step w w6 d o o) := ⟨HQ.out.1.old hb6, HQ.out.2.1.trans (Below.step hb6)⟩
          by_cases hz : W0 = 0
          · subst hz
            have HP : Hid (ItPost w d lim n0 s L a o (itCode s (L.drop a)) (.returned (.int .i64 5)) w6) := HBAD.out (.inr rfl) _ HL6.out.1 HL6.out.2
            clear HQ HO HBAD NR hwh HL6 hca hcd hb6
            go_wp2
            go_ret
            exact HP.out
          · have hzb : ((W0 : Int) == 0) = false := by simp; omega
            obtain ⟨l7, s7⟩ := HL6.out.1.code5 hca hcd
            have HP : Hid (ItPost w d lim n0 s L a o (itCode s (L.drop a)) (.returned (.int .i64 0)) ((w6.setCell ⟨d, 32781, none⟩ (.pointer (some ⟨c, 0, none⟩))).setCell ⟨d, 2, none⟩ (.int .i64 5))) := by
              show ItPost _ _ _ _ _ _ _ _ _ _ _
              rw [HO.out, if_neg (by rw [hwh]; simp; exact hz)]
              exact ⟨rfl, o, _, AtS.of l7 (by simp) (by simp), HL6.out.2.trans s7⟩
            obtain ⟨g, zs, gone, hd⟩ := HL6.out.1.dk
            have t2 := hd.k2
            have t3 := hd.code
            have tf := hd.fz
            clear hd HQ HO HBAD NR hwh HL6 hca hcd hb6 l7 s7 hz
            go_wp2
            go_ret
            exact HP.out
end
end Go.Proofs.YtloagniacjfkfaaGreatDoor
/- Any item. -/
namespace Go.Proofs.YtloagniacjfkfaaGreatDoor
open Go.RowKit
/-- What holds of the machine's states. -/
structure Inv (s : St) : Prop where
  now : s.now ≤ 11
  left : s.now = 2 → 1 ≤ s.left ∧ s.left ≤ 65535
  cl : s.now = 4 → 1 ≤ s.cl ∧ s.cl ≤ 19
  lens : s.now = 4 ∨ s.now = 5 ∨ s.now = 6 → 257 ≤ s.lits ∧ s.lits ≤ 286 ∧ s.lits < s.all ∧ s.all ≤ s.lits + 30 ∧ s.row.length < s.all ∧ ∀ x ∈ s.row, x ≤ 15
  lc : s.now = 5 ∨ s.now = 6 → ∃ ns, s.lc = some ns ∧ ns.length = 19
  again : s.now = 6 → 1 ≤ s.nb ∧ s.nb ≤ 7 ∧ 1 ≤ s.least ∧ s.least ≤ 11 ∧ s.again ≤ 15
  codes : s.now = 7 ∨ s.now = 8 ∨ s.now = 9 ∨ s.now = 10 → ∃ n1 n2, s.la = some n1 ∧ s.da = some n2
  length : s.now = 8 → s.nb ≤ 5 ∧ s.least ≤ 258
  len : s.now = 9 ∨ s.now = 10 → s.len ≤ 1000
  far : s.now = 10 → s.nb ≤ 13 ∧ 1 ≤ s.least ∧ s.least + 2 ^ s.nb ≤ 32769
section
variable {w : World} {d lim n0 : Nat} {s : St} {L : List Int} {a : Nat} {o : Ow} {V : Vs}
theorem item_any (h : LiveA w d lim n0 s L a o V) (hi : Inv s) (h10 : s.now ≤ 10) (hlim : lim ≤ 1000000) (hord : Ord w) (hown : Own1 d o) :
    Calls Tryz.prog (rdF s.now) #[.pointer (some ⟨d, 0, none⟩)] w fun e w' => ItPost w d lim n0 s L a o (item lim s (L.drop a)) e w' := by
  by_cases h1 : s.now = 1
  · unfold LiveA at h
    rw [if_pos h1] at h
    obtain ⟨a0, ha, hl⟩ := h
    have e : item lim s (L.drop a) = itSize s (L.drop a) := by unfold item; rw [h1]; rfl
    rw [e, h1]
    exact readSize_any hl ha h1
  · unfold LiveA at h
    rw [if_neg h1] at h
    rcases (show s.now = 0 ∨ s.now = 2 ∨ s.now = 3 ∨ s.now = 4 ∨ s.now = 5 ∨ s.now = 6 ∨ s.now = 7 ∨ s.now = 8 ∨ s.now = 9 ∨ s.now = 10 by omega) with e0 | e0 | e0 | e0 | e0 | e0 | e0 | e0 | e0 | e0
    · have e : item lim s (L.drop a) = itHead s (L.drop a) := by unfold item; rw [e0]; rfl
      rw [e, e0]
      exact readHead_any h e0
    · have e : item lim s (L.drop a) = itStored lim s (L.drop a) := by unfold item; rw [e0]; rfl
      rw [e, e0]
      exact readStored_any h hlim e0 (hi.left e0).1 (hi.left e0).2
    · have e : item lim s (L.drop a) = itCounts s (L.drop a) := by unfold item; rw [e0]; rfl
      rw [e, e0]
      exact readCounts_any h e0
    · have e : item lim s (L.drop a) = itCode s (L.drop a) := by unfold item; rw [e0]; rfl
      rw [e, e0]
      exact readCodeLens_any h e0 (hi.cl e0).2 hord hown
    · have e : item lim s (L.drop a) = itLens s (L.drop a) := by unfold item; rw [e0]; rfl
      obtain ⟨l1, l2, l3, l4, l5, l6⟩ := hi.lens (by omega)
      obtain ⟨ns, c1, c2⟩ := hi.lc (by omega)
      rw [e, e0]
      exact readLens_any ns h e0 c1 c2 l5 l1 l2 l3 l4 l6
    · have e : item lim s (L.drop a) = itAgain s (L.drop a) := by unfold item; rw [e0]; rfl
      obtain ⟨l1, l2, l3, l4, l5, l6⟩ := hi.lens (by omega)
      obtain ⟨_, c1, c2, c3, c4⟩ := hi.again e0
      rw [e, e0]
      exact readAgain_any h e0 c1 c2 c3 c4 l5 l1 l2 l3 l4 l6
    · have e : item lim s (L.drop a) = itSymbol lim s (L.drop a) := by unfold item; rw [e0]; rfl
      obtain ⟨n1, n2, c1, c2⟩ := hi.codes (by omega)
      rw [e, e0]
      exact readSymbol_any n1 h hlim e0 c1
    · have e : item lim s (L.drop a) = itLength s (L.drop a) := by unfold item; rw [e0]; rfl
      obtain ⟨c1, c2⟩ := hi.length e0
      rw [e, e0]
      exact readLength_any h e0 (by omega) (by omega)
    · have e : item lim s (L.drop a) = itDist s (L.drop a) := by unfold item; rw [e0]; rfl
      obtain ⟨n1, n2, c1, c2⟩ := hi.codes (by omega)
      rw [e, e0]
      exact readDistance_any n2 h e0 c2
    · have e : item lim s (L.drop a) = itFar lim s (L.drop a) := by unfold item; rw [e0]; rfl
      obtain ⟨c1, c2, c3⟩ := hi.far e0
      have c4 := hi.len (by omega)
      have hP := Nat.two_pow_pos s.nb
      rw [e, e0]
      exact readFar_any h hlim e0 (by omega) (by omega) c2 c3 (by omega)
end
end Go.Proofs.YtloagniacjfkfaaGreatDoor
