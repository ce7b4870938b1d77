/- The document's rows. -/
import Derived.Test.YtjkhldnjciakkaaAmL
namespace Go.Proofs.Ytjkhldnjciakkaa
open Go.RowKit
set_option maxHeartbeats 800000 in
theorem rsized_any (W H : Int) (w : World) : Calls Try.prog 26 #[.int .i64 W, .int .i64 H] w fun e w' => e = .returned (.bool (decide (picN W H))) ∧ w' = w := by
  rcases (show W < 1 ∨ (1 ≤ W ∧ 2048 < W) ∨ (1 ≤ W ∧ W ≤ 2048 ∧ H < 1) ∨ (1 ≤ W ∧ W ≤ 2048 ∧ 1 ≤ H ∧ 2048 < H) ∨ (1 ≤ W ∧ W ≤ 2048 ∧ 1 ≤ H ∧ H ≤ 2048) by omega) with h | h | h | h | ⟨h1, h2, h3, h4⟩
  · rw [decide_eq_false (by unfold picN; omega)]
    go_enter Try.func26, Try.ntmps26
    go_wp2
    go_ret
    exact ⟨rfl, rfl⟩
  · rw [decide_eq_false (by unfold picN; omega)]
    go_enter Try.func26, Try.ntmps26
    go_wp2
    go_ret
    exact ⟨rfl, rfl⟩
  · rw [decide_eq_false (by unfold picN; omega)]
    go_enter Try.func26, Try.ntmps26
    go_wp2
    go_ret
    exact ⟨rfl, rfl⟩
  · rw [decide_eq_false (by unfold picN; omega)]
    go_enter Try.func26, Try.ntmps26
    go_wp2
    go_ret
    exact ⟨rfl, rfl⟩
  · obtain ⟨m1, m2⟩ := mul_bd h1 h2 h3 h4
    have hm : wrap64 (W * H) = W * H := by unfold wrap64; omega
    have e : decide (picN W H) = decide (W * H ≤ 65536) := by
      rw [picN_split, decide_eq_true h1, decide_eq_true h2, decide_eq_true h3, decide_eq_true h4]; simp
    rw [e]
    clear e
    go_enter Try.func26, Try.ntmps26
    go_wp2
    go_ret
    exact ⟨rfl, rfl⟩
structure RwI (w : World) (lb : Nat) (P x s y : Int) (k : Nat) (v : Value) (wr : World) : Prop where
  be : Below w.heap.size w wr
  rb : wr.heap[w.heap.size]? = some (.cells #[.int .i64 0, .slice none 0 0] 43 (0, 0))
  lb : wr.heap[w.heap.size + 1]? = some (.cells #[.int .i64 P, v] 43 (0, 0))
  own : wr.ownsRow w.heap.size 45 2 v k (ivalsA (spL x s y k))
theorem RwI.push {w : World} {lb : Nat} {P x s y : Int} {k : Nat} {v v7 : Value} {wr w7 : World} {va : Array Value} (h : RwI w lb P x s y k v wr) (h7 : w7.ownsRow w.heap.size 45 2 v7 (k + 1) (ivalsA (spL x s y k) ++ [.int .i64 (x + (k : Int) * s), .int .i64 y])) (hg : (wr.alloc (.cells va 45)).grownBy w7 v.ownBlock) :
    w7.cell? ⟨w.heap.size + 1, 1, none⟩ = some v ∧ w7.frozen? ⟨w.heap.size + 1, 1, none⟩ = false ∧ RwI w lb P x s y (k + 1) v7 (w7.setCell ⟨w.heap.size + 1, 1, none⟩ v7) := by
  have hba : Below wr.heap.size wr (wr.alloc (.cells va 45)) := (Below.refl _ wr).alloc (Nat.le_refl _) _
  have kk : ∀ (j : Nat) c, wr.heap[j]? = some (.cells c 43 (0, 0)) → w7.heap[j]? = some (.cells c 43 (0, 0)) := fun j c hj => by
    have ha := (hba.block j (lt_of_block hj)).trans hj
    refine (hg.block j (lt_of_block ha) (fun hb => ?_)).trans ha
    rcases h.own.2 with ⟨rfl, _⟩ | ⟨g, cap, cur, rfl, _, hh, _⟩
    · cases hb
    · cases hb; rw [hh] at hj; cases hj
  have k1 := kk _ _ h.lb
  have oth : ∀ j, j ≠ w.heap.size + 1 → (w7.setCell ⟨w.heap.size + 1, 1, none⟩ v7).heap[j]? = w7.heap[j]? := fun j hj => Below.heap_setCell _ _ _ _ hj
  refine ⟨by simp [World.cell?, k1], by simp [World.frozen?, k1], ?_, ?_, ?_, ?_⟩
  · have b1 := h.be.trans (hba.mono h.be.size)
    have b2 := b1.grown hg b1.size (fun j hj => (h.own.lt j hj).1)
    exact b2.setCell (p := ⟨w.heap.size + 1, 1, none⟩) (Nat.le_succ _) _
  · exact (oth _ (by omega)).trans (kk _ _ h.rb)
  · rw [heap_setCell_same w7 _ 1 _ _ _ k1]; rfl
  · have e : ivalsA (spL x s y k) ++ [.int .i64 (x + (k : Int) * s), .int .i64 y] = ivalsA (spL x s y (k + 1)) := by rw [spL, ivalsA_append]; rfl
    rw [e] at h7
    refine ⟨h7.1, h7.2.imp id ?_⟩
    rintro ⟨g, cap, cur, q1, q2, q3, q4⟩
    refine ⟨g, cap, cur, q1, q2, ?_, q4⟩
    rw [oth g (fun e => by subst e; rw [k1] at q3; cases q3)]; exact q3
def RwPost (w : World) (P : Int) (n : Nat) (L : List Int) (e : Ending) (w' : World) : Prop := ∃ a c, e = .returned (.agg #[.int .i64 P, .slice a n c]) ∧ SpIn w.heap.size w' ⟨P, a, n, c, L⟩ ∧ Below w.heap.size w w'
set_option maxHeartbeats 1600000 in
theorem rrow_any (P x y s W : Int) (w : World) (hx : 0 ≤ x) (hs : 1 ≤ s) (hs8 : s ≤ 8) (hW : W ≤ 2048) : Calls Try.prog 27 #[.int .i64 P, .int .i64 x, .int .i64 y, .int .i64 s, .int .i64 W] w fun e w' => RwPost w P (plc x s W).toNat (spL x s y (plc x s W).toNat) e w' := by
  have hb := plc_bd hx hs hW
  have HX : Hid (∀ k : Nat, x + (k : Int) * s < W ↔ (k : Int) < plc x s W) := fun k => plc_iff hs k
  have HK : Hid (∀ k : Nat, (k : Int) ≤ 2048 → 0 ≤ (k : Int) * s ∧ (k : Int) * s ≤ 20000) := fun k hk => ⟨Int.mul_nonneg (by omega) (by omega), by have : (k : Int) * s ≤ 2048 * 8 := Int.mul_le_mul hk (by omega) (by omega) (by omega); omega⟩
  obtain ⟨N, hN⟩ : ∃ N : Nat, plc x s W = N := ⟨(plc x s W).toNat, by omega⟩
  rw [hN] at HX hb ⊢
  rw [Int.toNat_natCast]
  clear hN
  obtain ⟨i0, hi0, hz0, hz1, hz2⟩ := info_parts Try.infoSp
  have HS : Hid (RwI w 0 P x s y 0 (.slice none 0 0) ((w.alloc (.cells #[.int .i64 0, .slice none 0 0] 43)).alloc (.cells #[.int .i64 P, .slice none 0 0] 43))) := by
    refine ⟨((Below.refl _ w).alloc (Nat.le_refl _) _).alloc (by simp) _, ?_, ?_, World.ownsRow_nil _ _ _ _⟩
    · rw [Below.heap_alloc _ _ _ (by simp)]; exact World.alloc_heap_new w _
    · have := World.alloc_heap_new (w.alloc (.cells #[.int .i64 0, .slice none 0 0] 43)) (.cells #[.int .i64 P, .slice none 0 0] 43); rwa [World.size_alloc] at this
  go_enter Try.func27, Try.ntmps27
  go_wp2
  go_loopw [1] (fun v1 wr => ∃ (k : Nat) (v : Value), k ≤ N ∧ v1 = .int .i64 (x + (k : Int) * s) ∧ Hid (RwI w 0 P x s y k v wr)) (fun v _ => (W - intOf v).toNat)
  case atStart => exact ⟨0, _, Nat.zero_le _, by simp, HS⟩
  case round =>
    clear HS
    obtain ⟨k, v, hk, rfl, HR⟩ := hrel
    obtain ⟨a, c, hv⟩ : ∃ a c, v = .slice a k c := by
      rcases HR.out.own.2 with ⟨rfl, hn⟩ | ⟨g, cap, cur, rfl, _⟩
      · exact ⟨none, 0, by rw [hn]⟩
      · exact ⟨_, _, rfl⟩
    subst hv
    have hx := HX.out k
    have hm := HK.out k (by omega)
    have hlb := HR.out.lb
    have c0 : wr.cell? ⟨w.heap.size + 1, 0, none⟩ = some (.int .i64 P) := by simp [World.cell?, hlb]
    have c1 : wr.cell? ⟨w.heap.size + 1, 1, none⟩ = some (.slice a k c) := by simp [World.cell?, hlb]
    clear hlb
    have HN : Hid (x + ((k + 1 : Nat) : Int) * s = x + (k : Int) * s + s) := by show _ = _; rw [Int.natCast_add, Int.add_mul]; simp; omega
    by_cases hc : x + (k : Int) * s < W
    · have hk1 := hx.1 hc
      have HP : Hid (∀ v7 w7, w7.ownsRow w.heap.size 45 2 v7 (k + 1) (ivalsA (spL x s y k) ++ [.int .i64 (x + (k : Int) * s), .int .i64 y]) → (wr.alloc (.cells #[.int .i64 (x + (k : Int) * s), .int .i64 y] 45)).grownBy w7 (Value.ownBlock (.slice a k c)) →
        w7.cell? ⟨w.heap.size + 1, 1, none⟩ = some (.slice a k c) ∧ w7.frozen? ⟨w.heap.size + 1, 1, none⟩ = false ∧ RwI w 0 P x s y (k + 1) v7 (w7.setCell ⟨w.heap.size + 1, 1, none⟩ v7)) := fun v7 w7 g1 g2 => HR.out.push g1 g2
      have HO : Hid (wr.ownsRow w.heap.size 45 2 (.slice a k c) k (ivalsA (spL x s y k)) ∧ w.heap.size ≤ wr.heap.size) := ⟨HR.out.own, HR.out.be.size⟩
      clear hx HR
      obtain ⟨M, hM⟩ : ∃ M, (k : Int) * s = M := ⟨_, rfl⟩
      rw [hM] at hc hm HN HP ⊢
      clear hM
      go_wp2_with (at_builtin; refine wpList_append_own _ rfl _ _ 41 rfl w.heap.size 45 i0 (.agg #[.int .i64 0, .int .i64 0]) 2 16 Try.underlying41 hi0 hz0 hz1 hz2 rfl (by decide) (.slice a k c) k (ivalsA (spL x s y k)) rfl (HO.out.1.alloc _) ⟨wr.heap.size, 0, none⟩ 1 1 [.int .i64 (x + M), .int .i64 y] rfl rfl ?c1 ?c2 ?c3 ?c4 ?c5 ?_)
      case c1 =>
        intro j u hj
        match j, hj with
        | 0, hj => simp at hj; subst hj; exact World.cell?_alloc_mark ..
        | 1, hj => simp at hj; subst hj; exact World.cell?_alloc_mark ..
      case c2 => intro u hu; simp at hu; rcases hu with rfl | rfl <;> rfl
      case c3 => unfold maxLen; omega
      case c4 => omega
      case c5 => have := HO.out.2; simp; omega
      intro v7 w7 g1 g2 _
      obtain ⟨y1, y2, y3⟩ := HP.out v7 w7 g1 g2
      obtain ⟨a7, c7, hv7⟩ : ∃ a7 c7, v7 = .slice a7 (k + 1) c7 := by
        rcases g1.2 with ⟨rfl, hn⟩ | ⟨g, cap, cur, rfl, _⟩
        · omega
        · exact ⟨_, _, rfl⟩
      subst hv7
      have H3 : Hid _ := y3
      clear g1 g2 HP HO y3 c0 c1
      go_wp2
      go_roundw
      case rel => exact ⟨k + 1, _, by omega, by rw [HN.out], H3.out⟩
      case measure => simp [intOf]; omega
    · obtain rfl : k = N := by have := mt hx.2 hc; omega
      have HF : Hid (∀ wz, (∀ j c t, wr.heap[j]? = some (.cells c t (0, 0)) → j ≠ w.heap.size → wz.heap[j]? = some (.cells c t (0, 0))) → Below w.heap.size w wz → RwPost w P k (spL x s y k) (.returned (.agg #[.int .i64 P, .slice a k c])) wz) := fun wz hz hbz => by
        refine ⟨a, c, rfl, ⟨spL_len .., ?_, by simp only; omega, ?_⟩, hbz⟩
        · rcases HR.out.own.2 with ⟨h, hn⟩ | ⟨g, cap, cur, h, _, _, q, _⟩
          · simp only [hn]; omega
          · simp only [Value.slice.injEq] at h; obtain ⟨_, _, rfl⟩ := h; exact q
        · rcases HR.out.own.2 with ⟨h, hn⟩ | ⟨g, cap, cur, h, hb, hh, q⟩
          · exact .inl (List.length_eq_zero_iff.1 (by simp only [spL_len]; omega))
          · simp only [Value.slice.injEq] at h
            obtain ⟨rfl, -, rfl⟩ := h
            refine .inr ⟨g, cur, rfl, hb, hz g cur _ hh (fun e => by subst e; have := HR.out.rb; rw [hh] at this; cases this), fun i hi => ?_⟩
            have := HR.out.own.cellAt i (by simp only [spL_len] at hi; omega)
            rw [ivalsA_at _ i hi] at this
            simpa [World.cell?, hh] using this
      have HB : Hid (Below w.heap.size w wr) := HR.out.be
      have hrb := HR.out.rb
      have d0 : wr.cell? ⟨w.heap.size, 0, none⟩ = some (.int .i64 0) := by simp [World.cell?, hrb]
      have d1 : wr.cell? ⟨w.heap.size, 1, none⟩ = some (.slice none 0 0) := by simp [World.cell?, hrb]
      have df : ∀ j, wr.frozen? ⟨w.heap.size, j, none⟩ = false := fun j => by simp [World.frozen?, hrb]
      clear hx HR hrb HN
      obtain ⟨M, hM⟩ : ∃ M, (k : Int) * s = M := ⟨_, rfl⟩
      rw [hM] at hc hm ⊢
      clear hM
      go_wp2
      refine bodyPost_ret (v := .agg #[.int .i64 P, .slice a k c]) ?_ rfl (HF.out _ (fun j cc t hj hne => ?_) ?_)
      · rw [results_cellA rfl]
        go_simp
      · rw [Below.heap_setCell _ _ _ _ hne, Below.heap_setCell _ _ _ _ hne]; exact hj
      · exact (HB.out.setCell (p := ⟨w.heap.size, 0, none⟩) (Nat.le_refl _) _).setCell (p := ⟨w.heap.size, 1, none⟩) (Nat.le_refl _) _
end Go.Proofs.Ytjkhldnjciakkaa
