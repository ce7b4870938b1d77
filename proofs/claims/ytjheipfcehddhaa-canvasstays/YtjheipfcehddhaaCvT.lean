/- The document's View. -/
import Derived.Test.YtjheipfcehddhaaCvQ
import Derived.Test.YtjheipfcehddhaaCvK
namespace Go.Proofs.Ytjheipfcehddhaa
open Go.RowKit
theorem low_tmod {v : Int} (h0 : 0 ≤ v) (n : Nat) : v - v.tmod (2 ^ n) = lowN n v := by
  unfold lowN
  rw [Int.tmod_eq_emod_of_nonneg h0]
  have := Int.mul_ediv_add_emod v (2 ^ n)
  have h2 : v / 2 ^ n * 2 ^ n = 2 ^ n * (v / 2 ^ n) := Int.mul_comm _ _
  omega
set_option maxHeartbeats 800000 in
theorem rlow_any (v : Int) (n : Nat) (w : World) (h0 : 0 ≤ v) (h1 : v ≤ 65536) (hn : n ≤ 3) : Calls Try.prog 34 #[.int .i64 v, .int .i64 n] w fun e w' => e = .returned (.int .i64 (lowN n v)) ∧ w' = w := by
  have hl := low_tmod h0 n
  have hb := lowN_bd (n := n) h0
  generalize lowN n v = X at *
  match n, hn with
  | 0, _ =>
    simp only [Int.pow_zero] at hl
    go_enter Try.func34, Try.ntmps34
    go_wp2
    go_ret
    exact ⟨ret_int (by simp at hl ⊢; omega), rfl⟩
  | 1, _ =>
    have hl' : v - v.tmod 2 = X := hl
    rw [Int.tmod_eq_emod_of_nonneg h0] at hl'
    go_enter Try.func34, Try.ntmps34
    go_wp2
    go_ret
    exact ⟨ret_int (by first | omega | (rw [Int.tmod_eq_emod_of_nonneg h0]; unfold wrap64; omega) | (unfold wrap64; omega)), rfl⟩
  | 2, _ =>
    have hl' : v - v.tmod 4 = X := hl
    rw [Int.tmod_eq_emod_of_nonneg h0] at hl'
    go_enter Try.func34, Try.ntmps34
    go_wp2
    go_ret
    exact ⟨ret_int (by first | omega | (rw [Int.tmod_eq_emod_of_nonneg h0]; unfold wrap64; omega) | (unfold wrap64; omega)), rfl⟩
  | 3, _ =>
    have hl' : v - v.tmod 8 = X := hl
    rw [Int.tmod_eq_emod_of_nonneg h0] at hl'
    go_enter Try.func34, Try.ntmps34
    go_wp2
    go_ret
    exact ⟨ret_int (by first | omega | (rw [Int.tmod_eq_emod_of_nonneg h0]; unfold wrap64; omega) | (unfold wrap64; omega)), rfl⟩
/-- The pixels of the document's view. -/
def rvG (W H : Int) (F : Nat → Col) (M : Nat → Bool) (L : List (Nat × Nat)) (i : Nat) : Col := vwC W H F M ((i : Int) % W) ((i : Int) / W) z4 L
theorem vwC_same {W H : Int} {F : Nat → Col} {M : Nat → Bool} {x y : Int} {d d' : Col} : ∀ (L : List (Nat × Nat)), (∃ q ∈ L, atB W H M (lowN q.1 x, lowN q.2 y) = true) ∨ d = d' → vwC W H F M x y d L = vwC W H F M x y d' L
  | [], h => by
    rcases h with ⟨q, hq, _⟩ | h
    · simp at hq
    · exact h
  | q :: r, h => by
    unfold vwC
    cases hb : atB W H M (lowN q.1 x, lowN q.2 y) with
    | true => rfl
    | false =>
      simp only [Bool.false_eq_true, if_false]
      refine vwC_same r ?_
      rcases h with ⟨q', hq', hb'⟩ | h
      · rcases List.mem_cons.1 hq' with rfl | hq'
        · rw [hb] at hb'; cases hb'
        · exact .inl ⟨q', hq', hb'⟩
      · exact .inr h
theorem rvG_eq {W H : Int} {N : Nat} {F : Nat → Col} {M : Nat → Bool} {n : Int} (hz : Sz W H N) (hv : Iv N F M n) (b : Bool) {i : Nat} (hi : i < N) : rvG W H F M (cuL b) i = vwG W H F M (cuL b) i := by
  unfold rvG vwG
  refine vwC_same _ ?_
  cases hM : M i with
  | false => exact .inr (hv.z i hi hM).symm
  | true =>
    refine .inl ⟨(0, 0), by cases b <;> simp [cuL], ?_⟩
    have e : ∀ v : Int, lowN 0 v = v := fun v => by unfold lowN; simp
    rw [e, e, (at_place hz hv hi).1]
    exact hM
/-- Between two pixels of the document's view. -/
structure RwI (w0 : World) (c p k rb vb cb : Nat) (W H : Int) (N : Nat) (F : Nat → Col) (M : Nat → Bool) (L : List (Nat × Nat)) (K : Nat) (wr : World) : Prop where
  be : Below w0.heap.size w0 wr
  rv : Rv wr c p k W H N F M
  re : wr.heap[rb]? = some (.cells #[.int .i64 0, .int .i64 0, .slice none 0 0] 41 (0, 0))
  ob : ∃ v, wr.heap[vb]? = some (.cells #[.int .i64 W, .int .i64 H, v] 41 (0, 0)) ∧ wr.ownsRow w0.heap.size 49 4 v K (k4L (rvG W H F M L) K)
  ct : wr.heap[cb]? = some (.cells (cuA L) 76 (0, 0))
  lo : w0.heap.size ≤ rb ∧ w0.heap.size ≤ vb ∧ rb ≠ vb
theorem owns_same {w w' : World} {base : Nat} {e : TypeId} {size : Nat} {v : Value} {n : Nat} {xs : List Value} (h : w.ownsRow base e size v n xs) (hs : ∀ (k : Nat) c, v.ownBlock = some k → w.heap[k]? = some (.cells c e (0, 0)) → w'.heap[k]? = some (.cells c e (0, 0))) : w'.ownsRow base e size v n xs := by
  rcases h.2 with ⟨rfl, h0⟩ | ⟨g, cap, cur, rfl, hb, hh, h1, h2, h3, h4⟩
  · exact ⟨h.1, .inl ⟨rfl, h0⟩⟩
  · exact ⟨h.1, .inr ⟨g, cap, cur, rfl, hb, hs g cur rfl hh, h1, h2, h3, h4⟩⟩
theorem owns_tagV {w : World} {base : Nat} {e : TypeId} {size : Nat} {v : Value} {n : Nat} {xs : List Value} (h : w.ownsRow base e size v n xs) {k : Nat} (hk : v.ownBlock = some k) : base ≤ k ∧ ∃ c, w.heap[k]? = some (.cells c e (0, 0)) := by
  rcases h.2 with ⟨rfl, h0⟩ | ⟨g, cap, cur, rfl, hb, hh, _⟩
  · cases hk
  · cases hk; exact ⟨hb, cur, hh⟩
theorem RwI.old {w0 : World} {c p k rb vb cb : Nat} {W H : Int} {N : Nat} {F : Nat → Col} {M : Nat → Bool} {L : List (Nat × Nat)} {K : Nat} {wr w' : World} (h : RwI w0 c p k rb vb cb W H N F M L K wr) (hb : Below wr.heap.size wr w') : RwI w0 c p k rb vb cb W H N F M L K w' := by
  obtain ⟨v, h1, h2⟩ := h.ob
  exact ⟨h.be.trans (hb.mono h.be.size), h.rv.old hb, (hb.block _ (lt_of_block h.re)).trans h.re, ⟨v, (hb.block _ (lt_of_block h1)).trans h1, owns_same h2 fun k c _ hk => (hb.block _ (lt_of_block hk)).trans hk⟩, (hb.block _ (lt_of_block h.ct)).trans h.ct, h.lo⟩
/-- A colour more. -/
theorem RwI.push {w0 : World} {c p k rb vb cb : Nat} {W H : Int} {N : Nat} {F : Nat → Col} {M : Nat → Bool} {L : List (Nat × Nat)} {K : Nat} {wr w7 : World} {v v7 : Value} {va : Array Value} (h : RwI w0 c p k rb vb cb W H N F M L K wr) (hlt : p < w0.heap.size ∧ c < w0.heap.size ∧ k < w0.heap.size)
    (h1 : wr.heap[vb]? = some (.cells #[.int .i64 W, .int .i64 H, v] 41 (0, 0))) (h2 : wr.ownsRow w0.heap.size 49 4 v K (k4L (rvG W H F M L) K)) (h7 : w7.ownsRow w0.heap.size 49 4 v7 (K + 1) (k4L (rvG W H F M L) K ++ k4 (rvG W H F M L) K)) (hg : (wr.alloc (.cells va 49)).grownBy w7 v.ownBlock) :
    w7.cell? ⟨vb, 2, none⟩ = some v ∧ w7.frozen? ⟨vb, 2, none⟩ = false ∧ RwI w0 c p k rb vb cb W H N F M L (K + 1) (w7.setCell ⟨vb, 2, none⟩ v7) := by
  have hba := below_new wr (.cells va 49)
  have kk : ∀ (j : Nat) (o : Obj), wr.heap[j]? = some o → (∀ c f, o ≠ .cells c 49 f) → w7.heap[j]? = some o := fun j o hj ho => by
    have ha := (hba.block j (lt_of_block hj)).trans hj
    refine (hg.block j (lt_of_block ha) (fun hb => ?_)).trans ha
    obtain ⟨_, c2, e2⟩ := owns_tagV h2 hb.symm
    rw [hj] at e2
    simp only [Option.some.injEq] at e2
    exact ho _ _ e2
  have k1 := kk _ _ h1 (fun c f h => by cases h)
  have oth : ∀ j, j ≠ vb → (w7.setCell ⟨vb, 2, none⟩ v7).heap[j]? = w7.heap[j]? := fun j hj => Below.heap_setCell _ _ _ _ hj
  have b7 : Below w0.heap.size w0 w7 := by
    have b1 := h.be.trans (hba.mono h.be.size)
    exact b1.grown hg b1.size (fun j hj => (owns_tagV h2 hj).1)
  have b8 : Below w0.heap.size w0 (w7.setCell ⟨vb, 2, none⟩ v7) := b7.setCell (p := ⟨vb, 2, none⟩) h.lo.2.1 _
  have low : ∀ j, j < w0.heap.size → (w7.setCell ⟨vb, 2, none⟩ v7).heap[j]? = wr.heap[j]? := fun j hj => (b8.block j hj).trans (h.be.block j hj).symm
  have nm : ∀ (j : Nat) (o : Obj), wr.heap[j]? = some o → (∀ c f, o ≠ .cells c 41 f) → j ≠ vb := fun j o hj ho e => by subst e; rw [h1] at hj; simp only [Option.some.injEq] at hj; exact ho _ _ hj.symm
  refine ⟨by simp [World.cell?, k1], by simp [World.frozen?, k1], b8, h.rv.same (low _ hlt.2.1) (low _ hlt.1) (low _ hlt.2.2), ?_, ⟨v7, ?_, ?_⟩, ?_, h.lo⟩
  · exact (oth _ h.lo.2.2).trans (kk _ _ h.re (fun c f h => by cases h))
  · rw [heap_setCell_same w7 vb 2 _ _ _ k1]; rfl
  · rw [k4L_snoc]
    exact owns_same h7 fun j c _ hj => (oth j (fun e => by subst e; rw [k1] at hj; cases hj)).trans hj
  · exact (oth _ (nm _ _ h.ct (fun c f h => by cases h))).trans (kk _ _ h.ct (fun c f h => by cases h))
end Go.Proofs.Ytjheipfcehddhaa
