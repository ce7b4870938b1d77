/- Joined: Rl6 Rm6. -/
import Derived.Test.YtloagniacjfkfaaGreatDoorTG
import Derived.Deep.DeepCutAuto
import Derived.Deep.CutBlock
/- The reference's Words of lengths that may be no code: it ends, and changes nothing that was there. -/
namespace Go.Proofs.YtloagniacjfkfaaGreatDoor
open Go.RowKit
def LoosePost (w : World) (e : Ending) (w' : World) : Prop := ∃ a n c, e = .returned (.slice a n c) ∧ Below w.heap.size w w'
/-- Words so far: not too many, the last one's number not too great. -/
def Lz (w : World) (len N I V A : Nat) (o : Value) (wr : World) : Prop :=
  ∃ xs, QRow wr w.heap.size o xs ∧ Below w.heap.size w wr ∧ xs.length ≤ (N - 1) * len + I ∧ (xs = [] ∧ V = 0 ∨ xs.length ≠ 0 ∧ 1 ≤ A ∧ A ≤ N ∧ V + 1 ≤ xs.length * 2 ^ A)
theorem Lz.few {len N I n : Nat} (hl : len ≤ 288) (hI : I ≤ len) (h15 : N ≤ 15) (h : n ≤ (N - 1) * len + I) : n ≤ 4320 := by
  have : (N - 1) * len ≤ 14 * 288 := Nat.mul_le_mul (by omega) hl
  omega
theorem Lz.pow {N : Nat} (h15 : N ≤ 15) : 2 ^ N ≤ 32768 := Nat.pow_le_pow_right (show 0 < 2 by omega) h15
theorem Lz.bound {w wr : World} {len N I V A : Nat} {o : Value} (h : Lz w len N I V A o wr) (hl : len ≤ 288) (hI : I ≤ len) (h15 : N ≤ 15) : V < 268435456 := by
  obtain ⟨xs, _, _, q4, q5⟩ := h
  have h1 := Lz.few hl hI h15 q4
  rcases q5 with ⟨_, h⟩ | ⟨_, _, h3, h4⟩
  · omega
  · have h5 := Lz.pow (Nat.le_trans h3 h15)
    have : xs.length * 2 ^ A ≤ 4320 * 32768 := Nat.mul_le_mul h1 h5
    omega
theorem Lz.step {len N I V A : Nat} {xs : List Pv} (hl : len ≤ 288) (hI : I ≤ len) (h15 : N ≤ 15) (hx : xs.length ≤ (N - 1) * len + I) (hc : xs = [] ∧ V = 0 ∨ xs.length ≠ 0 ∧ 1 ≤ A ∧ A ≤ N ∧ V + 1 ≤ xs.length * 2 ^ A) :
    ∃ v, (xs.length = 0 ∧ V = v ∨ xs.length ≠ 0 ∧ 1 ≤ A ∧ A ≤ N ∧ (V + 1) * 2 ^ (N - A) = v) ∧ v < 268435456 ∧ v + 1 ≤ (xs.length + 1) * 2 ^ N := by
  have h1 := Lz.few hl hI h15 hx
  have hp := Lz.pow h15
  have hp1 : 1 ≤ 2 ^ N := Nat.two_pow_pos N
  rcases hc with ⟨rfl, rfl⟩ | ⟨h2, h3, h4, h5⟩
  · exact ⟨0, .inl ⟨rfl, rfl⟩, by omega, by simp; omega⟩
  · have e : (V + 1) * 2 ^ (N - A) ≤ xs.length * 2 ^ N := by
      have := Nat.mul_le_mul_right (2 ^ (N - A)) h5
      rw [Nat.mul_assoc, ← Nat.pow_add, Nat.add_sub_cancel' h4] at this
      exact this
    have e2 : xs.length * 2 ^ N ≤ 4320 * 32768 := Nat.mul_le_mul h1 hp
    refine ⟨_, .inr ⟨h2, h3, h4, rfl⟩, by omega, ?_⟩
    have e3 : (xs.length + 1) * 2 ^ N = xs.length * 2 ^ N + 2 ^ N := by rw [Nat.add_mul, Nat.one_mul]
    omega
set_option maxHeartbeats 1600000 in
set_option maxRecDepth 20000 in
theorem words_loose (a : Option Addr) (len cap : Nat) (ns : List Nat) (w : World) (hn0 : ns.length = len) (hl : len ≤ 288) (hr : IRow w a (ints ns)) :
    Calls Tryz.prog 72 #[.slice a len cap] w fun e w' => LoosePost w e w' := by
  have HN : Hid (ns.length = len) := hn0
  have HR : Hid (IRow w a (ints ns)) := hr
  clear hn0 hr
  go_enter Tryz.func72, Tryz.ntmps72
  go_wp2
  go_loopw [3, 4, 5, 6] (fun o v ah n wr => ∃ V A N : Nat, v = .int .i64 V ∧ ah = .int .i64 A ∧ n = .int .i64 N ∧ 1 ≤ N ∧ N ≤ 16 ∧ Lz w len N 0 V A o wr) (fun _ _ _ n _ => 16 - (intOf n).toNat)
  case atStart => exact ⟨0, 0, 1, rfl, rfl, rfl, by omega, by omega, [], World.ownsRow_nil _ _ _ _, Below.refl _ _, Nat.zero_le _, .inl ⟨rfl, rfl⟩⟩
  case round =>
    obtain ⟨V, A, N, rfl, rfl, rfl, h1, h16, hrel⟩ := hrel
    have HVA : Hid (Lz w len N 0 V A u3 wr) := hrel
    clear hrel
    by_cases h15 : N ≤ 15
    · have hN15 : decide ((N : Int) ≤ 15) = true := by simp; omega
      go_wp2
      go_loopw [3, 4, 5, 17] (fun o v ah i wr => ∃ V A I : Nat, v = .int .i64 V ∧ ah = .int .i64 A ∧ i = .int .i64 I ∧ I ≤ len ∧ Lz w len N I V A o wr) (fun _ _ _ i _ => len - (intOf i).toNat)
      case atStart => exact ⟨V, A, 0, rfl, rfl, rfl, by omega, HVA.out⟩
      case round =>
        clear HVA
        obtain ⟨V, A, I, rfl, rfl, rfl, hI, hrel⟩ := hrel
        have HVA : Hid (Lz w len N I V A _ wr) := hrel
        have hV : V < 268435456 := hrel.bound hl hI h15
        have HBW : Hid (Below w.heap.size w wr) := by obtain ⟨xs, _, h, _⟩ := hrel; exact h
        clear hrel
        by_cases hlt : I < len
        · obtain ⟨b, off, rfl, hck0⟩ := HR.out.at I (by rw [ints_len]; have := HN.out; omega)
          rw [ints_at] at hck0
          have hck := (HBW.out.cell (p := ⟨b, off + I, none⟩) (cell_lt hck0)).trans hck0
          clear hck0
          by_cases hI2 : hn ns I = N
          · obtain ⟨xs, q1, q3, hx0, hc0⟩ := HVA.out
            obtain ⟨ad, cp, ho⟩ := q1.shape
            subst ho
            have hxs : xs.length ≤ 5000 := Nat.le_trans (Lz.few hl hI h15 hx0) (by decide)
            obtain ⟨v, hcase, hvl, hva2⟩ : ∃ v, (xs.length = 0 ∧ V = v ∨ xs.length ≠ 0 ∧ 1 ≤ A ∧ A ≤ N ∧ (V + 1) * 2 ^ (N - A) = v) ∧ v < 268435456 ∧ v + 1 ≤ (xs.length + 1) * 2 ^ N := Lz.step hl hI h15 hx0 hc0
            have HV2 : Hid (xs.length ≤ (N - 1) * len + I ∧ v + 1 ≤ (xs.length + 1) * 2 ^ N) := ⟨hx0, hva2⟩
            have HQ : Hid (QRow wr w.heap.size (.slice ad xs.length cp) xs ∧ Below w.heap.size w wr) := ⟨q1, q3⟩
            have HXS : Hid (xs.length ≤ 5000) := hxs
            have HSZ : Hid (w.heap.size ≤ wr.heap.size) := q3.size
            obtain ⟨L, hL⟩ : ∃ L, xs.length = L := ⟨_, rfl⟩
            have HLX : Hid (xs.length = L) := hL
            rw [hL] at hxs HQ hcase ⊢
            rw [hI2] at hck
            clear HVA hx0 hc0 hva2 q1 q3 hL HBW
            rcases hcase with ⟨ht, hVv⟩ | ⟨ht, hA1, hA2, hVv⟩
            · obtain rfl : L = 0 := ht
              have hq := hVv.symm
              subst hq
              clear hI2
              obtain ⟨w5, rfl⟩ : ∃ w5, w5 = wr := ⟨_, rfl⟩
              have HB0 : Hid (BtRel w5 w5.heap.size I (mbT v N 0) (w5.alloc (.cells #[.int .i64 I, .slice none 0 0] 152))) := ⟨.slice none 0 0, heap_alloc_new _ _, World.ownsRow_nil _ _ _ _, (Below.refl _ _).alloc (Nat.le_refl _) _, by simp⟩
              go_wp2
              go_loopw [10] (fun i wq => ∃ m j : Nat, j + m = N ∧ i = .int .i64 ((m : Int) - 1) ∧ BtRel w5 w5.heap.size I (mbT v N j) wq) (fun i _ => (intOf i + 1).toNat)
              case atStart => exact ⟨N, 0, by omega, by go_num, HB0.out⟩
              case round =>
                clear HB0 hck
                obtain ⟨m, j, hj, rfl, vb, b1, b2, b3, b4⟩ := hrel
                have HP : ∃ p, w5.heap.size = p := ⟨_, rfl⟩
                obtain ⟨p, hp⟩ := HP
                rw [hp] at b1 b2 b3 b4 HSZ ⊢
                have HP : Hid (w5.heap.size = p) := hp
                clear hp
                obtain ⟨c0, c1, c2⟩ := two_cells b1
                have HB : Hid (wr.heap[p]? = some (.cells #[.int .i64 I, vb] 152 (0, 0)) ∧ wr.ownsRow (p + 1) 3 1 vb (mbT v N j).length (ivals (mbT v N j)) ∧ Below p w5 wr ∧ p < wr.heap.size) := ⟨b1, b2, b3, b4⟩
                clear b1 b2 b3 b4
                cases m with
                | zero =>
                  obtain rfl : j = N := by omega
                  obtain ⟨⟨xw, xb, xn, xc⟩, hvx, hxw, hsy⟩ := own_sy HB.out.2.1 (by intro e; have := mbT_len v j j; rw [e] at this; simp at this; omega) (I : Int)
                  simp only at hvx hxw
                  subst hvx hxw
                  have HK : Hid (QRow (wr.alloc (.cells #[.int .i64 I, .slice (some ⟨xb, 0, none⟩) xn xc] 152)) w.heap.size (.slice ad 0 cp) xs ∧ Below w.heap.size w (wr.alloc (.cells #[.int .i64 I, .slice (some ⟨xb, 0, none⟩) xn xc] 152)) ∧ Sy (wr.alloc (.cells #[.int .i64 I, .slice (some ⟨xb, 0, none⟩) xn xc] 152)) ⟨I, xb, xn, xc⟩ (mb v j)) := by
                    obtain ⟨k1, k3⟩ := HQ.out
                    have hb : Below w5.heap.size w5 (wr.alloc (.cells #[.int .i64 I, .slice (some ⟨xb, 0, none⟩) xn xc] 152)) := by rw [HP.out]; exact HB.out.2.2.1.alloc (Nat.le_of_lt HB.out.2.2.2) _
                    exact ⟨k1.kept hb, k3.trans (hb.mono k3.size), hsy.same (Below.heap_alloc _ _ _ hsy.lt)⟩
                  clear HB hsy
                  go_wp2_with (at_builtin; refine wpList_push_word rfl _ _ rfl w.heap.size _ xs rfl HK.out.1 ⟨I, xb, xn, xc⟩ wr.heap.size rfl (heap_alloc_new _ _) (Nat.le_trans HXS.out (by omega)) HK.out.2.1.size ?_)
                  intro v' w' hp' hg'
                  have R : Hid (Lz w len j (I + 1) v j v' w') := by
                    obtain ⟨k1, k3, k4⟩ := HK.out
                    refine ⟨_, hp', Fr.below k3 (Fr.grown (r := w.heap.size) hg') (Nat.le_refl _) (QRow.blk k1) k3.size, ?_, .inr ⟨?_, h1, Nat.le_refl _, ?_⟩⟩
                    · rw [List.length_append, List.length_singleton]; have := HV2.out.1; omega
                    · rw [List.length_append, List.length_singleton]; omega
                    · rw [List.length_append, List.length_singleton]; exact HV2.out.2
                  clear HK hp' hg'
                  go_wp2
                  go_roundw
                  case rel => exact ⟨v, j, I + 1, rfl, rfl, by go_num, by omega, R.out⟩
                  case measure => simp [intOf]; omega
                | succ m =>
                  rw [show ((m + 1 : Nat) : Int) - 1 = (m : Int) from by omega]
                  have hwm : IntKind.u64.wrap (m : Int) = (m : Int) := by rw [IntKind.wrap_u64]; omega
                  have hz : bits .and .i64 ((v : Int) / 2 ^ m) 1 = ((v / 2 ^ m % 2 : Nat) : Int) := by rw [i64_maskI _ 1 1 (by omega) (by decide)]; norm_cast
                  have HM : Hid (mbT v N j ++ [((v / 2 ^ m % 2 : Nat) : Int)] = mbT v N (j + 1)) := by show _ = _; rw [mbT, show N - 1 - j = m by omega]
                  generalize v / 2 ^ m % 2 = z at *
                  go_wp2_with (at_builtin; refine wpList_push_bit rfl _ _ rfl (p + 1) _ (mbT v N j) rfl (own_kept HB.out.2.1 fun k _ hk => Below.heap_alloc _ _ _ hk) (z : Int) wr.heap.size rfl (heap_alloc_new _ _) (by rw [mbT_len]; omega) (by have := HB.out.2.2.2; simp; omega) ?_)
                  intro v' w' hown hg
                  have HW : Hid (w'.heap[p]? = some (.cells #[.int .i64 I, vb] 152 (0, 0)) ∧ w'.ownsRow (p + 1) 3 1 v' (mbT v N (j + 1)).length (ivals (mbT v N (j + 1))) ∧ Below p w5 w' ∧ p < w'.heap.size) := by
                    obtain ⟨b1, b2, b3, b4⟩ := HB.out
                    have hne : ∀ k, vb.ownBlock = some k → p + 1 ≤ k := own_blk b2
                    have hs := hg.size
                    simp at hs
                    refine ⟨(hg.block p (by simp; omega) (fun e => by have := hne p e.symm; omega)).trans ((Below.heap_alloc _ _ _ b4).trans b1), by rw [← HM.out, List.length_append]; exact hown, ?_, by omega⟩
                    exact Fr.below (b3.alloc (Nat.le_of_lt b4) _) (Fr.grown (r := p) hg) (Nat.le_refl _) (fun k hk => by have := hne k hk; omega) (by simp; omega)
                  have hsh : ∃ g' n' c', v' = .slice (some ⟨g', 0, none⟩) n' c' := by
                    rcases hown.2 with ⟨_, h0⟩ | ⟨g', cap', cur, h, _⟩
                    · simp at h0
                    · exact ⟨_, _, _, h⟩
                  obtain ⟨g', n', c', hsh⟩ := hsh
                  subst hsh
                  clear hown hg HB HM c0 c1 c2
                  obtain ⟨c0, c1, c2⟩ := two_cells HW.out.1
                  have HX : Hid (BtRel w5 p I (mbT v N (j + 1)) (w'.setCell ⟨p, 1, none⟩ (.slice (some ⟨g', 0, none⟩) n' c'))) := by
                    obtain ⟨b1, b2, b3, b4⟩ := HW.out
                    refine ⟨_, two_set1 b1, own_kept b2 (fun k h1 _ => Below.heap_setCell _ _ _ _ (by simp; omega)), b3.setCell (Nat.le_refl _) _, by simpa [World.setCell] using b4⟩
                  clear HW
                  go_wp2
                  go_roundw
                  case rel => exact ⟨m, j + 1, by omega, by go_num, HX.out⟩
                  case measure => simp [intOf]
            · have hLp : (0 : Int) < (L : Int) := by omega
              have hL1 : decide ((0 : Int) < (L : Int)) = true := by simp; omega
              have hL2 : decide (0 < L) = true := by simp; omega
              have hwn : IntKind.u64.wrap ((N : Int) - (A : Int)) = (N : Int) - (A : Int) := by rw [IntKind.wrap_u64]; omega
              have hpw : wrap64 (((V : Int) + 1) * 2 ^ (N - A)) = (v : Int) := by
                rw [show ((V : Int) + 1) * 2 ^ (N - A) = (v : Int) by rw [← hVv]; norm_cast]
                unfold wrap64; omega
              clear ht hVv
              clear hI2
              obtain ⟨w5, rfl⟩ : ∃ w5, w5 = wr := ⟨_, rfl⟩
              have HB0 : Hid (BtRel w5 w5.heap.size I (mbT v N 0) (w5.alloc (.cells #[.int .i64 I, .slice none 0 0] 152))) := ⟨.slice none 0 0, heap_alloc_new _ _, World.ownsRow_nil _ _ _ _, (Below.refl _ _).alloc (Nat.le_refl _) _, by simp⟩
              go_wp2
              rw [hpw]
              clear hpw
              go_loopw [10] (fun i wq => ∃ m j : Nat, j + m = N ∧ i = .int .i64 ((m : Int) - 1) ∧ BtRel w5 w5.heap.size I (mbT v N j) wq) (fun i _ => (intOf i + 1).toNat)
              case atStart => exact ⟨N, 0, by omega, by go_num, HB0.out⟩
              case round =>
                clear HB0 hck
                obtain ⟨m, j, hj, rfl, vb, b1, b2, b3, b4⟩ := hrel
                have HP : ∃ p, w5.heap.size = p := ⟨_, rfl⟩
                obtain ⟨p, hp⟩ := HP
                rw [hp] at b1 b2 b3 b4 HSZ ⊢
                have HP : Hid (w5.heap.size = p) := hp
                clear hp
                obtain ⟨c0, c1, c2⟩ := two_cells b1
                have HB : Hid (wr.heap[p]? = some (.cells #[.int .i64 I, vb] 152 (0, 0)) ∧ wr.ownsRow (p + 1) 3 1 vb (mbT v N j).length (ivals (mbT v N j)) ∧ Below p w5 wr ∧ p < wr.heap.size) := ⟨b1, b2, b3, b4⟩
                clear b1 b2 b3 b4
                cases m with
                | zero =>
                  obtain rfl : j = N := by omega
                  obtain ⟨⟨xw, xb, xn, xc⟩, hvx, hxw, hsy⟩ := own_sy HB.out.2.1 (by intro e; have := mbT_len v j j; rw [e] at this; simp at this; omega) (I : Int)
                  simp only at hvx hxw
                  subst hvx hxw
                  have HK : Hid (QRow (wr.alloc (.cells #[.int .i64 I, .slice (some ⟨xb, 0, none⟩) xn xc] 152)) w.heap.size (.slice ad L cp) xs ∧ Below w.heap.size w (wr.alloc (.cells #[.int .i64 I, .slice (some ⟨xb, 0, none⟩) xn xc] 152)) ∧ Sy (wr.alloc (.cells #[.int .i64 I, .slice (some ⟨xb, 0, none⟩) xn xc] 152)) ⟨I, xb, xn, xc⟩ (mb v j)) := by
                    obtain ⟨k1, k3⟩ := HQ.out
                    have hb : Below w5.heap.size w5 (wr.alloc (.cells #[.int .i64 I, .slice (some ⟨xb, 0, none⟩) xn xc] 152)) := by rw [HP.out]; exact HB.out.2.2.1.alloc (Nat.le_of_lt HB.out.2.2.2) _
                    exact ⟨k1.kept hb, k3.trans (hb.mono k3.size), hsy.same (Below.heap_alloc _ _ _ hsy.lt)⟩
                  clear HB hsy
                  go_wp2_with (at_builtin; refine wpList_push_word rfl _ _ rfl w.heap.size _ xs rfl HK.out.1 ⟨I, xb, xn, xc⟩ wr.heap.size rfl (heap_alloc_new _ _) (Nat.le_trans HXS.out (by omega)) HK.out.2.1.size ?_)
                  intro v' w' hp' hg'
                  have R : Hid (Lz w len j (I + 1) v j v' w') := by
                    obtain ⟨k1, k3, k4⟩ := HK.out
                    refine ⟨_, hp', Fr.below k3 (Fr.grown (r := w.heap.size) hg') (Nat.le_refl _) (QRow.blk k1) k3.size, ?_, .inr ⟨?_, h1, Nat.le_refl _, ?_⟩⟩
                    · rw [List.length_append, List.length_singleton]; have := HV2.out.1; omega
                    · rw [List.length_append, List.length_singleton]; omega
                    · rw [List.length_append, List.length_singleton]; exact HV2.out.2
                  clear HK hp' hg'
                  go_wp2
                  go_roundw
                  case rel => exact ⟨v, j, I + 1, rfl, rfl, by go_num, by omega, R.out⟩
                  case measure => simp [intOf]; omega
                | succ m =>
                  rw [show ((m + 1 : Nat) : Int) - 1 = (m : Int) from by omega]
                  have hwm : IntKind.u64.wrap (m : Int) = (m : Int) := by rw [IntKind.wrap_u64]; omega
                  have hz : bits .and .i64 ((v : Int) / 2 ^ m) 1 = ((v / 2 ^ m % 2 : Nat) : Int) := by rw [i64_maskI _ 1 1 (by omega) (by decide)]; norm_cast
                  have HM : Hid (mbT v N j ++ [((v / 2 ^ m % 2 : Nat) : Int)] = mbT v N (j + 1)) := by show _ = _; rw [mbT, show N - 1 - j = m by omega]
                  generalize v / 2 ^ m % 2 = z at *
                  go_wp2_with (at_builtin; refine wpList_push_bit rfl _ _ rfl (p + 1) _ (mbT v N j) rfl (own_kept HB.out.2.1 fun k _ hk => Below.heap_alloc _ _ _ hk) (z : Int) wr.heap.size rfl (heap_alloc_new _ _) (by rw [mbT_len]; omega) (by have := HB.out.2.2.2; simp; omega) ?_)
                  intro v' w' hown hg
                  have HW : Hid (w'.heap[p]? = some (.cells #[.int .i64 I, vb] 152 (0, 0)) ∧ w'.ownsRow (p + 1) 3 1 v' (mbT v N (j + 1)).length (ivals (mbT v N (j + 1))) ∧ Below p w5 w' ∧ p < w'.heap.size) := by
                    obtain ⟨b1, b2, b3, b4⟩ := HB.out
                    have hne : ∀ k, vb.ownBlock = some k → p + 1 ≤ k := own_blk b2
                    have hs := hg.size
                    simp at hs
                    refine ⟨(hg.block p (by simp; omega) (fun e => by have := hne p e.symm; omega)).trans ((Below.heap_alloc _ _ _ b4).trans b1), by rw [← HM.out, List.length_append]; exact hown, ?_, by omega⟩
                    exact Fr.below (b3.alloc (Nat.le_of_lt b4) _) (Fr.grown (r := p) hg) (Nat.le_refl _) (fun k hk => by have := hne k hk; omega) (by simp; omega)
                  have hsh : ∃ g' n' c', v' = .slice (some ⟨g', 0, none⟩) n' c' := by
                    rcases hown.2 with ⟨_, h0⟩ | ⟨g', cap', cur, h, _⟩
                    · simp at h0
                    · exact ⟨_, _, _, h⟩
                  obtain ⟨g', n', c', hsh⟩ := hsh
                  subst hsh
                  clear hown hg HB HM c0 c1 c2
                  obtain ⟨c0, c1, c2⟩ := two_cells HW.out.1
                  have HX : Hid (BtRel w5 p I (mbT v N (j + 1)) (w'.setCell ⟨p, 1, none⟩ (.slice (some ⟨g', 0, none⟩) n' c'))) := by
                    obtain ⟨b1, b2, b3, b4⟩ := HW.out
                    refine ⟨_, two_set1 b1, own_kept b2 (fun k h1 _ => Below.heap_setCell _ _ _ _ (by simp; omega)), b3.setCell (Nat.le_refl _) _, by simpa [World.setCell] using b4⟩
                  clear HW
                  go_wp2
                  go_roundw
                  case rel => exact ⟨m, j + 1, by omega, by go_num, HX.out⟩
                  case measure => simp [intOf]
          · have hneb : ((hn ns I : Int) == (N : Int)) = false := by simp; omega
            have HV2 : Hid (Lz w len N (I + 1) V A u3 wr) := by
              obtain ⟨xs, q1, q3, q4, q5⟩ := HVA.out
              exact ⟨xs, q1, q3, by omega, q5⟩
            clear HVA
            go_wp2
            go_roundw
            case rel => exact ⟨V, A, I + 1, rfl, rfl, by go_num, by omega, HV2.out⟩
            case measure => simp [intOf]; omega
        · obtain rfl : I = len := by omega
          have HV2 : Hid (Lz w I (N + 1) 0 V A u3 wr) := by
            obtain ⟨xs, q1, q3, q4, q5⟩ := HVA.out
            refine ⟨xs, q1, q3, ?_, ?_⟩
            · rw [Nat.add_sub_cancel, Nat.add_zero, show N * I = (N - 1) * I + I from by rw [← Nat.succ_mul, Nat.succ_eq_add_one, Nat.sub_add_cancel h1]]; exact q4
            · rcases q5 with h | ⟨h2, h3, h4, h5⟩
              · exact .inl h
              · exact .inr ⟨h2, h3, by omega, h5⟩
          clear HVA
          go_wp2
          go_roundw
          case rel => exact ⟨V, A, N + 1, rfl, rfl, by go_num, by omega, by omega, HV2.out⟩
          case measure => simp [intOf]; omega
    · obtain rfl : N = 16 := by omega
      have R : Hid (LoosePost w (.returned u3) wr) := by
        obtain ⟨xs, q1, q3, _⟩ := HVA.out
        obtain ⟨ad, cp, h⟩ := q1.shape
        exact ⟨ad, _, cp, by rw [h], q3⟩
      clear HVA
      go_wp2
      go_ret
      exact R.out
end Go.Proofs.YtloagniacjfkfaaGreatDoor
/- A told block's lengths: the run beside the machine, without a program. -/
namespace Go.Proofs.YtloagniacjfkfaaGreatDoor
open Go.RowKit
section
variable {limN : Nat} {s : St} {l out : List Int} {last : Bool} {L : List Nat} {lits all : Nat}
/-- The machine reads lengths, with those of rows told. -/
def At5 (limN : Nat) (s : St) (l : List Int) (last : Bool) (out : List Int) (L : List Nat) (lits all : Nat) (rows : List Nat) (B : List Int) : Prop :=
  ∃ s1 : St, s1.now = 5 ∧ s1.lc = some L ∧ s1.row = rows ∧ s1.lits = lits ∧ s1.all = all ∧ s1.out = out ∧ s1.last = last ∧ Sub limN s l s1 B
/-- The machine puts nn times vv behind rows. -/
def LenS (limN : Nat) (s : St) (l : List Int) (last : Bool) (out : List Int) (L : List Nat) (lits all : Nat) (rows : List Nat) (vv nn : Nat) (B : List Int) : Prop :=
  ∃ (s1 : St) (l1 : List Int) (n : Nat) (s2 : St), s1.now ≤ 10 ∧ Sub limN s l s1 l1 ∧ item limN s1 l1 = lengL s2 vv nn n ∧ s2.now = 5 ∧ s2.lc = some L ∧ s2.row = rows ∧ s2.lits = lits ∧ s2.all = all ∧ s2.out = out ∧ s2.last = last ∧ l1.drop n = B
/-- The machine has all lengths. -/
def EndS (limN : Nat) (s : St) (l : List Int) (last : Bool) (out : List Int) (lits : Nat) (rows : List Nat) (B : List Int) : Prop :=
  ∃ (s1 : St) (l1 : List Int) (n : Nat) (s2 : St), s1.now ≤ 10 ∧ Sub limN s l s1 l1 ∧ item limN s1 l1 = endL s2 n ∧ s2.row = rows ∧ s2.lits = lits ∧ s2.out = out ∧ s2.last = last ∧ l1.drop n = B
theorem counts_said {B : List Int} (hs : Sub limN s l s B) (h3 : s.now = 3) :
    (B.length < 14 → ∀ B1, Says limN s l last 2 s.out B1) ∧
    (14 ≤ B.length → 286 < bV B 0 5 + 257 ∨ 30 < bV B 5 5 + 1 → ∀ B1, Says limN s l last 5 s.out B1) ∧
    (14 ≤ B.length → bV B 0 5 + 257 ≤ 286 → bV B 5 5 + 1 ≤ 30 → Sub limN s l { clr s with lits := bV B 0 5 + 257, all := bV B 0 5 + 257 + (bV B 5 5 + 1), cl := bV B 10 4 + 4, now := 4 } (B.drop 14)) := by
  have hi : item limN s B = itCounts s B := by unfold item; rw [h3]; rfl
  refine ⟨fun h B1 => ?_, fun h h' B1 => ?_, fun h h1 h2 => ?_⟩
  · exact hs.short (by omega) (by rw [hi, itCounts, if_pos h]) rfl
  · exact hs.bad (by omega) (by rw [hi, itCounts, if_neg (by omega), if_pos h']) (by decide) (by decide)
  · exact hs.ok (by omega) (by rw [hi, itCounts, if_neg (by omega), if_neg (by omega)])
theorem code_said {s4 : St} {B : List Int} (hs : Sub limN s l s4 B) (h4 : s4.now = 4) (ho : s4.out = out) (hll : s4.last = last) (hrow : s4.row = []) :
    (B.length < 3 * s4.cl → ∀ B1, Says limN s l last 2 out B1) ∧
    (3 * s4.cl ≤ B.length → wholeB (ints (clL B s4.cl)) = false ∨ wordsN (ints (clL B s4.cl)) = 0 → ∀ B1, Says limN s l last 5 out B1) ∧
    (3 * s4.cl ≤ B.length → ¬ (wholeB (ints (clL B s4.cl)) = false ∨ wordsN (ints (clL B s4.cl)) = 0) → At5 limN s l last out (clL B s4.cl) s4.lits s4.all [] (B.drop (3 * s4.cl))) := by
  subst ho
  have hi : item limN s4 B = itCode s4 B := by unfold item; rw [h4]; rfl
  refine ⟨fun h B1 => ?_, fun h h' B1 => ?_, fun h h1 => ?_⟩
  · exact hs.short (by omega) (by rw [hi, itCode, if_pos h]) rfl
  · exact hs.bad (by omega) (by rw [hi, itCode, if_neg (by omega), if_pos h']) (by decide) (by decide)
  · have hs' := hs.ok (by omega) ((hi.trans (by rw [itCode, if_neg (by omega), if_neg h1])) : item limN s4 B = .ok { s4 with lc := some (clL B s4.cl), now := 5 } (3 * s4.cl))
    exact ⟨{ s4 with lc := some (clL B s4.cl), now := 5 }, rfl, rfl, hrow, rfl, rfl, rfl, hll, hs'⟩
theorem again_said {s1 : St} {B1 : List Int} {rows : List Nat} {ag lst nb : Nat} (h6 : s1.now = 6) (hlc : s1.lc = some L) (hr : s1.row = rows) (hl1 : s1.lits = lits) (hl2 : s1.all = all) (ho : s1.out = out) (hll : s1.last = last) (hag : s1.again = ag) (hls : s1.least = lst) (hnb : s1.nb = nb) (hs : Sub limN s l s1 B1) {o : Int × List Int × Int} (h1 : tkR 0 B1 nb = o) :
    (o.2.2 ≠ 0 → ∀ B, Says limN s l last o.2.2 out B) ∧ (o.2.2 = 0 → LenS limN s l last out L lits all rows ag (lst + o.1.toNat) o.2.1) := by
  subst hag hls hnb
  have hi : item limN s1 B1 = itAgain s1 B1 := by unfold item; rw [h6]; rfl
  by_cases hsh : B1.length < s1.nb
  · have e1 : o = (0, B1, 2) := by rw [← h1]; unfold tkR; rw [if_neg (by decide), if_pos hsh]
    subst e1
    exact ⟨fun _ B => hs.short (by omega) (by rw [hi, itAgain, if_pos hsh]) ho, (fun e => by cases e)⟩
  · have e1 : o = ((bV B1 0 s1.nb : Int), B1.drop s1.nb, 0) := by rw [← h1]; unfold tkR; rw [if_neg (by decide), if_neg hsh]
    subst e1
    exact ⟨fun e => absurd rfl e, fun _ => ⟨s1, B1, s1.nb, { s1 with now := 5 }, by omega, hs, by rw [hi, itAgain, if_neg hsh]; rfl, rfl, hlc, hr, hl1, hl2, ho, hll, rfl⟩⟩
/-- A symbol of the lengths' code, and what stands behind it. -/
theorem lens_said {rows : List Nat} {B : List Int} (h : At5 limN s l last out L lits all rows B) :
    ((nxL L B).2.1 ≠ 0 → ∀ B1, Says limN s l last (nxL L B).2.1 out B1) ∧
    ((nxL L B).2.1 = 0 →
      ((nxL L B).1 = 16 → rows = [] → ∀ B1, Says limN s l last 5 out B1) ∧
      ((nxL L B).1 = 16 → rows ≠ [] → ∀ o, tkR 0 (B.drop (nxL L B).2.2) 2 = o → (o.2.2 ≠ 0 → ∀ B1, Says limN s l last o.2.2 out B1) ∧ (o.2.2 = 0 → LenS limN s l last out L lits all rows (rows[rows.length - 1]?.getD 0) (3 + o.1.toNat) o.2.1)) ∧
      ((nxL L B).1 = 17 → ∀ o, tkR 0 (B.drop (nxL L B).2.2) 3 = o → (o.2.2 ≠ 0 → ∀ B1, Says limN s l last o.2.2 out B1) ∧ (o.2.2 = 0 → LenS limN s l last out L lits all rows 0 (3 + o.1.toNat) o.2.1)) ∧
      ((nxL L B).1 = 18 → ∀ o, tkR 0 (B.drop (nxL L B).2.2) 7 = o → (o.2.2 ≠ 0 → ∀ B1, Says limN s l last o.2.2 out B1) ∧ (o.2.2 = 0 → LenS limN s l last out L lits all rows 0 (11 + o.1.toNat) o.2.1)) ∧
      ((nxL L B).1 < 16 → LenS limN s l last out L lits all rows (nxL L B).1.toNat 1 (B.drop (nxL L B).2.2))) := by
  obtain ⟨s1, h5, hlc, hr, hl1, hl2, ho, hll, hs⟩ := h
  subst hr hl1 hl2 ho hll
  have hi : item limN s1 B = itLens s1 B := by unfold item; rw [h5]; rfl
  unfold itLens at hi
  have hg : s1.lc.getD [] = L := by rw [hlc]; rfl
  simp only [hg] at hi
  refine ⟨fun he B1 => ?_, fun he => ⟨fun h16 h0 B1 => ?_, fun h16 h0 o ho1 => ?_, fun h17 o ho1 => ?_, fun h18 o ho1 => ?_, fun h => ?_⟩⟩
  · by_cases h2 : (nxL L B).2.1 = 2
    · rw [if_pos h2] at hi
      rw [h2]
      exact hs.short (by omega) hi rfl
    · rw [if_neg h2, if_pos he] at hi
      exact hs.bad (by omega) hi he h2
  · rw [if_neg (by omega), if_neg (by omega), if_pos h16, if_pos h0] at hi
    exact hs.bad (by omega) hi (by decide) (by decide)
  · rw [if_neg (by omega), if_neg (by omega), if_pos h16, if_neg h0] at hi
    have hs' := hs.ok (by omega) hi
    refine again_said ?_ ?_ ?_ ?_ ?_ ?_ ?_ ?_ ?_ ?_ hs' ho1 <;> first | rfl | assumption
  · rw [if_neg (by omega), if_neg (by omega), if_neg (by omega), if_pos h17] at hi
    have hs' := hs.ok (by omega) hi
    refine again_said ?_ ?_ ?_ ?_ ?_ ?_ ?_ ?_ ?_ ?_ hs' ho1 <;> first | rfl | assumption
  · rw [if_neg (by omega), if_neg (by omega), if_neg (by omega), if_neg (by omega), if_pos h18] at hi
    have hs' := hs.ok (by omega) hi
    refine again_said ?_ ?_ ?_ ?_ ?_ ?_ ?_ ?_ ?_ ?_ hs' ho1 <;> first | rfl | assumption
  · rw [if_neg (by omega), if_neg (by omega), if_neg (by omega), if_neg (by omega), if_neg (by omega)] at hi
    exact ⟨s1, B, _, _, by omega, hs, hi, rfl, hlc, rfl, rfl, rfl, rfl, rfl, rfl⟩
theorem leng_said {rows : List Nat} {vv nn : Nat} {B : List Int} (h : LenS limN s l last out L lits all rows vv nn B) :
    (all < rows.length + nn → ∀ B1, Says limN s l last 5 out B1) ∧ (rows.length + nn < all → At5 limN s l last out L lits all (rows ++ List.replicate nn vv) B) ∧
    (rows.length + nn = all → EndS limN s l last out lits (rows ++ List.replicate nn vv) B) := by
  obtain ⟨s1, l1, n, s2, h10, hs, hi, h5, hlc, hr, hl1, hl2, ho, hll, hB⟩ := h
  subst hr hl1 hl2 ho hll
  unfold lengL at hi
  refine ⟨fun h B1 => ?_, fun h => ?_, fun h => ?_⟩
  · rw [if_pos h] at hi
    exact hs.bad h10 hi (by decide) (by decide)
  · rw [if_neg (by omega), if_pos h] at hi
    have := hs.ok h10 hi
    rw [hB] at this
    exact ⟨{ s2 with row := s2.row ++ List.replicate nn vv }, h5, hlc, rfl, rfl, rfl, rfl, rfl, this⟩
  · rw [if_neg (by omega), if_neg (by omega)] at hi
    exact ⟨s1, l1, n, _, h10, hs, hi, rfl, rfl, rfl, rfl, hB⟩
theorem end_said {rows : List Nat} {B : List Int} (h : EndS limN s l last out lits rows B) :
    ((rows[256]?.getD 0) = 0 ∨ wholeB (ints (rows.take lits)) = false ∨ wholeB (ints (rows.drop lits)) = false → ∀ B1, Says limN s l last 5 out B1) ∧
    (¬ ((rows[256]?.getD 0) = 0 ∨ wholeB (ints (rows.take lits)) = false ∨ wholeB (ints (rows.drop lits)) = false) → ∃ s1 : St, s1.now = 7 ∧ s1.la = some (rows.take lits) ∧ s1.da = some (rows.drop lits) ∧ s1.out = out ∧ s1.last = last ∧ Sub limN s l s1 B) := by
  obtain ⟨s1, l1, n, s2, h10, hs, hi, hr, hl1, ho, hll, hB⟩ := h
  subst hr hl1 ho hll
  unfold endL at hi
  refine ⟨fun h B1 => ?_, fun h => ?_⟩
  · rw [if_pos h] at hi
    exact hs.bad h10 hi (by decide) (by decide)
  · rw [if_neg h] at hi
    have := hs.ok h10 hi
    rw [hB] at this
    exact ⟨{ clr s2 with la := some (s2.row.take s2.lits), da := some (s2.row.drop s2.lits), now := 7 }, rfl, rfl, rfl, rfl, rfl, this⟩
end
theorem ints_ok {ns : List Nat} (hl : ns.length ≤ 288) (h : ∀ x ∈ ns, x ≤ 15) : okLens (ints ns) = true := by
  refine okLens_yes (by rw [ints_len]; exact hl) fun k hk => ?_
  rw [ints_len] at hk
  rw [ints_at]
  unfold hn
  rw [List.getElem?_eq_getElem hk]
  have := h _ (List.getElem_mem hk)
  simp only [Option.getD_some]
  omega
theorem ints_cd {ns : List Nat} (hl : ns.length ≤ 288) (h : ∀ x ∈ ns, x ≤ 15) (hw : wholeB (ints ns) = true) : Cd ns := by
  have := whole_cd (ints_ok hl h) hw
  have e : (ints ns).map Int.toNat = ns := by simp [ints, Function.comp_def]
  rw [e] at this
  exact this
theorem checkV_ints {ns : List Nat} (hl : ns.length ≤ 288) (h : ∀ x ∈ ns, x ≤ 15) : checkV (ints ns) = if wholeB (ints ns) then 0 else 5 := by
  unfold checkV; rw [ints_ok hl h]; rfl
end Go.Proofs.YtloagniacjfkfaaGreatDoor
