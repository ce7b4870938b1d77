/- The reference's Words, and Put. -/
import Derived.Test.YtjellgkojmgmjaaHjA
import Derived.Test.YtjellgkojmgmjaaMaskI
namespace Go.Proofs.Ytjellgkojmgmjaa
open Go.RowKit

def WdRel (w : World) (ns : List Nat) (n i : Nat) (o : Value) (wr : World) : Prop :=
  ∃ xs, QRow wr w.heap.size o xs ∧ PS wr xs (told ns n i) ∧ Below w.heap.size w wr
def WordsPost (w : World) (ns : List Nat) (e : Ending) (w' : World) : Prop :=
  ∃ v xs, e = .returned v ∧ QRow w' w.heap.size v xs ∧ PS w' xs (wds ns) ∧ Below w.heap.size w w'
/-- A word under way: in block p, its bits so far. -/
def BtRel (wr : World) (p : Nat) (s : Int) (l : List Int) (wq : World) : Prop :=
  ∃ vb, wq.heap[p]? = some (.cells #[.int .i64 s, vb] 34 (0, 0)) ∧ wq.ownsRow (p + 1) 3 1 vb l.length (ivals l) ∧ Below p wr wq ∧ p < wq.heap.size
set_option maxHeartbeats 1600000 in
set_option maxRecDepth 20000 in
theorem words_any (a : Option Addr) (len cap : Nat) (ns : List Nat) (w : World) (hn0 : ns.length = len) (hc : Cd ns) (hr : IRow w a (ints ns)) :
    Calls Try.prog 13 #[.slice a len cap] w fun e w' => WordsPost w ns e w' := by
  have HN : Hid (ns.length = len) := hn0
  have HR : Hid (IRow w a (ints ns)) := hr
  have HC : Hid (Cd ns) := hc
  have hl : len ≤ 288 := by rw [← hn0]; exact hc.few
  clear hn0 hr hc
  go_enter Try.func13, Try.ntmps13
  go_wp2
  go_loopw [3, 4, 5, 6] (fun o v ah n wr => ∃ V A N : Nat, v = .int .i64 V ∧ ah = .int .i64 A ∧ n = .int .i64 N ∧ 1 ≤ N ∧ N ≤ 16 ∧ VA ns N 0 V A ∧ WdRel w ns N 0 o wr) (fun _ _ _ n _ => 16 - (intOf n).toNat)
  case atStart => exact ⟨0, 0, 1, rfl, rfl, rfl, by omega, by omega, VA.start ns 0, [], World.ownsRow_nil _ _ _ _, .nil, Below.refl _ _⟩
  case round =>
    obtain ⟨V, A, N, rfl, rfl, rfl, h1, h16, hva, hrel⟩ := hrel
    have HVA : Hid (VA ns N 0 V A ∧ WdRel w ns N 0 u3 wr) := ⟨hva, hrel⟩
    clear hva hrel
    by_cases h15 : N ≤ 15
    · have hN15 : decide ((N : Int) ≤ 15) = true := by simp; omega
      go_wp2
      go_loopw [3, 4, 5, 17] (fun o v ah i wr => ∃ V A I : Nat, v = .int .i64 V ∧ ah = .int .i64 A ∧ i = .int .i64 I ∧ I ≤ len ∧ VA ns N I V A ∧ WdRel w ns N I o wr) (fun _ _ _ i _ => len - (intOf i).toNat)
      case atStart => exact ⟨V, A, 0, rfl, rfl, rfl, by omega, HVA.out.1, HVA.out.2⟩
      case round =>
        clear HVA
        obtain ⟨V, A, I, rfl, rfl, rfl, hI, hva, hrel⟩ := hrel
        have HVA : Hid (VA ns N I V A ∧ WdRel w ns N I _ wr) := ⟨hva, hrel⟩
        have hV : V < 32768 := hva.bound HC.out h1
        have HBW : Hid (Below w.heap.size w wr) := by obtain ⟨xs, _, _, h⟩ := hrel; exact h
        clear hva hrel
        by_cases hlt : I < len
        · obtain ⟨b, off, rfl, hck0⟩ := HR.out.at I (by rw [ints_len]; have := HN.out; omega)
          rw [ints_at] at hck0
          have hck := (HBW.out.cell (p := ⟨b, off + I, none⟩) (cell_lt hck0)).trans hck0
          clear hck0
          by_cases hI2 : hn ns I = N
          · obtain ⟨hva, xs, q1, q2, q3⟩ := HVA.out
            obtain ⟨ad, cp, ho⟩ := q1.shape
            subst ho
            have hxl : xs.length = (told ns N I).length := All2.len q2
            have hxs : xs.length ≤ 576 := by
              have := told_len (ns := ns) N I (by rw [HN.out]; exact hI)
              have := HN.out
              omega
            obtain ⟨hcase, hva2⟩ := hva.yes HC.out hI2 h1 h15
            have HTO : Hid (told ns N (I + 1) = told ns N I ++ [((I : Int), mb (hv ns I) N)]) := told_yes ns hI2
            have hvl : hv ns I < 32768 := by
              have := HC.out.lt I
              rw [hI2] at this
              have e : 2 ^ N ≤ 2 ^ 15 := Nat.pow_le_pow_right (by omega) h15
              omega
            have HV2 : Hid (VA ns N (I + 1) (hv ns I) N) := hva2
            have HQ : Hid (QRow wr w.heap.size (.slice ad xs.length cp) xs ∧ PS wr xs (told ns N I) ∧ Below w.heap.size w wr) := ⟨q1, q2, q3⟩
            have HXS : Hid (xs.length ≤ 576) := hxs
            have HSZ : Hid (w.heap.size ≤ wr.heap.size) := q3.size
            obtain ⟨v, hvv⟩ : ∃ v, hv ns I = v := ⟨_, rfl⟩
            rw [hvv] at hvl HTO HV2 hcase
            obtain ⟨L, hL⟩ : ∃ L, xs.length = L := ⟨_, rfl⟩
            rw [hL] at hxl hxs HQ ⊢
            rw [hI2] at hck
            clear HVA hva hva2 q1 q2 q3 hvv hL HBW
            rcases hcase with ⟨ht, hVv⟩ | ⟨ht, hA1, hA2, hVv⟩
            · rw [ht] at hxl
              obtain rfl : L = 0 := hxl
              have hq := hVv.symm
              subst hq
              clear ht
              clear hI2
              obtain ⟨w5, rfl⟩ : ∃ w5, w5 = wr := ⟨_, rfl⟩
              have HB0 : Hid (BtRel w5 w5.heap.size I (mbT v N 0) (w5.alloc (.cells #[.int .i64 I, .slice none 0 0] 34))) := ⟨.slice none 0 0, heap_alloc_new _ _, World.ownsRow_nil _ _ _ _, (Below.refl _ _).alloc (Nat.le_refl _) _, by simp⟩
              go_wp2
              go_loopw [10] (fun i wq => ∃ m j : Nat, j + m = N ∧ i = .int .i64 ((m : Int) - 1) ∧ BtRel w5 w5.heap.size I (mbT v N j) wq) (fun i _ => (intOf i + 1).toNat)
              case atStart => exact ⟨N, 0, by omega, by go_num, HB0.out⟩
              case round =>
                clear HB0 hck
                obtain ⟨m, j, hj, rfl, vb, b1, b2, b3, b4⟩ := hrel
                have HP : ∃ p, w5.heap.size = p := ⟨_, rfl⟩
                obtain ⟨p, hp⟩ := HP
                rw [hp] at b1 b2 b3 b4 HSZ ⊢
                have HP : Hid (w5.heap.size = p) := hp
                clear hp
                obtain ⟨c0, c1, c2⟩ := two_cells b1
                have HB : Hid (wr.heap[p]? = some (.cells #[.int .i64 I, vb] 34 (0, 0)) ∧ wr.ownsRow (p + 1) 3 1 vb (mbT v N j).length (ivals (mbT v N j)) ∧ Below p w5 wr ∧ p < wr.heap.size) := ⟨b1, b2, b3, b4⟩
                clear b1 b2 b3 b4
                cases m with
                | zero =>
                  obtain rfl : j = N := by omega
                  obtain ⟨⟨xw, xb, xn, xc⟩, hvx, hxw, hsy⟩ := own_sy HB.out.2.1 (by intro e; have := mbT_len v j j; rw [e] at this; simp at this; omega) (I : Int)
                  simp only at hvx hxw
                  subst hvx hxw
                  have HK : Hid (QRow (wr.alloc (.cells #[.int .i64 I, .slice (some ⟨xb, 0, none⟩) xn xc] 34)) w.heap.size (.slice ad 0 cp) xs ∧ PS (wr.alloc (.cells #[.int .i64 I, .slice (some ⟨xb, 0, none⟩) xn xc] 34)) xs (told ns j I) ∧ Below w.heap.size w (wr.alloc (.cells #[.int .i64 I, .slice (some ⟨xb, 0, none⟩) xn xc] 34)) ∧ Sy (wr.alloc (.cells #[.int .i64 I, .slice (some ⟨xb, 0, none⟩) xn xc] 34)) ⟨I, xb, xn, xc⟩ (mb v j)) := by
                    obtain ⟨k1, k2, k3⟩ := HQ.out
                    have hb : Below w5.heap.size w5 (wr.alloc (.cells #[.int .i64 I, .slice (some ⟨xb, 0, none⟩) xn xc] 34)) := by rw [HP.out]; exact HB.out.2.2.1.alloc (Nat.le_of_lt HB.out.2.2.2) _
                    exact ⟨k1.kept hb, PS.old k2 hb, k3.trans (hb.mono k3.size), hsy.same (Below.heap_alloc _ _ _ hsy.lt)⟩
                  clear HB hsy
                  go_wp2_with (at_builtin; refine wpList_push_word rfl _ _ rfl w.heap.size _ xs rfl HK.out.1 ⟨I, xb, xn, xc⟩ wr.heap.size rfl (heap_alloc_new _ _) (Nat.le_trans HXS.out (by omega)) HK.out.2.2.1.size ?_)
                  intro v' w' hp' hg'
                  have R : Hid (WdRel w ns j (I + 1) v' w') := by
                    obtain ⟨k1, k2, k3, k4⟩ := HK.out
                    refine ⟨_, hp', ?_, Fr.below k3 (Fr.grown (r := w.heap.size) hg') (Nat.le_refl _) (QRow.blk k1) k3.size⟩
                    rw [HTO.out]
                    exact (PS.keptQ k2 k1 hg').append (.cons ⟨rfl, k4.same (hg'.block _ k4.lt (k4.neQ k1))⟩ .nil)
                  clear HK hp' hg'
                  go_wp2
                  go_roundw
                  case rel => exact ⟨v, j, I + 1, rfl, rfl, by go_num, by omega, HV2.out, R.out⟩
                  case measure => simp [intOf]; omega
                | succ m =>
                  rw [show ((m + 1 : Nat) : Int) - 1 = (m : Int) from by omega]
                  have hwm : IntKind.u64.wrap (m : Int) = (m : Int) := by rw [IntKind.wrap_u64]; omega
                  have hz : bits .and .i64 ((v : Int) / 2 ^ m) 1 = ((v / 2 ^ m % 2 : Nat) : Int) := by rw [i64_mask _ 1 1 (by omega) (by decide)]; norm_cast
                  have HM : Hid (mbT v N j ++ [((v / 2 ^ m % 2 : Nat) : Int)] = mbT v N (j + 1)) := by show _ = _; rw [mbT, show N - 1 - j = m by omega]
                  generalize v / 2 ^ m % 2 = z at *
                  go_wp2_with (at_builtin; refine wpList_push_bit rfl _ _ rfl (p + 1) _ (mbT v N j) rfl (own_kept HB.out.2.1 fun k _ hk => Below.heap_alloc _ _ _ hk) (z : Int) wr.heap.size rfl (heap_alloc_new _ _) (by rw [mbT_len]; omega) (by have := HB.out.2.2.2; simp; omega) ?_)
                  intro v' w' hown hg
                  have HW : Hid (w'.heap[p]? = some (.cells #[.int .i64 I, vb] 34 (0, 0)) ∧ w'.ownsRow (p + 1) 3 1 v' (mbT v N (j + 1)).length (ivals (mbT v N (j + 1))) ∧ Below p w5 w' ∧ p < w'.heap.size) := by
                    obtain ⟨b1, b2, b3, b4⟩ := HB.out
                    have hne : ∀ k, vb.ownBlock = some k → p + 1 ≤ k := own_blk b2
                    have hs := hg.size
                    simp at hs
                    refine ⟨(hg.block p (by simp; omega) (fun e => by have := hne p e.symm; omega)).trans ((Below.heap_alloc _ _ _ b4).trans b1), by rw [← HM.out, List.length_append]; exact hown, ?_, by omega⟩
                    exact Fr.below (b3.alloc (Nat.le_of_lt b4) _) (Fr.grown (r := p) hg) (Nat.le_refl _) (fun k hk => by have := hne k hk; omega) (by simp; omega)
                  have hsh : ∃ g' n' c', v' = .slice (some ⟨g', 0, none⟩) n' c' := by
                    rcases hown.2 with ⟨_, h0⟩ | ⟨g', cap', cur, h, _⟩
                    · simp at h0
                    · exact ⟨_, _, _, h⟩
                  obtain ⟨g', n', c', hsh⟩ := hsh
                  subst hsh
                  clear hown hg HB HM c0 c1 c2
                  obtain ⟨c0, c1, c2⟩ := two_cells HW.out.1
                  have HX : Hid (BtRel w5 p I (mbT v N (j + 1)) (w'.setCell ⟨p, 1, none⟩ (.slice (some ⟨g', 0, none⟩) n' c'))) := by
                    obtain ⟨b1, b2, b3, b4⟩ := HW.out
                    refine ⟨_, two_set1 b1, own_kept b2 (fun k h1 _ => Below.heap_setCell _ _ _ _ (by simp; omega)), b3.setCell (Nat.le_refl _) _, by simpa [World.setCell] using b4⟩
                  clear HW
                  go_wp2
                  go_roundw
                  case rel => exact ⟨m, j + 1, by omega, by go_num, HX.out⟩
                  case measure => simp [intOf]
            · have hLp : (0 : Int) < (L : Int) := by
                have : (told ns N I).length ≠ 0 := fun e => ht (List.length_eq_zero_iff.1 e)
                omega
              have hL1 : decide ((0 : Int) < (L : Int)) = true := by simp; omega
              have hL2 : decide (0 < L) = true := by simp; omega
              have hwn : IntKind.u64.wrap ((N : Int) - (A : Int)) = (N : Int) - (A : Int) := by rw [IntKind.wrap_u64]; omega
              have hpw : wrap64 (((V : Int) + 1) * 2 ^ (N - A)) = (v : Int) := by
                rw [show ((V : Int) + 1) * 2 ^ (N - A) = (v : Int) by rw [← hVv]; norm_cast]
                unfold wrap64; omega
              clear ht hxl hVv
              clear hI2
              obtain ⟨w5, rfl⟩ : ∃ w5, w5 = wr := ⟨_, rfl⟩
              have HB0 : Hid (BtRel w5 w5.heap.size I (mbT v N 0) (w5.alloc (.cells #[.int .i64 I, .slice none 0 0] 34))) := ⟨.slice none 0 0, heap_alloc_new _ _, World.ownsRow_nil _ _ _ _, (Below.refl _ _).alloc (Nat.le_refl _) _, by simp⟩
              go_wp2
              rw [hpw]
              clear hpw
              go_loopw [10] (fun i wq => ∃ m j : Nat, j + m = N ∧ i = .int .i64 ((m : Int) - 1) ∧ BtRel w5 w5.heap.size I (mbT v N j) wq) (fun i _ => (intOf i + 1).toNat)
              case atStart => exact ⟨N, 0, by omega, by go_num, HB0.out⟩
              case round =>
                clear HB0 hck
                obtain ⟨m, j, hj, rfl, vb, b1, b2, b3, b4⟩ := hrel
                have HP : ∃ p, w5.heap.size = p := ⟨_, rfl⟩
                obtain ⟨p, hp⟩ := HP
                rw [hp] at b1 b2 b3 b4 HSZ ⊢
                have HP : Hid (w5.heap.size = p) := hp
                clear hp
                obtain ⟨c0, c1, c2⟩ := two_cells b1
                have HB : Hid (wr.heap[p]? = some (.cells #[.int .i64 I, vb] 34 (0, 0)) ∧ wr.ownsRow (p + 1) 3 1 vb (mbT v N j).length (ivals (mbT v N j)) ∧ Below p w5 wr ∧ p < wr.heap.size) := ⟨b1, b2, b3, b4⟩
                clear b1 b2 b3 b4
                cases m with
                | zero =>
                  obtain rfl : j = N := by omega
                  obtain ⟨⟨xw, xb, xn, xc⟩, hvx, hxw, hsy⟩ := own_sy HB.out.2.1 (by intro e; have := mbT_len v j j; rw [e] at this; simp at this; omega) (I : Int)
                  simp only at hvx hxw
                  subst hvx hxw
                  have HK : Hid (QRow (wr.alloc (.cells #[.int .i64 I, .slice (some ⟨xb, 0, none⟩) xn xc] 34)) w.heap.size (.slice ad L cp) xs ∧ PS (wr.alloc (.cells #[.int .i64 I, .slice (some ⟨xb, 0, none⟩) xn xc] 34)) xs (told ns j I) ∧ Below w.heap.size w (wr.alloc (.cells #[.int .i64 I, .slice (some ⟨xb, 0, none⟩) xn xc] 34)) ∧ Sy (wr.alloc (.cells #[.int .i64 I, .slice (some ⟨xb, 0, none⟩) xn xc] 34)) ⟨I, xb, xn, xc⟩ (mb v j)) := by
                    obtain ⟨k1, k2, k3⟩ := HQ.out
                    have hb : Below w5.heap.size w5 (wr.alloc (.cells #[.int .i64 I, .slice (some ⟨xb, 0, none⟩) xn xc] 34)) := by rw [HP.out]; exact HB.out.2.2.1.alloc (Nat.le_of_lt HB.out.2.2.2) _
                    exact ⟨k1.kept hb, PS.old k2 hb, k3.trans (hb.mono k3.size), hsy.same (Below.heap_alloc _ _ _ hsy.lt)⟩
                  clear HB hsy
                  go_wp2_with (at_builtin; refine wpList_push_word rfl _ _ rfl w.heap.size _ xs rfl HK.out.1 ⟨I, xb, xn, xc⟩ wr.heap.size rfl (heap_alloc_new _ _) (Nat.le_trans HXS.out (by omega)) HK.out.2.2.1.size ?_)
                  intro v' w' hp' hg'
                  have R : Hid (WdRel w ns j (I + 1) v' w') := by
                    obtain ⟨k1, k2, k3, k4⟩ := HK.out
                    refine ⟨_, hp', ?_, Fr.below k3 (Fr.grown (r := w.heap.size) hg') (Nat.le_refl _) (QRow.blk k1) k3.size⟩
                    rw [HTO.out]
                    exact (PS.keptQ k2 k1 hg').append (.cons ⟨rfl, k4.same (hg'.block _ k4.lt (k4.neQ k1))⟩ .nil)
                  clear HK hp' hg'
                  go_wp2
                  go_roundw
                  case rel => exact ⟨v, j, I + 1, rfl, rfl, by go_num, by omega, HV2.out, R.out⟩
                  case measure => simp [intOf]; omega
                | succ m =>
                  rw [show ((m + 1 : Nat) : Int) - 1 = (m : Int) from by omega]
                  have hwm : IntKind.u64.wrap (m : Int) = (m : Int) := by rw [IntKind.wrap_u64]; omega
                  have hz : bits .and .i64 ((v : Int) / 2 ^ m) 1 = ((v / 2 ^ m % 2 : Nat) : Int) := by rw [i64_mask _ 1 1 (by omega) (by decide)]; norm_cast
                  have HM : Hid (mbT v N j ++ [((v / 2 ^ m % 2 : Nat) : Int)] = mbT v N (j + 1)) := by show _ = _; rw [mbT, show N - 1 - j = m by omega]
                  generalize v / 2 ^ m % 2 = z at *
                  go_wp2_with (at_builtin; refine wpList_push_bit rfl _ _ rfl (p + 1) _ (mbT v N j) rfl (own_kept HB.out.2.1 fun k _ hk => Below.heap_alloc _ _ _ hk) (z : Int) wr.heap.size rfl (heap_alloc_new _ _) (by rw [mbT_len]; omega) (by have := HB.out.2.2.2; simp; omega) ?_)
                  intro v' w' hown hg
                  have HW : Hid (w'.heap[p]? = some (.cells #[.int .i64 I, vb] 34 (0, 0)) ∧ w'.ownsRow (p + 1) 3 1 v' (mbT v N (j + 1)).length (ivals (mbT v N (j + 1))) ∧ Below p w5 w' ∧ p < w'.heap.size) := by
                    obtain ⟨b1, b2, b3, b4⟩ := HB.out
                    have hne : ∀ k, vb.ownBlock = some k → p + 1 ≤ k := own_blk b2
                    have hs := hg.size
                    simp at hs
                    refine ⟨(hg.block p (by simp; omega) (fun e => by have := hne p e.symm; omega)).trans ((Below.heap_alloc _ _ _ b4).trans b1), by rw [← HM.out, List.length_append]; exact hown, ?_, by omega⟩
                    exact Fr.below (b3.alloc (Nat.le_of_lt b4) _) (Fr.grown (r := p) hg) (Nat.le_refl _) (fun k hk => by have := hne k hk; omega) (by simp; omega)
                  have hsh : ∃ g' n' c', v' = .slice (some ⟨g', 0, none⟩) n' c' := by
                    rcases hown.2 with ⟨_, h0⟩ | ⟨g', cap', cur, h, _⟩
                    · simp at h0
                    · exact ⟨_, _, _, h⟩
                  obtain ⟨g', n', c', hsh⟩ := hsh
                  subst hsh
                  clear hown hg HB HM c0 c1 c2
                  obtain ⟨c0, c1, c2⟩ := two_cells HW.out.1
                  have HX : Hid (BtRel w5 p I (mbT v N (j + 1)) (w'.setCell ⟨p, 1, none⟩ (.slice (some ⟨g', 0, none⟩) n' c'))) := by
                    obtain ⟨b1, b2, b3, b4⟩ := HW.out
                    refine ⟨_, two_set1 b1, own_kept b2 (fun k h1 _ => Below.heap_setCell _ _ _ _ (by simp; omega)), b3.setCell (Nat.le_refl _) _, by simpa [World.setCell] using b4⟩
                  clear HW
                  go_wp2
                  go_roundw
                  case rel => exact ⟨m, j + 1, by omega, by go_num, HX.out⟩
                  case measure => simp [intOf]
          · have hneb : ((hn ns I : Int) == (N : Int)) = false := by simp; omega
            have HV2 : Hid (VA ns N (I + 1) V A ∧ WdRel w ns N (I + 1) u3 wr) := by
              refine ⟨HVA.out.1.no (by rw [HN.out]; exact hlt) hI2, ?_⟩
              obtain ⟨xs, q1, q2, q3⟩ := HVA.out.2
              exact ⟨xs, q1, by rw [told_no ns hI2]; exact q2, q3⟩
            clear HVA
            go_wp2
            go_roundw
            case rel => exact ⟨V, A, I + 1, rfl, rfl, by go_num, by omega, HV2.out.1, HV2.out.2⟩
            case measure => simp [intOf]; omega
        · obtain rfl : I = len := by omega
          have HV2 : Hid (VA ns (N + 1) 0 V A ∧ WdRel w ns (N + 1) 0 u3 wr) := by
            obtain ⟨q0, xs, q1, q2, q3⟩ := HVA.out
            rw [← HN.out] at q0 q2
            exact ⟨q0.end h1, xs, q1, by rw [← told_end ns N h1]; exact q2, q3⟩
          clear HVA
          go_wp2
          go_roundw
          case rel => exact ⟨V, A, N + 1, rfl, rfl, by go_num, by omega, by omega, HV2.out.1, HV2.out.2⟩
          case measure => simp [intOf]; omega
    · obtain rfl : N = 16 := by omega
      have R : Hid (WordsPost w ns (.returned u3) wr) := by
        obtain ⟨_, xs, q1, q2, q3⟩ := HVA.out
        rw [told_fin] at q2
        exact ⟨u3, xs, rfl, q1, q2, q3⟩
      clear HVA
      go_wp2
      go_ret
      exact R.out
end Go.Proofs.Ytjellgkojmgmjaa
